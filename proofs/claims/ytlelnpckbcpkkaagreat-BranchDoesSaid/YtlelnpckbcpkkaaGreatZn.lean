/- 'large' and 'play': a branch that came of acts. 'play': a branch that came of acts. -/
import Derived.Test.YtlelnpckbcpkkaaGreatZl
import Derived.Lib.ConvBytes
import Derived.StillTailTactics
import Derived.Deep.LoopGhost
namespace Go.Proofs.YtlelnpckbcpkkaaGreat.cb
open Go.RowKit
open Go.Proofs.YtlelnpckbcpkkaaGreat.br
open Go.Proofs.YtlelnpckbcpkkaaGreat.bl (AB WR Pq U8)
set_option linter.unusedVariables false
set_option linter.unusedSimpArgs false

/-- A string's bytes. -/
def sF (s : ByteArray) : Nat → UInt8 := fun j => s.data.toList.getD j 0
/-- '[]byte(s)'. -/
theorem conv_bytes (w : World) (s : ByteArray) (hs : s.size ≤ 1000000) : ∃ c w', (convert 9 40 (.string s)).run Tryz.prog w = .ok (.slice (some ⟨w.heap.size, 0, none⟩) s.size c) w' ∧ s.size ≤ c ∧ c ≤ maxLen ∧ Below w.heap.size w w' ∧ w.heap.size < w'.heap.size ∧ ∀ j, j < s.size → w'.cell? ⟨w.heap.size, 0 + j, none⟩ = some (U8 (sF s j)) := by
  refine ⟨_, _, Lib.run_convert_string_bytes w 9 40 5 s Tryz.underlying9 Tryz.underlying40 Tryz.underlying5, grownCap_ge _ _ _ _, grownCap_le_maxLen _ _ _ _ (by unfold maxLen; omega), ?_, by rw [Lib.bytesWorld_size]; omega, fun j hj => ?_⟩
  · refine ⟨?_, ?_, ?_, by rw [Lib.bytesWorld_size]; omega, fun k hk => Lib.bytesWorld_at_old w 5 s k hk⟩
    · simp [Lib.bytesWorld, World.freeze] <;> rfl
    · simp [Lib.bytesWorld, World.freeze] <;> rfl
    · simp [Lib.bytesWorld, World.freeze] <;> rfl
  · rw [Nat.zero_add]; exact Lib.bytesWorld_cell w 5 s j hj
abbrev ActV (x : Act7) : Value := .agg #[.int .i64 x.kind, .int .i64 x.d, .int .i64 x.t, .int .i64 x.n, .string x.a, .string x.b, .int .i64 x.off]
def largeB (x : Act7) : Bool := decide (4096 < x.b.size) || (decide (131072 < x.n) && decide (x.kind = 6))
def RetB (w : World) (b : Bool) (e : Ending) (w' : World) : Prop := e = .returned (.bool b) ∧ Below w.heap.size w w'
set_option maxRecDepth 100000 in
set_option maxHeartbeats 1000000 in
theorem large_any (x : Act7) (w : World) (hl : x.b.size ≤ maxLen) : Calls Tryz.prog 14 #[ActV x] w (RetB w (largeB x)) := by
  obtain ⟨k, d, t, n, a, b, off⟩ := x
  dsimp only at hl ⊢
  have hlen : (b.size : Int) ≤ 9223372036854775807 := by unfold maxLen at hl; omega
  by_cases h1 : 4096 < (b.size : Int)
  · have HE := Lib.hid (show largeB ⟨k, d, t, n, a, b, off⟩ = true by unfold largeB; simp; omega)
    generalize largeB ⟨k, d, t, n, a, b, off⟩ = r at HE ⊢
    clear hl
    go_enter Tryz.func14, Tryz.ntmps14
    go_wp2_with fail
    go_ret
    exact ⟨by rw [HE.out]; simp [h1], dn.below_alloc _ _⟩
  · by_cases h2 : 131072 < n
    · by_cases h3 : k = 6
      · have HE := Lib.hid (show largeB ⟨k, d, t, n, a, b, off⟩ = true by unfold largeB; simp [h2, h3])
        generalize largeB ⟨k, d, t, n, a, b, off⟩ = r at HE ⊢
        subst h3
        clear hl
        go_enter Tryz.func14, Tryz.ntmps14
        go_wp2_with fail
        go_ret
        exact ⟨by rw [HE.out]; rfl, dn.below_alloc _ _⟩
      · have HE := Lib.hid (show largeB ⟨k, d, t, n, a, b, off⟩ = false by unfold largeB; simp [h3]; omega)
        generalize largeB ⟨k, d, t, n, a, b, off⟩ = r at HE ⊢
        have q3 : (k == 6) = false := by simpa using h3
        clear hl h3
        go_enter Tryz.func14, Tryz.ntmps14
        go_wp2_with fail
        go_ret
        exact ⟨by rw [HE.out]; rfl, dn.below_alloc _ _⟩
    · have HE := Lib.hid (show largeB ⟨k, d, t, n, a, b, off⟩ = false by unfold largeB; simp; omega)
      generalize largeB ⟨k, d, t, n, a, b, off⟩ = r at HE ⊢
      clear hl
      go_enter Tryz.func14, Tryz.ntmps14
      go_wp2_with fail
      go_ret
      exact ⟨by rw [HE.out]; rfl, dn.below_alloc _ _⟩
end Go.Proofs.YtlelnpckbcpkkaaGreat.cb
namespace Go.Proofs.YtlelnpckbcpkkaaGreat.cb
open Go.RowKit
open Go.Proofs.YtlelnpckbcpkkaaGreat.br
open Go.Proofs.YtlelnpckbcpkkaaGreat.bl (AB WR Pq U8)
set_option linter.unusedVariables false
set_option linter.unusedSimpArgs false

theorem BrX.up {w0 w : World} {P room T T' : Nat} {X : Nat → Prop} {S : BS} (h : BrX w0 w P X S room T) (hT : T ≤ T') : BrX w0 w P X S room T' := by
  obtain ⟨st, qb, qo, pl, tag, Tq, h1, h2, h3, h4, h5, h6, h7⟩ := h
  exact ⟨st, qb, qo, pl, tag, Tq, h1, by omega, h3, h4, h5.mono (by omega), h6, h7⟩
/-- What every call leaves. -/
abbrev Bx (w0 w : World) (P : Nat) (room T : Nat) : Prop := ∃ S, BrX w0 w P No S room T
theorem x_data {w0 w w1 : World} {P room T : Nat} {S : BS} {s : ByteArray} {c : Nat} (h : BrX w0 w P No S room T) (hc : s.size ≤ c) (hm : c ≤ maxLen) (hb : Below w.heap.size w w1) (hlt : w.heap.size < w1.heap.size) (hf : ∀ j, j < s.size → w1.cell? ⟨w.heap.size, 0 + j, none⟩ = some (U8 (sF s j))) (i off : Int) :
    Calls Tryz.prog 33 #[Pq P, .int .i64 i, .int .i64 off, .slice (some ⟨w.heap.size, 0, none⟩) s.size c] w1 (fun e w' => ∃ p err S', WrI S room i off s.size (sF s) p err S' ∧ e = .returned (.tuple #[.int .i64 (p : Int), .int .i64 err]) ∧ BrX w0 w' P No S' room (T + 1)) :=
  (x_write (h.over hb) i off _ s.size c (sF s) (fun j hj => ⟨w.heap.size, 0, rfl, .inr (.inl ⟨Nat.le_refl _, hlt⟩), hf j hj⟩) hc hm).mono fun _ _ ⟨p, err, S', h1, h2, h3, _⟩ => ⟨p, err, S', h1, h2, h3.forget⟩
theorem box7 (w w' : World) (v0 v1 v2 v3 v4 v5 v6 : Value) (t : TypeId) (h : Below (w.alloc (.cells #[v0, v1, v2, v3, v4, v5, v6] t)).heap.size (w.alloc (.cells #[v0, v1, v2, v3, v4, v5, v6] t)) w') :
    w'.cell? ⟨w.heap.size, 0, none⟩ = some v0 ∧ w'.cell? ⟨w.heap.size, 1, none⟩ = some v1 ∧ w'.cell? ⟨w.heap.size, 2, none⟩ = some v2 ∧ w'.cell? ⟨w.heap.size, 3, none⟩ = some v3 ∧ w'.cell? ⟨w.heap.size, 4, none⟩ = some v4 ∧ w'.cell? ⟨w.heap.size, 5, none⟩ = some v5 ∧ w'.cell? ⟨w.heap.size, 6, none⟩ = some v6 := by
  have hz := World.size_alloc w (.cells #[v0, v1, v2, v3, v4, v5, v6] t)
  refine ⟨(h.cell (p := ⟨w.heap.size, 0, none⟩) (by show w.heap.size < _; omega)).trans ?_, (h.cell (p := ⟨w.heap.size, 1, none⟩) (by show w.heap.size < _; omega)).trans ?_, (h.cell (p := ⟨w.heap.size, 2, none⟩) (by show w.heap.size < _; omega)).trans ?_, (h.cell (p := ⟨w.heap.size, 3, none⟩) (by show w.heap.size < _; omega)).trans ?_, (h.cell (p := ⟨w.heap.size, 4, none⟩) (by show w.heap.size < _; omega)).trans ?_, (h.cell (p := ⟨w.heap.size, 5, none⟩) (by show w.heap.size < _; omega)).trans ?_, (h.cell (p := ⟨w.heap.size, 6, none⟩) (by show w.heap.size < _; omega)).trans ?_⟩ <;> simp
def PlayE (w0 : World) (P room : Nat) (e : Ending) (w' : World) : Prop := ∃ (b : Bool) (S : BS), e = .returned (.bool b) ∧ BrX w0 w' P No S room 80
set_option maxRecDepth 100000 in
set_option maxHeartbeats 8000000 in
theorem play_any (A : Option Addr) (n c : Nat) (F : Nat → Act7) (w0 w : World) (P room : Nat) (hn : n ≤ maxLen) (hF : Acts w0 w0.heap.size A n F) {S : BS} (hb : BrX w0 w P No S room 0) :
    Calls Tryz.prog 22 #[Pq P, .slice A n c] w (PlayE w0 P room) := by
  have hnm : n ≤ 9223372036854775807 := hn
  have HA := Lib.hid hF
  have H1 := Lib.hid hb
  clear hn hF hb
  go_enter Tryz.func22, Tryz.ntmps22
  go_wp2_with fail
  go_loopg [5] 80 (fun g s5 wr => ∃ (k : Nat) (S : BS), g + k = 80 ∧ k ≤ n ∧ s5 = .int .i64 k ∧ Hid (BrX w0 wr P No S room k))
  case atStart => exact ⟨0, S, by omega, by omega, rfl, H1⟩
  case round =>
    clear H1
    obtain ⟨k, S, hgk, hk, rfl, HD⟩ := hrel
    by_cases hgo : k < n ∧ k < 80
    · obtain ⟨hkn, hk2⟩ := hgo
      have hbr := HD.out.bel
      obtain ⟨b, off, rfl, hbl, f0, f1, f2, f3, f4, f5, f6, hsa, hsb⟩ := (HA.out.below hbr) k hkn
      have HA7 : (F k).a.size ≤ 9223372036854775807 := hsa
      have HB7 : (F k).b.size ≤ 9223372036854775807 := hsb
      have HL := Lib.hid (fun w => large_any (F k) w hsb)
      have hblr : b < wr.heap.size := Nat.lt_of_lt_of_le hbl hbr.size
      have hlb : largeB (F k) = false → (F k).b.size ≤ 4096 := fun h => by
        unfold largeB at h
        simp at h
        exact h.1
      generalize F k = x at *
      generalize hlg : largeB x = lg at *
      obtain ⟨xk, xd, xt, xn, xa, xb, xo⟩ := x
      dsimp only at f0 f1 f2 f3 f4 f5 f6 HA7 HB7 HL hlb
      clear hsa hsb hbr hlg
      go_wp2_with fail
      refine (HL.out _).mono ?_
      rintro e w2 ⟨rfl, hb2⟩
      obtain ⟨b0, b1, b2, b3, b4, b5, b6⟩ := box7 _ _ _ _ _ _ _ _ _ _ hb2
      have H2 := Lib.hid (HD.out.below ((dn.below_alloc wr _).trans (hb2.mono (by rw [World.size_alloc]; omega))))
      generalize wr.heap.size = G at *
      clear hb2 HL HD f0 f1 f2 f3 f4 f5 f6 hbl hblr HA
      cases lg with
      | true =>
        have HE := Lib.hid (H2.out.up (T' := 80) (by omega))
        go_wp2_with fail
        try rw [Exit.noGoto_ret]
        go_ret
        exact ⟨false, S, rfl, HE.out⟩
      | false =>
        have hb4 := hlb rfl
        clear hlb
        by_cases e0 : xk = 0
        · subst e0
          have HX := Lib.hid (show Calls Tryz.prog 28 _ _ (fun e w' => (∃ v, e = .returned v) ∧ BrX w0 w' P No (S.make xd xa xn xb).2 room (k + 1)) from (let h := H2.out; x_make h (by omega) xd xa xn xb HA7 HB7).mono fun _ _ hx => ⟨⟨_, hx.1⟩, hx.2.1⟩)
          clear H2 HA7 HB7 hb4
          go_wp2_with fail
          refine HX.out.mono ?_
          rintro e w3 ⟨⟨v3, rfl⟩, h3⟩
          have H3 := Lib.hid h3
          clear h3 HX b0 b1 b2 b3 b4 b5 b6
          go_wp2_with fail
          go_roundg (gk - 1)
          case measure => omega
          case rel => exact ⟨k + 1, _, by omega, by omega, by go_num, H3⟩
        by_cases e1 : xk = 1
        · subst e1
          have HX := Lib.hid (show Calls Tryz.prog 29 _ _ (fun e w' => (∃ v, e = .returned v) ∧ BrX w0 w' P No (S.link xd xa xt).2 room (k + 1)) from (let h := H2.out; x_link h xd xa xt HA7).mono fun _ _ hx => ⟨⟨_, hx.1⟩, hx.2.1⟩)
          clear H2 HA7 HB7 hb4
          go_wp2_with fail
          refine HX.out.mono ?_
          rintro e w3 ⟨⟨v3, rfl⟩, h3⟩
          have H3 := Lib.hid h3
          clear h3 HX b0 b1 b2 b3 b4 b5 b6
          go_wp2_with fail
          go_roundg (gk - 1)
          case measure => omega
          case rel => exact ⟨k + 1, _, by omega, by omega, by go_num, H3⟩
        by_cases e2 : xk = 2
        · subst e2
          have HX := Lib.hid (show Calls Tryz.prog 30 _ _ (fun e w' => (∃ v, e = .returned v) ∧ BrX w0 w' P No (S.unlink xd xa).2 room (k + 1)) from (let h := H2.out; x_unlink h (by omega) xd xa).mono fun _ _ hx => ⟨⟨_, hx.1⟩, hx.2.1⟩)
          clear H2 HA7 HB7 hb4
          go_wp2_with fail
          refine HX.out.mono ?_
          rintro e w3 ⟨⟨v3, rfl⟩, h3⟩
          have H3 := Lib.hid h3
          clear h3 HX b0 b1 b2 b3 b4 b5 b6
          go_wp2_with fail
          go_roundg (gk - 1)
          case measure => omega
          case rel => exact ⟨k + 1, _, by omega, by omega, by go_num, H3⟩
        by_cases e3 : xk = 3
        · subst e3
          have HX := Lib.hid (show Calls Tryz.prog 31 _ _ (fun e w' => (∃ v, e = .returned v) ∧ BrX w0 w' P No (S.rmdir xd xa).2 room (k + 1)) from (let h := H2.out; x_rmdir h (by omega) xd xa).mono fun _ _ hx => ⟨⟨_, hx.1⟩, hx.2.1⟩)
          clear H2 HA7 HB7 hb4
          go_wp2_with fail
          refine HX.out.mono ?_
          rintro e w3 ⟨⟨v3, rfl⟩, h3⟩
          have H3 := Lib.hid h3
          clear h3 HX b0 b1 b2 b3 b4 b5 b6
          go_wp2_with fail
          go_roundg (gk - 1)
          case measure => omega
          case rel => exact ⟨k + 1, _, by omega, by omega, by go_num, H3⟩
        by_cases e4 : xk = 4
        · subst e4
          have HX := Lib.hid (show Calls Tryz.prog 32 _ _ (fun e w' => (∃ v, e = .returned v) ∧ BrX w0 w' P No (S.rename xd xa xt xb).2 room (k + 1)) from (let h := H2.out; x_rename h (by omega) xd xa xt xb HB7).mono fun _ _ hx => ⟨⟨_, hx.1⟩, hx.2.1⟩)
          clear H2 HA7 HB7 hb4
          go_wp2_with fail
          refine HX.out.mono ?_
          rintro e w3 ⟨⟨v3, rfl⟩, h3⟩
          have H3 := Lib.hid h3
          clear h3 HX b0 b1 b2 b3 b4 b5 b6
          go_wp2_with fail
          go_roundg (gk - 1)
          case measure => omega
          case rel => exact ⟨k + 1, _, by omega, by omega, by go_num, H3⟩
        by_cases e7 : xk = 7
        · subst e7
          have HX := Lib.hid (show Calls Tryz.prog 35 _ _ (fun e w' => (∃ v, e = .returned v) ∧ BrX w0 w' P No (S.cutI xd xo).2 room (k + 1)) from (let h := H2.out; x_cut h xd xo).mono fun _ _ hx => ⟨⟨_, hx.1⟩, hx.2.1⟩)
          clear H2 HA7 HB7 hb4
          go_wp2_with fail
          refine HX.out.mono ?_
          rintro e w3 ⟨⟨v3, rfl⟩, h3⟩
          have H3 := Lib.hid h3
          clear h3 HX b0 b1 b2 b3 b4 b5 b6
          go_wp2_with fail
          go_roundg (gk - 1)
          case measure => omega
          case rel => exact ⟨k + 1, _, by omega, by omega, by go_num, H3⟩
        by_cases e8 : xk = 8
        · subst e8
          have HX := Lib.hid (show Calls Tryz.prog 36 _ _ (fun e w' => (∃ v, e = .returned v) ∧ BrX w0 w' P No (S.hold xd).2 room (k + 1)) from (let h := H2.out; x_hold h (by omega) xd).mono fun _ _ hx => ⟨⟨_, hx.1⟩, hx.2.1⟩)
          clear H2 HA7 HB7 hb4
          go_wp2_with fail
          refine HX.out.mono ?_
          rintro e w3 ⟨⟨v3, rfl⟩, h3⟩
          have H3 := Lib.hid h3
          clear h3 HX b0 b1 b2 b3 b4 b5 b6
          go_wp2_with fail
          go_roundg (gk - 1)
          case measure => omega
          case rel => exact ⟨k + 1, _, by omega, by omega, by go_num, H3⟩
        by_cases e9 : xk = 9
        · subst e9
          have HX := Lib.hid (show Calls Tryz.prog 37 _ _ (fun e w' => (∃ v, e = .returned v) ∧ BrX w0 w' P No (S.release xd).2 room (k + 1)) from (let h := H2.out; x_release h (by omega) xd).mono fun _ _ hx => ⟨⟨_, hx.1⟩, hx.2.1⟩)
          clear H2 HA7 HB7 hb4
          go_wp2_with fail
          refine HX.out.mono ?_
          rintro e w3 ⟨⟨v3, rfl⟩, h3⟩
          have H3 := Lib.hid h3
          clear h3 HX b0 b1 b2 b3 b4 b5 b6
          go_wp2_with fail
          go_roundg (gk - 1)
          case measure => omega
          case rel => exact ⟨k + 1, _, by omega, by omega, by go_num, H3⟩
        by_cases e10 : xk = 10
        · subst e10
          have HX := Lib.hid (show Calls Tryz.prog 38 _ _ (fun e w' => (∃ v, e = .returned v) ∧ BrX w0 w' P No (S.mark xd xn).2 room (k + 1)) from (let h := H2.out; x_mark h xd xn).mono fun _ _ hx => ⟨⟨_, hx.1⟩, hx.2.1⟩)
          clear H2 HA7 HB7 hb4
          go_wp2_with fail
          refine HX.out.mono ?_
          rintro e w3 ⟨⟨v3, rfl⟩, h3⟩
          have H3 := Lib.hid h3
          clear h3 HX b0 b1 b2 b3 b4 b5 b6
          go_wp2_with fail
          go_roundg (gk - 1)
          case measure => omega
          case rel => exact ⟨k + 1, _, by omega, by omega, by go_num, H3⟩
        by_cases e5 : xk = 5
        · subst e5
          obtain ⟨c5, w5, hcv, hc1, hc2, hb5, hlt5, hf5⟩ := conv_bytes w2 xb (by omega)
          have HX := Lib.hid (x_data H2.out hc1 hc2 hb5 hlt5 hf5 xd xo)
          clear H2 HA7 HB7 hb4 hc1 hc2 hb5 hlt5 hf5
          go_wp2_with fail
          refine HX.out.mono ?_
          rintro e w3 ⟨p, err, S', -, rfl, h3⟩
          have H3 := Lib.hid h3
          clear h3 HX b0 b1 b2 b3 b4 b5 b6
          go_wp2_with fail
          go_roundg (gk - 1)
          case measure => omega
          case rel => exact ⟨k + 1, _, by omega, by omega, by go_num, H3⟩
        by_cases e6 : xk = 6
        · subst e6
          have HX := Lib.hid (x_read H2.out xd xo xn)
          unfold ReadI at HX
          clear HA7 HB7 hb4
          go_wp2_with fail
          refine HX.out.mono ?_
          rintro e w3 ⟨A6, c6, rfl, -, h3⟩
          have H3 := Lib.hid ((H2.out.below h3).up (T' := k + 1) (by omega))
          clear h3 HX b0 b1 b2 b3 b4 b5 b6 H2
          go_wp2_with fail
          go_roundg (gk - 1)
          case measure => omega
          case rel => exact ⟨k + 1, _, by omega, by omega, by go_num, H3⟩
        have H3 := Lib.hid (H2.out.up (T' := k + 1) (by omega))
        clear H2 HA7 HB7 hb4
        have q0 : (xk == 0) = false := by simp; omega
        have q1 : (xk == 1) = false := by simp; omega
        have q2 : (xk == 2) = false := by simp; omega
        have q3 : (xk == 3) = false := by simp; omega
        have q4 : (xk == 4) = false := by simp; omega
        have q5 : (xk == 5) = false := by simp; omega
        have q6 : (xk == 6) = false := by simp; omega
        have q7 : (xk == 7) = false := by simp; omega
        have q8 : (xk == 8) = false := by simp; omega
        have q9 : (xk == 9) = false := by simp; omega
        have q10 : (xk == 10) = false := by simp; omega
        clear e0 e1 e2 e3 e4 e5 e6 e7 e8 e9 e10
        go_wp2_with fail
        go_roundg (gk - 1)
        case measure => omega
        case rel => exact ⟨k + 1, _, by omega, by omega, by go_num, H3⟩
    · have HE := Lib.hid (HD.out.up (T' := 80) (by omega))
      have hkn : ¬ ((k : Int) < (n : Int)) ∨ ¬ ((k : Int) < 80) := by omega
      clear HD HA
      rcases hkn with hkn | hkn
      · go_wp2_with fail
        go_ret
        exact ⟨true, S, rfl, HE.out⟩
      · have hk8 : k = 80 := by omega
        by_cases hk9 : (k : Int) < (n : Int)
        · go_wp2_with fail
          go_ret
          exact ⟨true, S, rfl, HE.out⟩
        · go_wp2_with fail
          go_ret
          exact ⟨true, S, rfl, HE.out⟩
end Go.Proofs.YtlelnpckbcpkkaaGreat.cb
