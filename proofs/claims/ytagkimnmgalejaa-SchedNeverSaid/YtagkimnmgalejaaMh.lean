/- 'Queue', 'Holders'. -/
import Derived.Test.YtagkimnmgalejaaMg
namespace Go.Proofs.Ytagkimnmgalejaa.sc
open Go.RowKit Go.Shelf
set_option linter.unusedVariables false
set_option linter.unusedSimpArgs false

theorem below_drewN {B : Nat} {a w : World} (h : Below B a w) (n : Nat) : Below B a (w.drewN n) := ⟨h.os, h.tape, h.output, h.size, h.block⟩
def srt (L : List Nat) : List Int := (L.map fun k : Nat => (k : Int)).mergeSort fun x y => decide (x ≤ y)
def HoldE (w : World) (T : List Int) (b : Bool) (e : Ending) (w' : World) : Prop := ∃ v, e = .returned (.tuple #[v, .bool b]) ∧ w'.ownsRow w.heap.size 3 1 v T.length (T.map (Value.int .i64)) ∧ Below w.heap.size w w'
theorem srt_len (L : List Nat) : (srt L).length = L.length := by simp [srt]
theorem own_base {w : World} {b b' e sz n : Nat} {v : Value} {L : List Value} (h : w.ownsRow b e sz v n L) (hb : b' ≤ b) : w.ownsRow b' e sz v n L := by
  refine ⟨h.1, ?_⟩
  rcases h.2 with h1 | ⟨g, cap, cur, h1, h2, h3⟩
  · exact .inl h1
  · exact .inr ⟨g, cap, cur, h1, Nat.le_trans hb h2, h3⟩
/-- The library's sort at a row of the call's own. -/
theorem sort_any {w : World} {base c : Nat} {A : Option Addr} {L : List Nat} {m : Nat} (hm : m = L.length) (hb : base ≤ w.heap.size) (hN : m ≤ 1000000) (h : w.ownsRow base 3 1 (.slice A m c) m (L.map Iv)) :
    Calls Try.prog 31 #[.slice A m c] w (fun e w' => e = .returned (.tuple #[]) ∧ w'.ownsRow base 3 1 (.slice A m c) m ((srt L).map (Value.int .i64)) ∧ Below base w w') := by
  subst hm
  rcases Nat.eq_zero_or_pos L.length with h0 | h0
  · have hL : L = [] := List.eq_nil_of_length_eq_zero h0
    subst hL
    refine (Try.slices_Sort_int_none A c w).mono ?_
    rintro e w' ⟨rfl, rfl⟩
    exact ⟨rfl, by rw [show srt [] = [] by simp [srt]]; exact h, Below.refl _ _⟩
  · rcases h.2 with ⟨h1, h2⟩ | ⟨gg, cap, cur, h1, h2, h3, h4, h5, h6, h7⟩
    · omega
    · injection h1 with h1 h8 h9
      subst h1; subst h9
      have hlen : (L.map fun k : Nat => (k : Int)).length = L.length := by simp
      have hmap : L.map Iv = (L.map fun k : Nat => (k : Int)).map (Value.int .i64) := by simp [Iv, List.map_map, Function.comp_def]
      have hg : gg < w.heap.size := (Array.getElem?_eq_some_iff.1 h3).1
      have hH := holds_of_blockI (ss := L.map fun k : Nat => (k : Int)) h3 (by rw [hlen, ← hmap]; simpa using h7)
      have hC := Try.slices_Sort_int gg 0 c (L.map fun k : Nat => (k : Int)) w hH hg (by rw [hlen]; omega)
      rw [hlen] at hC
      refine hC.mono ?_
      rintro e w' ⟨rfl, n, os, rfl⟩
      refine ⟨rfl, ?_, ?_⟩
      · have := ownsRow_sortedI (n := n) (os := os) (ss := L.map fun k : Nat => (k : Int)) (ts := srt L) (by rw [srt_len, hlen]) h2 h3 (by rw [hlen]; exact h4) h5 h6
        rw [hlen] at this
        exact this
      · have hgr := grownBy_sortedI (w := w) (g := gg) (n := n) (os := os) (srt L).toArray
        exact ⟨hgr.os, hgr.tape, hgr.output, hgr.size, fun k hk => hgr.block k (by omega) (fun e => by injection e with e; omega)⟩
section
variable {w0 w : World} {P B M : Nat} {tg : Nat → Tag} {f : Int → Option Value} {s : Sd}
set_option maxHeartbeats 1000000 in
theorem queue_any (h : SbX w0 w P B M tg f s) (hN : s.N ≤ 1000000) {l : Int} (hl : Wf l) : Calls Try.prog 14 #[Pq P, .int .i64 l] w (IntsE w (s.queue l)) := by
  have hfew := h.few l
  obtain ⟨o, c, hv, hs, -⟩ := h.row l
  have HK := Lib.hid (claims_any h hl)
  rw [hv] at HK
  have HC := Lib.hid (only_any 32 (s.cl l).length c o (fun c => !c.held) (s.cl l) w e32 waits_any rfl (by omega) hs)
  have HD := Lib.hid (show s.queue l = tasksN ((s.cl l).filter fun c => !c.held) from rfl)
  rw [HD.out]
  have HLE := Lib.hid (List.length_filter_le (fun c : Cl => !c.held) (s.cl l))
  generalize ((s.cl l).filter fun c => !c.held) = xs at *
  generalize hm : (s.cl l).length = m at *
  unfold StE at HK
  clear hs hv h hl hm HD
  go_enter Try.func14, Try.ntmps14
  go_wp2_with fail
  refine HK.out.mono ?_
  rintro e w2 ⟨rfl, rfl⟩
  go_wp2_with fail
  refine HC.out.mono ?_
  rintro e w3 ⟨o2, c2, rfl, hs2, hG2, hb2⟩
  have HE := Lib.hid (each_any xs.length c2 o2 xs w3 rfl (by have := HLE.out; omega) hs2)
  have HB := Lib.hid hb2
  have HTL := Lib.hid (show (tasksN xs).length = xs.length by simp [tasksN])
  generalize tasksN xs = ys at *
  generalize xs.length = k at *
  clear hs2 hG2 hb2 HC HK
  go_wp2_with fail
  refine HE.out.mono ?_
  rintro e w4 hE
  obtain ⟨A, c4, rfl, ho, hb⟩ := hE.lift HB.out
  have HF := Lib.hid (show IntsE w2 ys (.returned (.slice A ys.length c4)) w4 from ⟨_, rfl, ho, hb⟩)
  generalize ys.length = q at *
  clear hE ho hb HE
  go_wp2_with fail
  go_ret
  exact HF.out
theorem headW_get {xs : List Cl} (h : 0 < xs.length) : headW xs = (g xs 0).write := by
  cases xs with
  | nil => simp at h
  | cons a r => rfl
set_option maxHeartbeats 2000000 in
theorem holders_any (h : SbX w0 w P B M tg f s) (hN : s.N ≤ 1000000) {l : Int} (hl : Wf l) : Calls Try.prog 13 #[Pq P, .int .i64 l] w (HoldE w (srt (tasksN (s.heldL l))) (headW (s.heldL l))) := by
  have hfew := h.few l
  obtain ⟨o, c, hv, hs, -⟩ := h.row l
  have HK := Lib.hid (claims_any h hl)
  rw [hv] at HK
  have HC := Lib.hid (only_any 28 (s.cl l).length c o (·.held) (s.cl l) w e28 holds_any rfl (by omega) hs)
  have HD := Lib.hid (show s.heldL l = ((s.cl l).filter (·.held)) from rfl)
  have HLE := Lib.hid (List.length_filter_le (fun c : Cl => c.held) (s.cl l))
  rw [← HD.out] at HC HLE
  generalize s.heldL l = xs at *
  generalize hm : (s.cl l).length = m at *
  unfold StE at HK
  obtain ⟨k, hk⟩ : ∃ k, xs.length = k := ⟨_, rfl⟩
  obtain ⟨ys, hys⟩ : ∃ ys, tasksN xs = ys := ⟨_, rfl⟩
  obtain ⟨T, hT⟩ : ∃ T, srt ys = T := ⟨_, rfl⟩
  obtain ⟨b, hbW⟩ : ∃ b, headW xs = b := ⟨_, rfl⟩
  rw [hys, hT, hbW]
  have HTL := Lib.hid (show ys.length = k by rw [← hys, ← hk]; simp [tasksN])
  have HYS := Lib.hid hys
  have HTT := Lib.hid hT
  have HWW := Lib.hid hbW
  have HKK := Lib.hid hk
  have hkm : k ≤ m := by have := HLE.out; omega
  clear hs hv h hl hm HD hys hT hbW
  go_enter Try.func13, Try.ntmps13
  go_wp2_with fail
  refine HK.out.mono ?_
  rintro e w2 ⟨rfl, rfl⟩
  go_wp2_with fail
  refine HC.out.mono ?_
  rintro e w3 ⟨o2, c2, rfl, hs2, hG2, hb2⟩
  have HS := Lib.hid hs2
  have HE := Lib.hid (each_any xs.length c2 o2 xs w3 rfl (by have := HLE.out; omega) hs2)
  have HB := Lib.hid hb2
  rw [HYS.out, HKK.out] at HE
  rw [HKK.out]
  clear hs2 hG2 hb2 HC HK HLE
  go_wp2_with fail
  refine HE.out.mono ?_
  rintro e w4 hE
  obtain ⟨A, c4, rfl, ho, hb⟩ := hE.lift (Below.refl _ _)
  rw [HTL.out] at ho
  have HS4 := Lib.hid (HS.out.below hb)
  have HB4 := Lib.hid (below_step HB.out hb)
  have HT := Lib.hid (sort_any HTL.out.symm hb.size (by omega) ho)
  have HLO := Lib.hid (show ∀ G, o2 = some G → G < w3.heap.size from fun G e => by subst e; exact QRow.lt (w := w3) HS.out)
  have HSZ := Lib.hid hb.size
  have HSB := Lib.hid HB.out.size
  rw [HTL.out]
  clear hE ho hb HE
  go_wp2_with fail
  refine HT.out.mono ?_
  rintro e w5 ⟨rfl, ho5, hb5⟩
  have HS5 := Lib.hid (HS4.out.of_block (w' := w5) fun G e => hb5.block G (HLO.out G e))
  have HB5 := Lib.hid (HB4.out.trans (hb5.mono HSB.out))
  have HO5 := Lib.hid (own_base ho5 HSB.out)
  have HSL := Lib.hid (show (srt ys).length = k by rw [srt_len, HTL.out])
  rw [HTT.out] at HO5 HSL
  clear ho5 hb5 HT
  by_cases e : k = 0
  · have HW := Lib.hid (show b = false by rw [← HWW.out, List.eq_nil_of_length_eq_zero (HKK.out.trans e)]; rfl)
    subst e
    have HF := Lib.hid (show ∀ nq, HoldE w2 T b (.returned (.tuple #[.slice A (0 : Nat) c4, .bool false])) (w5.drewN nq) from fun nq => ⟨_, by rw [HW.out], by rw [HSL.out]; exact HO5.out, below_drewN HB5.out nq⟩)
    clear hkm HW
    go_wp2_with fail
    go_quiet (fail)
    go_wp2_with fail
    go_ret2
    exact HF.out _
  · cases o2 with
    | none => exact absurd HS5.out.1 (by intro e2; have := HKK.out; rw [e2] at this; simp at this; omega)
    | some G =>
      have ha := (HS5.out : QRow w5 G c2 xs).at_ (i := 0) (by rw [HKK.out]; omega)
      have HW := Lib.hid (headW_get (xs := xs) (by rw [HKK.out]; omega))
      have a1 : w5.cell? ⟨G, 1, none⟩ = some (.bool (g xs 0).write) := ha.t
      rw [← HW.out, HWW.out] at a1
      have HF := Lib.hid (show ∀ nq, HoldE w2 T b (.returned (.tuple #[.slice A k c4, .bool b])) (w5.drewN nq) from fun nq => ⟨_, rfl, by rw [HSL.out]; exact HO5.out, below_drewN HB5.out nq⟩)
      have hk0 : 0 < k := by omega
      have hcap : k ≤ c2 := by have := (HS5.out : QRow w5 G c2 xs).1; rw [HKK.out] at this; exact this
      clear ha HW
      go_wp2_with fail
      go_quiet (fail)
      go_wp2_with fail
      go_ret2
      exact HF.out _
end
end Go.Proofs.Ytagkimnmgalejaa.sc
