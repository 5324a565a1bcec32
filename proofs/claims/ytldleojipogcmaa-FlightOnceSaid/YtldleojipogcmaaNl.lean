/- 'Land'. -/
import Derived.Test.YtldleojipogcmaaNk
namespace Go.Proofs.Ytldleojipogcmaa.fl
open Go.RowKit
set_option linter.unusedVariables false
set_option linter.unusedSimpArgs false

def LandE (w0 w : World) (P A B C : Nat) (tg : Nat → Tag) (r : List Int × Int × Fs) (e : Ending) (w' : World) : Prop := ∃ v f' tg', e = .returned (.tuple #[v, .int .i64 r.2.1]) ∧ OI w' w0.heap.size v r.1 ∧ TX w0 w' P A B C tg' f' r.2.2 ∧ Kp tg tg' w w' ∧ ∀ g, v.ownBlock = some g → tg' g = .no
theorem abF_uno (ab : Int → Bool) (a : Int) : uno (abF ab) a = abF (fun x => ab x && !decide (x = a)) := by
  funext x; unfold uno abF; by_cases e : x = a <;> simp [e]
theorem resF_ups (r : Int → Option Int) (a e : Int) : ups (resF r) a (.int .i64 e) = resF (upf r a (some e)) := by
  funext x; unfold ups resF upf; by_cases h : x = a <;> simp [h]
theorem Kp.trans {tg : Nat → Tag} {w w1 w2 : World} (h : Kp tg tg w w1) (k : Kp tg tg w1 w2) : Kp tg tg w w2 := .of_only (h.only.trans k.only)
section
variable {w0 w : World} {P A B C : Nat} {tg : Nat → Tag} {f : Int → Option Value} {s : Fs}
/-- The rows of a flight that is no more are nobody's. -/
theorem TX.drop (h : TX w0 w P A B C tg f s) {k : Int} (hk : s.fl k = none) : ∃ tg', TX w0 w P A B C tg' f s ∧ (∀ b, tg b = .row k → tg' b = .no) ∧ ∀ b, tg' b ≠ .no → tg b ≠ .no := by
  obtain ⟨tg', h1, h2⟩ : ∃ tg' : Nat → Tag, (∀ b, tg b = .row k → tg' b = .no) ∧ (∀ b, tg b ≠ .row k → tg' b = tg b) :=
    ⟨fun b => @ite _ (tg b = .row k) (Classical.propDecidable _) .no (tg b), fun b hb => if_pos hb, fun b hb => if_neg hb⟩
  have h3 : ∀ b, tg' b ≠ .no → tg b ≠ .no ∧ tg b ≠ .row k := fun b hb => by
    have : tg b ≠ .row k := fun e => hb (h1 b e)
    exact ⟨by rw [← h2 b this]; exact hb, this⟩
  refine ⟨tg', ⟨fun b hb => h.own b (h3 b hb).1, h.bel, ?_, ?_, ?_, ?_, h.p0, h.p1, h.p2, h.mA, h.mB, h.mC, fun y => ?_, h.wf⟩, h1, fun b hb => (h3 b hb).1⟩
  · rw [h2 P (by rw [h.tP]; simp)]; exact h.tP
  · rw [h2 A (by rw [h.tA]; simp)]; exact h.tA
  · rw [h2 B (by rw [h.tB]; simp)]; exact h.tB
  · rw [h2 C (by rw [h.tC]; simp)]; exact h.tC
  · by_cases e : y = k
    · subst e
      have := h.row y
      rw [hk] at this ⊢
      exact this
    · exact (h.row y).keep fun b hb => ⟨rfl, by rw [h2 b (by rw [hb]; intro e2; injection e2 with e2; exact e e2)]; exact hb⟩
/-- A flight that has landed with the first j told. -/
def Fs.at_ (s : Fs) (k l : Int) (xs : List Int) (e : Int) (j : Nat) : Fs := s.told k l (xs.take j) e (s.K + j)
theorem TX.tell {k l e : Int} {xs : List Int} {j : Nat} (h : TX w0 w P A B C tg f (s.at_ k l xs e j)) (hK : s.K + j ≤ 900000) (hj : j < xs.length) (hw : Wf (xs.getD j 0)) :
    ∃ w1 w2, (Builtin.delete_ #[51, 3] 0 #[.map (some B), .int .i64 (xs.getD j 0)]).run Try.prog w = .ok (.tuple #[]) w1 ∧ w1.cell? ⟨P, 2, none⟩ = some (.map (some C)) ∧ (Instr.mapUpdate 27 (.map (some C)) (.int .i64 (xs.getD j 0)) (.int .i64 e)).run Try.prog w1 = .ok () w2 ∧ TX w0 w2 P A B C tg f (s.at_ k l xs e (j + 1)) ∧ Only (fun b => b = B ∨ b = C) w w2 := by
  obtain ⟨n, S, hn, hm⟩ := h.mB
  obtain ⟨w1, hdel, hm1, hg1⟩ := hm.del Try.underlying51 hw 0
  rw [abF_uno] at hm1
  have h1 := h.turnB hg1 hn hm1
  obtain ⟨n2, S2, hn2, hm2⟩ := h1.mC
  have hn3 : n2 ≤ s.K + j := hn2
  obtain ⟨w2, hput, hm3, hg3⟩ := hm2.put Try.underlying27 (by omega) hw (.int .i64 e)
  rw [resF_ups] at hm3
  have h2 := h1.turnC (K := s.K + (j + 1)) hg3 (by omega) hm3
  have hx : xs.take (j + 1) = xs.take j ++ [xs.getD j 0] := by rw [List.take_succ_eq_append_getElem hj]; simp [List.getD, List.getElem?_eq_getElem hj]
  refine ⟨w1, w2, hdel, h1.p2, hput, ?_, (Only.of_grown hg1 (F := fun b => b = B ∨ b = C) fun k e => .inl (Option.some.inj e).symm).trans (Only.of_grown hg3 fun k e => .inr (Option.some.inj e).symm)⟩
  have e1 : (s.at_ k l xs e (j + 1)).ab = fun x => (s.at_ k l xs e j).ab x && !decide (x = xs.getD j 0) := by
    funext x
    show (s.ab x && !decide (x = l) && !decide (x ∈ xs.take (j + 1))) = _
    rw [hx]
    show _ = (s.ab x && !decide (x = l) && !decide (x ∈ xs.take j) && !decide (x = xs.getD j 0))
    simp only [List.mem_append, List.mem_singleton, Bool.decide_or, Bool.not_or, Bool.and_assoc]
  have e2 : (s.at_ k l xs e (j + 1)).res = upf (s.at_ k l xs e j).res (xs.getD j 0) (some e) := by
    funext x
    show (if x ∈ xs.take (j + 1) then some e else s.res x) = _
    rw [hx]
    unfold upf
    by_cases h5 : x = xs.getD j 0
    · rw [if_pos h5, if_pos (by simp [h5])]
    · rw [if_neg h5]
      show _ = if x ∈ xs.take j then some e else s.res x
      simp only [List.mem_append, List.mem_singleton, h5, or_false]
  have e3 : s.at_ k l xs e (j + 1) = { s.at_ k l xs e j with ab := (s.at_ k l xs e (j + 1)).ab, res := (s.at_ k l xs e (j + 1)).res, K := s.K + (j + 1) } := rfl
  rw [e3, e1, e2]
  exact h2
set_option maxHeartbeats 2000000 in
theorem land_no (h : TX w0 w P A B C tg f s) {k who e : Int} (hk : Wf k) (hf : s.fl k = none) : Calls Try.prog 10 #[Pq P, .int .i64 k, .int .i64 who, .int .i64 e] w (LandE w0 w P A B C tg (s.land k who e)) := by
  have p0 := h.p0
  have hA := h.lookA hk
  have hfk : f k = none := by have := h.row k; rw [hf] at this; exact this
  rw [hfk, hf] at hA
  have hA2 : (Instr.lookup 50 (.map (some A)) (.int .i64 k) true).run Try.prog w = .ok (.tuple #[FZ, .bool false]) w := hA
  have HF := Lib.hid (show ∀ w', Below w.heap.size w w' → LandE w0 w P A B C tg (s.land k who e) (.returned (.tuple #[.slice none 0 0, .int .i64 2])) w' from fun w' hb => by
    unfold Fs.land
    rw [hf]
    exact ⟨_, f, tg, rfl, World.ownsRow_nil _ _ _ _, h.below hb, .of_only (below_only hb _), fun g e => nomatch e⟩)
  have hb := below_alloc w (.cells #[.int .i64 0, .slice none 0 0] 55)
  have HF2 := Lib.hid (HF.out _ hb)
  generalize s.land k who e = r at *
  clear h hk hf hA hfk hb HF
  go_enter Try.func10, Try.ntmps10
  go_wp2_with fail
  go_ret2
  exact HF2.out
set_option maxHeartbeats 2000000 in
theorem land_not (h : TX w0 w P A B C tg f s) {k who e l : Int} {xs : List Int} (hk : Wf k) (hf : s.fl k = some (l, xs)) (hl : l ≠ who) : Calls Try.prog 10 #[Pq P, .int .i64 k, .int .i64 who, .int .i64 e] w (LandE w0 w P A B C tg (s.land k who e)) := by
  have p0 := h.p0
  have hA := h.lookA hk
  obtain ⟨sv, hfk, hO, htag⟩ : ∃ sv, f k = some (.agg #[.int .i64 l, sv]) ∧ OI w w0.heap.size sv xs ∧ ∀ g, sv.ownBlock = some g → tg g = .row k := by have := h.row k; rw [hf] at this; exact this
  obtain ⟨Q, c, rfl⟩ := hO.form
  rw [hfk, hf] at hA
  have HF := Lib.hid (show ∀ w', Below w.heap.size w w' → LandE w0 w P A B C tg (s.land k who e) (.returned (.tuple #[.slice none 0 0, .int .i64 1])) w' from fun w' hb => by
    unfold Fs.land
    rw [hf]
    dsimp only
    rw [if_neg hl]
    exact ⟨_, f, tg, rfl, World.ownsRow_nil _ _ _ _, h.below hb, .of_only (below_only hb _), fun g e => nomatch e⟩)
  generalize xs.length = m at *
  have hA2 : (Instr.lookup 50 (.map (some A)) (.int .i64 k) true).run Try.prog w = .ok (.tuple #[.agg #[.int .i64 l, .slice Q m c], .bool true]) w := hA
  have hb := below_alloc w (.cells #[.int .i64 l, .slice Q m c] 55)
  have HF2 := Lib.hid (HF.out _ hb)
  generalize s.land k who e = r at *
  clear h hk hf hA hfk hb HF hO htag
  go_enter Try.func10, Try.ntmps10
  go_wp2_with fail
  go_ret2
  exact HF2.out
theorem land_at0 (s : Fs) (k l : Int) (xs : List Int) (e : Int) : s.at_ k l xs e 0 = { s with fl := upf s.fl k none, ab := fun x => s.ab x && !decide (x = l) } := by
  unfold Fs.at_ Fs.told
  simp
theorem land_end (s : Fs) (k l : Int) (xs : List Int) (e : Int) : s.at_ k l xs e xs.length = s.told k l xs e (s.K + xs.length) := by
  unfold Fs.at_
  rw [List.take_length]
set_option maxHeartbeats 8000000 in
theorem land_yes (h : TX w0 w P A B C tg f s) (hN : s.N ≤ 1000) (hK : s.K ≤ 800000) {k e l : Int} {xs : List Int} (hk : Wf k) (hf : s.fl k = some (l, xs)) : Calls Try.prog 10 #[Pq P, .int .i64 k, .int .i64 l, .int .i64 e] w (LandE w0 w P A B C tg (s.land k l e)) := by
  have p0 := h.p0
  have hA := h.lookA hk
  obtain ⟨sv, hfk, hO, htag⟩ : ∃ sv, f k = some (.agg #[.int .i64 l, sv]) ∧ OI w w0.heap.size sv xs ∧ ∀ g, sv.ownBlock = some g → tg g = .row k := by have := h.row k; rw [hf] at this; exact this
  obtain ⟨-, hwl, hwx, hxN⟩ := h.wf k l xs hf
  obtain ⟨Q, c, rfl⟩ := hO.form
  have HJ := Lib.hid (show s.land k l e = (xs, 0, s.told k l xs e (s.K + xs.length)) by unfold Fs.land; rw [hf]; dsimp only; rw [if_pos rfl])
  rw [HJ.out, ← land_end]
  rw [hfk, hf] at hA
  obtain ⟨m, hm⟩ : ∃ m, xs.length = m := ⟨_, rfl⟩
  have HM := Lib.hid hm
  rw [hm] at hA hO htag ⊢
  have hA2 : (Instr.lookup 50 (.map (some A)) (.int .i64 k) true).run Try.prog w = .ok (.tuple #[.agg #[.int .i64 l, .slice Q m c], .bool true]) w := hA
  obtain ⟨X, hX⟩ : ∃ X, w.heap.size = X := ⟨_, rfl⟩
  obtain ⟨w1, hw1⟩ : ∃ w1, w.alloc (.cells #[.int .i64 l, .slice Q m c] 55) = w1 := ⟨_, rfl⟩
  have hb1 : Below w.heap.size w w1 := by rw [← hw1]; exact below_alloc w _
  have hs1 : w1.heap.size = X + 1 := by rw [← hw1, ← hX]; simp
  have x0 : w1.cell? ⟨X, 0, none⟩ = some (.int .i64 l) := by rw [← hw1, ← hX]; exact (new_cells _ _ _).1
  have x1 : w1.cell? ⟨X, 1, none⟩ = some (.slice Q m c) := by rw [← hw1, ← hX]; exact (new_cells _ _ _).2
  have h1 := h.below hb1
  have p1 := h1.p0
  obtain ⟨nA, SA, hnA, hmA⟩ := h1.mA
  obtain ⟨w2, hdA, hm2, hg2⟩ := hmA.del Try.underlying50 hk 0
  have h2 := h1.turnA hg2 hnA hm2
  have p2 := h2.p1
  obtain ⟨nB, SB, hnB, hmB⟩ := h2.mB
  obtain ⟨w3, hdB, hm3, hg3⟩ := hmB.del Try.underlying51 hwl 0
  rw [abF_uno] at hm3
  have h3 := h2.turnB hg3 hnB hm3
  have h3' : TX w0 w3 P A B C tg (uno f k) (s.at_ k l xs e 0) := by rw [land_at0]; exact h3
  have hXA : X ≠ A := by have := (h.own A (by rw [h.tA]; simp)).2; omega
  have hXB : X ≠ B := by have := (h.own B (by rw [h.tB]; simp)).2; omega
  have hXC : X ≠ C := by have := (h.own C (by rw [h.tC]; simp)).2; omega
  have hq2 := hg2.size
  have hq3 := hg3.size
  have hX3 : w3.heap[X]? = w1.heap[X]? := (hg3.block X (by omega) (fun e => hXB (Option.some.inj e))).trans (hg2.block X (by omega) (fun e => hXA (Option.some.inj e)))
  have x3 : w3.cell? ⟨X, 1, none⟩ = some (.slice Q m c) := (World.cell?_of_block (a := ⟨X, 1, none⟩) hX3).trans x1
  have hgT : ∀ g, (Value.slice Q m c).ownBlock = some g → g ≠ A ∧ g ≠ B ∧ g ≠ C ∧ g < w.heap.size := fun g e => by
    have := htag g e
    exact ⟨tne this h.tA (by simp), tne this h.tB (by simp), tne this h.tC (by simp), (h.own g (by rw [this]; simp)).2⟩
  have hO3 : OI w3 w0.heap.size (.slice Q m c) xs := hO.keep fun g e => by
    obtain ⟨g1, g2, g3, g4⟩ := hgT g e
    exact (hg3.block g (by omega) (fun e => g2 (Option.some.inj e))).trans ((hg2.block g (by omega) (fun e => g1 (Option.some.inj e))).trans (hb1.block g (by omega)))
  have honly : Only (fun b => tg b ≠ .no) w w3 := (below_only hb1 _).trans ((Only.of_grown hg2 fun k e => by rw [← Option.some.inj e, h.tA]; simp).trans (Only.of_grown hg3 fun k e => by rw [← Option.some.inj e, h.tB]; simp))
  have HTB := Lib.hid h.tB
  have HTC := Lib.hid h.tC
  have HG := Lib.hid hgT
  have HGT := Lib.hid htag
  have HO3 := Lib.hid hO3
  have HT3 := Lib.hid h3'
  have HON := Lib.hid honly
  have HX := Lib.hid x3
  have HXN := Lib.hid (show X ≠ B ∧ X ≠ C ∧ X < w3.heap.size from ⟨hXB, hXC, by omega⟩)
  have HWX := Lib.hid hwx
  have HKK := Lib.hid (show s.K ≤ 800000 ∧ m ≤ 1000 from ⟨hK, by omega⟩)
  clear h h1 h2 h3 h3' hO hO3 hfk hA hf hk hwl hwx hmA hm2 hg2 hmB hm3 hg3 htag hgT honly hX3 hb1 hs1 hXA hXB hXC hq2 hq3 hnA hnB HJ hm hxN
  go_enter Try.func10, Try.ntmps10
  go_wp2_with fail
  go_loopg [44] m (fun g i wr => ∃ j : Nat, j ≤ m ∧ g + j = m ∧ i = .int .i64 j ∧ Hid (TX w0 wr P A B C tg (uno f k) (s.at_ k l xs e j)) ∧ Hid (Only (fun b => b = B ∨ b = C) w3 wr))
  case atStart => exact ⟨0, by omega, by omega, rfl, HT3, Lib.hid (Only.refl _ _)⟩
  case round =>
    obtain ⟨j, hj, hg, rfl, HT, HO⟩ := hrel
    have HO4 := Lib.hid (show OI wr w0.heap.size (.slice Q m c) xs from HO3.out.keep fun g e => by
      obtain ⟨g1, g2, g3, g4⟩ := HG.out g e
      exact HO.out.block g (by have := HON.out.size; omega) (by rintro (h | h) <;> contradiction))
    have x5 : wr.cell? ⟨X, 1, none⟩ = some (.slice Q m c) := (World.cell?_of_block (a := ⟨X, 1, none⟩) (HO.out.block X HXN.out.2.2 (by rintro (h | h); exact HXN.out.1 h; exact HXN.out.2.1 h))).trans HX.out
    clear x0 x1 x3
    have hm1000 := HKK.out.2
    by_cases hlt : j < m
    · obtain ⟨gg, hA, hgl, hcell⟩ : ∃ gg, Q = some ⟨gg, 0, none⟩ ∧ gg < wr.heap.size ∧ wr.cell? ⟨gg, j, none⟩ = some (.int .i64 (xs.getD j 0)) := by
        rcases HO4.out.2 with ⟨h1, h2⟩ | ⟨g, c', cur, h1, hb2, h3, _⟩
        · have := HM.out; omega
        · injection h1 with h1 h4 h5
          subst h1; subst h5
          refine ⟨g, rfl, (Array.getElem?_eq_some_iff.1 h3).1, ?_⟩
          have h6 := HO4.out
          unfold OI at h6
          have hm := HM.out
          rw [hm] at h6
          rw [h6.cellAt j (by omega), encI, List.getElem?_map, List.getElem?_eq_getElem (by omega)]
          simp [List.getD, List.getElem?_eq_getElem (show j < xs.length by omega)]
      subst hA
      have HTL := Lib.hid (HT.out.tell (by have := HKK.out; omega) (by rw [HM.out]; exact hlt) (HWX.out _ (by have hm := HM.out; rw [List.getD_eq_getElem?_getD, List.getElem?_eq_getElem (by omega)]; exact List.getElem_mem _)))
      obtain ⟨w4, w5, hd4, p4, hp5, h5, ho5⟩ := HTL.out
      have p5 := HT.out.p1
      have HT5 := Lib.hid h5
      have HO5 := Lib.hid (HO.out.trans ho5)
      generalize xs.getD j 0 = v at *
      clear h5 ho5 HTL
      go_wp2_with fail
      go_roundg (gk - 1)
      case measure => omega
      case rel =>
        exact ⟨j + 1, by omega, by omega, by go_num, HT5, HO5⟩
    · obtain rfl : j = m := by omega
      obtain ⟨tg', hT, hd1, hd2⟩ := HT.out.drop (k := k) (upf_self _ _ _)
      have HF := Lib.hid (show LandE w0 w P A B C tg (xs, 0, s.at_ k l xs e j) (.returned (.tuple #[.slice Q j c, .int .i64 0])) wr from ⟨_, _, tg', rfl, HO4.out, hT, ⟨HON.out.trans (HO.out.mono fun b hb => by
        rcases hb with h | h
        · rw [h, HTB.out]; simp
        · rw [h, HTC.out]; simp), fun b _ e => hd2 b e⟩, fun g e => hd1 g (HGT.out g e)⟩)
      clear hT hd1 hd2
      go_wp2_with fail
      go_ret2
      exact HF.out
theorem land_any (h : TX w0 w P A B C tg f s) (hN : s.N ≤ 1000) (hK : s.K ≤ 800000) {k who e : Int} (hk : Wf k) : Calls Try.prog 10 #[Pq P, .int .i64 k, .int .i64 who, .int .i64 e] w (LandE w0 w P A B C tg (s.land k who e)) := by
  cases hf : s.fl k with
  | none => exact land_no h hk hf
  | some p =>
    obtain ⟨l, xs⟩ := p
    by_cases hl : l = who
    · subst hl; exact land_yes h hN hK hk hf
    · exact land_not h hk hf hl
end
end Go.Proofs.Ytldleojipogcmaa.fl
