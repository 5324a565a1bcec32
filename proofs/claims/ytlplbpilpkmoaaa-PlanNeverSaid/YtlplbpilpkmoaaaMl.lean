/- 'Unlock'. -/
import Derived.Test.YtlplbpilpkmoaaaMk
import Derived.Test.YtlplbpilpkmoaaaMi
namespace Go.Proofs.Ytlplbpilpkmoaaa.sc
open Go.RowKit Go.Shelf
set_option linter.unusedVariables false
set_option linter.unusedSimpArgs false

theorem MapV.tight {w : World} {M n S m : Nat} {f : Int → Option Value} (h : MapV w M n S f) (hm : S ≤ m) : MapV w M m S f := by
  obtain ⟨D, ⟨es, clock, hb, F, hs, hD⟩, h2, h3, h4, h5⟩ := h
  refine ⟨D, ⟨es, clock, hb, F, ?_, hD⟩, h2, h3, h4, h5⟩
  have : Maps.size D = es.size := by rw [hD]; simp [Maps.size, length_sorted]
  omega
section
variable {w0 w : World} {P B M : Nat} {tg : Nat → Tag} {f : Int → Option Value} {s : Sd}
theorem MapV.size_le {w : World} {M n S : Nat} {f : Int → Option Value} (h : MapV w M n S f) : S ≤ n := by
  obtain ⟨D, h1, _, _, _, h5⟩ := h
  exact h5 ▸ h1.size_le
/-- The box, the tasks and the map stay through a turn of a lock's row. -/
theorem SbX.through2 (h : SbX w0 w P B M tg f s) {l : Int} {G : Nat} (hG : tg G = .row l) {w3 : World} (hgr : w.grownBy w3 (some G)) {b : Nat} (h1 : tg b ≠ .no) (h2 : tg b ≠ .row l) : w3.heap[b]? = w.heap[b]? :=
  hgr.block b (h.own b h1).2 (fun e => h2 (by injection e with e; rw [e]; exact hG))
theorem SbX.turnE (h : SbX w0 w P B M tg f s) (hN : s.N ≤ 1000000) {l : Int} {G c : Nat} (hl : Wf l) (hs : (f l).isSome) (hG : tg G = .row l) {w3 : World} (hgr : w.grownBy w3 (some G)) {ys : List Cl} (hq : QRow w3 G c ys) (hlen : ys.length ≤ (s.cl l).length) (hfit : ∀ d ∈ ys, d.task < s.n) :
    ∃ w4, (Instr.mapUpdate 69 (.map (some M)) (.int .i64 l) (.slice (some ⟨G, 0, none⟩) ys.length c)).run Try.prog w3 = .ok () w4 ∧ SbX w0 w4 P B M tg (ups f l (.slice (some ⟨G, 0, none⟩) ys.length c)) (s.setL l ys) ∧ Only (fun b => tg b ≠ .no) w w4 := by
  obtain ⟨S, hm⟩ := h.map
  have hm3 : MapV w3 M s.N S f := hm.of_block (h.through2 hG hgr (by rw [h.tM]; simp) (by rw [h.tM]; simp))
  obtain ⟨w4, hput, hm4, hg4⟩ := hm3.put Try.underlying69 hN hl (.slice (some ⟨G, 0, none⟩) ys.length c)
  rw [if_pos hs] at hm4
  have hgM : G ≠ M := fun e => by rw [e, h.tM] at hG; cases hG
  have hk4 : ∀ b, tg b ≠ .no → tg b ≠ .row l → b ≠ M → w4.heap[b]? = w.heap[b]? := fun b h1 h2 h3 => (hg4.block b (Nat.lt_of_lt_of_le (h.own b h1).2 hgr.size) (fun e => h3 (by injection e))).trans (h.through2 hG hgr h1 h2)
  have hsz : w.heap.size ≤ w4.heap.size := by have := hgr.size; have := hg4.size; omega
  have kP := hk4 P (by rw [h.tP]; simp) (by rw [h.tP]; simp) h.ne.2.1
  have kB := hk4 B (by rw [h.tB]; simp) (by rw [h.tB]; simp) h.ne.2.2
  have ho : Only (fun b => tg b ≠ .no) w w4 := (Only.of_grown hgr (fun k e => by injection e with e; rw [← e, hG]; simp)).trans (Only.of_grown hg4 (fun k e => by injection e with e; rw [← e, h.tM]; simp))
  refine ⟨w4, hput, ⟨fun b hb => ⟨(h.own b hb).1, Nat.lt_of_lt_of_le (h.own b hb).2 hsz⟩, ho.below h.bel (fun b hb => (h.own b hb).1), h.tP, h.tB, h.tM, (World.cell?_of_block (a := ⟨P, 0, none⟩) kP).trans h.p0, (World.cell?_of_block (a := ⟨P, 1, none⟩) kP).trans h.p1, h.tsk.of_block kB, ⟨_, hm4.tight hm.size_le⟩, fun y => ?_, fun y => ?_, fun y => ?_, h.n64⟩, ho⟩
  · by_cases e : y = l
    · subst e
      show CS w4 tg y (ups f y _ y) (upc s.cl y _ y)
      rw [upc_self]
      exact ⟨some G, c, by simp [ups], hq.of_block (hg4.block G hq.lt (fun e => hgM (by injection e))), fun G' e => by injection e with e; exact e ▸ hG⟩
    · show CS w4 tg y (ups f l _ y) (upc s.cl l _ y)
      rw [upc_ne e, show ups f l (.slice (some ⟨G, 0, none⟩) ys.length c) y = f y by simp [ups, e]]
      exact (h.row y).keep fun b hb => ⟨hk4 b (by rw [hb]; simp) (by rw [hb]; intro e2; injection e2 with e2; exact e e2) (fun e2 => by rw [e2, h.tM] at hb; cases hb), hb⟩
  · show ∀ d ∈ upc s.cl l ys y, d.task < s.n
    unfold upc; split
    · exact hfit
    · exact h.fit y
  · show (upc s.cl l ys y).length ≤ s.N
    unfold upc; split
    · have := h.few l; omega
    · exact h.few y
theorem SbX.dropE (h : SbX w0 w P B M tg f s) {l : Int} (hl : Wf l) (he : s.cl l = []) (ty : TypeId) :
    ∃ w', (Builtin.delete_ #[69, 3] ty #[.map (some M), .int .i64 l]).run Try.prog w = .ok (.tuple #[]) w' ∧ SbX w0 w' P B M tg (uno f l) s ∧ Only (fun b => tg b ≠ .no) w w' := by
  obtain ⟨S, hm⟩ := h.map
  obtain ⟨w4, hdel, hm4, hg4⟩ := hm.del Try.underlying69 hl ty
  have hk4 : ∀ b, tg b ≠ .no → b ≠ M → w4.heap[b]? = w.heap[b]? := fun b h1 h2 => hg4.block b (h.own b h1).2 (fun e => h2 (by injection e))
  have kP := hk4 P (by rw [h.tP]; simp) h.ne.2.1
  have kB := hk4 B (by rw [h.tB]; simp) h.ne.2.2
  have ho : Only (fun b => tg b ≠ .no) w w4 := Only.of_grown hg4 (fun k e => by injection e with e; rw [← e, h.tM]; simp)
  refine ⟨w4, hdel, ⟨fun b hb => ⟨(h.own b hb).1, Nat.lt_of_lt_of_le (h.own b hb).2 hg4.size⟩, ho.below h.bel (fun b hb => (h.own b hb).1), h.tP, h.tB, h.tM, (World.cell?_of_block (a := ⟨P, 0, none⟩) kP).trans h.p0, (World.cell?_of_block (a := ⟨P, 1, none⟩) kP).trans h.p1, h.tsk.of_block kB, ⟨_, hm4⟩, fun y => ?_, h.fit, h.few, h.n64⟩, ho⟩
  by_cases e : y = l
  · subst e
    rw [he]
    exact ⟨none, 0, by simp [uno], ⟨rfl, rfl⟩, fun G e => nomatch e⟩
  · rw [show uno f l y = f y by simp [uno, e]]
    exact (h.row y).keep fun b hb => ⟨hk4 b (by rw [hb]; simp) (fun e2 => by rw [e2, h.tM] at hb; cases hb), hb⟩
end
def UnlE (w0 w : World) (P B M : Nat) (tg : Nat → Tag) (r : Int × Sd) (e : Ending) (w' : World) : Prop := e = .returned (.int .i64 r.1) ∧ ∃ f', SbX w0 w' P B M tg f' r.2 ∧ Only (fun b => tg b ≠ .no) w w'
section
variable {w0 w : World} {P B M : Nat} {tg : Nat → Tag} {f : Int → Option Value} {s : Sd}
set_option maxHeartbeats 4000000 in
theorem unl_out (h : SbX w0 w P B M tg f s) {t l : Int} (hl : Wf l) (ht : ¬ s.ok t) : Calls Try.prog 25 #[Pq P, .int .i64 t, .int .i64 l] w (UnlE w0 w P B M tg (s.unlock t l)) := by
  have hb := below_alloc w (.cells #[.int .i64 t] 3)
  have h1 := h.below hb
  have HA := Lib.hid (at_out h1 ht)
  have HF := Lib.hid (show UnlE w0 w P B M tg (s.unlock t l) (.returned (.int .i64 22)) (w.alloc (.cells #[.int .i64 t] 3)) from by
    rw [show s.unlock t l = (22, s) by unfold Sd.unlock; rw [if_neg ht]]
    exact ⟨rfl, f, h1, Only.of_below hb⟩)
  unfold StE at HA
  generalize s.unlock t l = r at *
  clear h ht hl h1
  go_enter Try.func25, Try.ntmps25
  go_wp2_with fail
  refine HA.out.mono ?_
  rintro e w2 ⟨rfl, rfl⟩
  go_wp2_with fail
  go_ret
  exact HF.out
set_option maxHeartbeats 4000000 in
theorem unl_no (h : SbX w0 w P B M tg f s) (hN : s.N ≤ 1000000) {k : Nat} {l : Int} (hl : Wf l) (hk : k < s.n) (hh : s.has k l = false) : Calls Try.prog 25 #[Pq P, .int .i64 (k : Int), .int .i64 l] w (UnlE w0 w P B M tg (s.unlock k l)) := by
  have hb := below_alloc w (.cells #[.int .i64 (k : Int)] 3)
  have h1 := h.below hb
  have HA := Lib.hid (at_in h1 hk)
  have HC := Lib.hid (has_any h1 hN k hl)
  rw [hh] at HC
  have HF := Lib.hid (show ∀ w', Below (w.alloc (.cells #[.int .i64 (k : Int)] 3)).heap.size (w.alloc (.cells #[.int .i64 (k : Int)] 3)) w' → UnlE w0 w P B M tg (s.unlock k l) (.returned (.int .i64 1)) w' from fun w' hb2 => by
    rw [show s.unlock k l = (1, s) by unfold Sd.unlock; rw [if_pos (ok_of hk), if_neg (by simpa using hh)]]
    exact ⟨rfl, f, h1.below hb2, Only.of_below (below_step hb hb2)⟩)
  unfold StE at HA
  generalize s.unlock k l = r at *
  clear h hk hl h1 hh
  go_enter Try.func25, Try.ntmps25
  go_wp2_with fail
  refine HA.out.mono ?_
  rintro e w2 ⟨rfl, rfl⟩
  go_wp2_with fail
  refine HC.out.mono ?_
  rintro e w3 ⟨rfl, hb2⟩
  go_wp2_with fail
  go_ret
  exact HF.out _ hb2
set_option maxHeartbeats 8000000 in
theorem unl_take (h : SbX w0 w P B M tg f s) (hN : s.N ≤ 1000000) {k : Nat} {l : Int} (hl : Wf l) (hk : k < s.n) (hh : s.has k l = true) : Calls Try.prog 25 #[Pq P, .int .i64 (k : Int), .int .i64 l] w (UnlE w0 w P B M tg (s.unlock k l)) := by
  have hb := below_alloc w (.cells #[.int .i64 (k : Int)] 3)
  have h1 := h.below hb
  have HA := Lib.hid (at_in h1 hk)
  have HC := Lib.hid (has_any h1 hN k hl)
  rw [hh] at HC
  have HR := Lib.hid (show s.unlock k l = (0, (s.gone k l).admit l) by unfold Sd.unlock; rw [if_pos (ok_of hk), if_pos (by simpa using hh)]; rfl)
  have HX := Lib.hid h1
  have HL := Lib.hid hl
  have HK := Lib.hid hk
  have HNE := Lib.hid (show s.cl l ≠ [] from fun e => by unfold Sd.has at hh; rw [e] at hh; simp at hh)
  obtain ⟨w1, hw1⟩ : ∃ w1, w.alloc (.cells #[.int .i64 (k : Int)] 3) = w1 := ⟨_, rfl⟩
  obtain ⟨bx, hbx⟩ : ∃ b, w.heap.size = b := ⟨_, rfl⟩
  have HBX := Lib.hid (show w1.cell? ⟨bx, 0, none⟩ = some (.int .i64 (k : Int)) ∧ bx < w1.heap.size ∧ tg bx = .no from by
    rw [← hw1, ← hbx]
    refine ⟨by simp, by simp, Classical.byContradiction fun e => ?_⟩
    have := (h.own _ e).2
    omega)
  have HB1 := Lib.hid (show Below w.heap.size w w1 by rw [← hw1]; exact hb)
  have c1 := HBX.out.1
  unfold StE at HA
  rw [hw1] at HX HA HC
  generalize s.unlock k l = r at *
  clear h hk hl h1 hh hb
  go_enter Try.func25, Try.ntmps25
  go_wp2_with fail
  refine HA.out.mono ?_
  rintro e w2 ⟨rfl, hw2⟩
  subst hw2
  go_wp2_with fail
  refine HC.out.mono ?_
  rintro e w3 ⟨rfl, hb⟩
  have HX3 := Lib.hid (HX.out.below hb)
  have HO3 := Lib.hid (show Only (fun b => tg b ≠ .no) w w3 from Only.of_below (below_step HB1.out hb))
  have HBX3 := Lib.hid (show w3.cell? ⟨bx, 0, none⟩ = some (.int .i64 (k : Int)) ∧ bx < w3.heap.size from ⟨(hb.cell (p := ⟨bx, 0, none⟩) HBX.out.2.1).trans HBX.out.1, Nat.lt_of_lt_of_le HBX.out.2.1 hb.size⟩)
  have d0 := (HX3.out.tsk.1 k HK.out).2
  have df := HX3.out.tsk.2
  obtain ⟨w4, hw4⟩ : ∃ w4, w3.setCell ⟨B, k * 2 + 1, none⟩ (.int .i64 (wrap64 (s.T.lk k - 1))) = w4 := ⟨_, rfl⟩
  have HX4 := Lib.hid (show SbX w0 w4 P B M tg f { s with T := s.T.add k (-1) } from by
    rw [← hw4]
    exact HX3.out.turnT (only_cell w3 ⟨B, k * 2 + 1, none⟩ (.int .i64 (wrap64 (s.T.lk k - 1)))) (HX3.out.tsk.add HK.out (-1)))
  have HO4 := Lib.hid (show Only (fun b => tg b ≠ .no) w w4 from by
    rw [← hw4]
    exact HO3.out.trans ((only_cell w3 ⟨B, k * 2 + 1, none⟩ _).mono fun b e => by rw [show b = B from e, HX3.out.tB]; simp))
  have HBX4 := Lib.hid (show w4.cell? ⟨bx, 0, none⟩ = some (.int .i64 (k : Int)) ∧ bx < w4.heap.size from by
    rw [← hw4]
    refine ⟨?_, by simp [World.setCell]; exact HBX3.out.2⟩
    rw [World.cell?_setCell_other _ _ _ _ (fun e => by have h1 := congrArg Addr.block e; simp at h1; have h2 := HBX.out.2.2; rw [← h1, HX3.out.tB] at h2; cases h2)]
    exact HBX3.out.1)
  generalize s.T.lk k = lk at *
  clear hb HA HC c1
  go_upto_region 7 with fail
  try rw [hw4]
  clear hw4 d0 df
  obtain ⟨o, c, hv, hs, ht⟩ := HX4.out.row l
  cases o with
  | none => exact absurd hs.1 HNE.out
  | some G =>
  have HV := Lib.hid hv
  have HG := Lib.hid (ht G rfl)
  have HS := Lib.hid hs
  have hlk := HX4.out.look HL.out
  rw [hv] at hlk
  obtain ⟨n, hn⟩ : ∃ n, (s.cl l).length = n := ⟨_, rfl⟩
  have hfew := HX4.out.few l
  change (s.cl l).length ≤ s.N at hfew
  rw [hn] at hfew
  have HN := Lib.hid hn
  have HSM := Lib.hid (show (f l).isSome from by
    cases e : f l with
    | some v => rfl
    | none => rw [e] at hv; exact absurd hv (by simp))
  have S1 : w4.drew.cell? ⟨P, 1, none⟩ = some (.map (some M)) ∧ (Instr.lookup 69 (.map (some M)) (.int .i64 l) false).run Try.prog w4.drew = .ok (.slice (some ⟨G, 0, none⟩) n c) w4.drew := by
    have hX := HX4.out.below (Below.refl _ _).drew
    refine ⟨hX.p1, ?_⟩
    rw [hX.look HL.out, hv]
    show Result.ok (Value.slice (some ⟨G, 0, none⟩) (s.cl l).length c) _ = _
    rw [hn]
  have HX4d := Lib.hid (HX4.out.below (Below.refl _ _).drew)
  have HD := Lib.hid (del_any 38 bx n c (some G) k (pIs k) (s.cl l) w4.drew e25 (asks25 _ _) HBX4.out.1 (fun e => by injection e with e; have h1 := HG.out; rw [e, HBX.out.2.2] at h1; cases h1) HN.out.symm (by omega) (show Sl w4.drew (some G) c (s.cl l) from HS.out))
  have HGN := Lib.hid (show s.gone k l = (Sd.setL { s with T := s.T.add k (-1) } l ((s.cl l).filter fun c => !pIs k c)) from rfl)
  obtain ⟨ys, hys⟩ : ∃ ys, ((s.cl l).filter fun c => !pIs k c) = ys := ⟨_, rfl⟩
  have HYL := Lib.hid (show ys.length ≤ (s.cl l).length ∧ ∀ d ∈ ys, d.task < s.n from by
    rw [← hys]
    exact ⟨List.length_filter_le _ _, fun d hd => HX4.out.fit l d (List.mem_filter.1 hd).1⟩)
  unfold DelE at HD
  rw [hys] at HD HGN
  clear hys
  clear hv hs ht hn hlk
  refine rh.region_T (S := (fun W => W.cell? ⟨P, 1, none⟩ = some (.map (some M)) ∧ (Instr.lookup 69 (.map (some M)) (.int .i64 l) false).run Try.prog W = .ok (.slice (some ⟨G, 0, none⟩) n c) W)) (z := 13) (by kernel_rfl) ?_
  simp only [List.size_toArray, List.length_cons, List.length_nil, Nat.zero_add, Nat.reduceAdd]
  rw [show Array.replicate 14 false = #[false, false, false, false, false, false, false, false, false, false, false, false, false, false] from rfl]
  refine rh.take_T (i := 0) (Pq P) rfl (by kernel_rfl) (by kernel_rfl) (by kernel_rfl) (by kernel_rfl) (fun _ _ _ h => h) (Or.inl ⟨by rfl, by intro w' hSw; (try dsimp only at hSw); go_simp⟩) S1 ?_
  simp only [Act.put, List.setIfInBounds_toArray, List.set_cons_zero, List.set_cons_succ]
  refine rh.take_T (i := 1) (Pq P) rfl (by kernel_rfl) (by kernel_rfl) (by kernel_rfl) (by kernel_rfl) (fun _ _ _ h => h) (Or.inl ⟨by rfl, by intro w' hSw; (try dsimp only at hSw); go_simp⟩) S1 ?_
  simp only [Act.put, List.setIfInBounds_toArray, List.set_cons_zero, List.set_cons_succ]
  refine rh.take_T (i := 2) (.pointer (some ⟨P, 1, none⟩)) rfl (by kernel_rfl) (by kernel_rfl) (by kernel_rfl) (by kernel_rfl) (fun _ _ _ h => h) (Or.inl ⟨by rfl, by intro w' hSw; (try dsimp only at hSw); go_simp⟩) S1 ?_
  simp only [Act.put, List.setIfInBounds_toArray, List.set_cons_zero, List.set_cons_succ]
  refine rh.take_T (i := 3) (.map (some M)) rfl (by kernel_rfl) (by kernel_rfl) (by kernel_rfl) (by kernel_rfl) (fun _ _ _ h => h) (Or.inl ⟨by rfl, by intro w' hSw; (try dsimp only at hSw); go_simp⟩) S1 ?_
  simp only [Act.put, List.setIfInBounds_toArray, List.set_cons_zero, List.set_cons_succ]
  refine rh.take_T (i := 4) (.int .i64 l) rfl (by kernel_rfl) (by kernel_rfl) (by kernel_rfl) (by kernel_rfl) (fun _ _ _ h => h) (Or.inl ⟨by rfl, by intro w' hSw; (try dsimp only at hSw); go_simp⟩) S1 ?_
  simp only [Act.put, List.setIfInBounds_toArray, List.set_cons_zero, List.set_cons_succ]
  refine rh.take_T (i := 5) (Pq P) rfl (by kernel_rfl) (by kernel_rfl) (by kernel_rfl) (by kernel_rfl) (fun _ _ _ h => h) (Or.inl ⟨by rfl, by intro w' hSw; (try dsimp only at hSw); go_simp⟩) S1 ?_
  simp only [Act.put, List.setIfInBounds_toArray, List.set_cons_zero, List.set_cons_succ]
  refine rh.take_T (i := 6) (Pq P) rfl (by kernel_rfl) (by kernel_rfl) (by kernel_rfl) (by kernel_rfl) (fun _ _ _ h => h) (Or.inl ⟨by rfl, by intro w' hSw; (try dsimp only at hSw); go_simp⟩) S1 ?_
  simp only [Act.put, List.setIfInBounds_toArray, List.set_cons_zero, List.set_cons_succ]
  refine rh.take_T (i := 7) (.pointer (some ⟨P, 1, none⟩)) rfl (by kernel_rfl) (by kernel_rfl) (by kernel_rfl) (by kernel_rfl) (fun _ _ _ h => h) (Or.inl ⟨by rfl, by intro w' hSw; (try dsimp only at hSw); go_simp⟩) S1 ?_
  simp only [Act.put, List.setIfInBounds_toArray, List.set_cons_zero, List.set_cons_succ]
  refine rh.take_T (i := 8) (.map (some M)) rfl (by kernel_rfl) (by kernel_rfl) (by kernel_rfl) (by kernel_rfl) (fun _ _ _ h => h) (Or.inl ⟨by rfl, by intro w' hSw; (try dsimp only at hSw); go_simp⟩) S1 ?_
  simp only [Act.put, List.setIfInBounds_toArray, List.set_cons_zero, List.set_cons_succ]
  refine rh.take_T (i := 9) (.int .i64 l) rfl (by kernel_rfl) (by kernel_rfl) (by kernel_rfl) (by kernel_rfl) (fun _ _ _ h => h) (Or.inl ⟨by rfl, by intro w' hSw; (try dsimp only at hSw); go_simp⟩) S1 ?_
  simp only [Act.put, List.setIfInBounds_toArray, List.set_cons_zero, List.set_cons_succ]
  refine rh.take_T (i := 10) (.slice (some ⟨G, 0, none⟩) n c) rfl (by kernel_rfl) (by kernel_rfl) (by kernel_rfl) (by kernel_rfl) (fun _ _ _ h => h) (Or.inl ⟨by rfl, by intro w' hSw; (try dsimp only at hSw); go_simp⟩) S1 ?_
  simp only [Act.put, List.setIfInBounds_toArray, List.set_cons_zero, List.set_cons_succ]
  refine rh.take_T (i := 11) (.func (.func 38) #[] #[.pointer (some ⟨bx, 0, none⟩)]) rfl (by kernel_rfl) (by kernel_rfl) (by kernel_rfl) (by kernel_rfl) (fun _ _ _ h => h) (Or.inl ⟨by rfl, by intro w' hSw; (try dsimp only at hSw); go_simp⟩) S1 ?_
  simp only [Act.put, List.setIfInBounds_toArray, List.set_cons_zero, List.set_cons_succ]
  refine rh.step_T (i := 12) (by kernel_rfl) rfl fun K hK => ?_
  go_simp
  refine HD.out.mono ?_
  rintro _ w5 ⟨rfl, hs5, hg5⟩
  obtain ⟨w6, hput, hX6, hO6⟩ := HX4d.out.turnE hN HL.out HSM.out HG.out hg5 hs5 HYL.out.1 HYL.out.2
  have HX6 := Lib.hid hX6
  have HO6 := Lib.hid ((HO4.out.trans (Only.of_below (Below.refl _ _).drew)).trans hO6)
  have S5 : w5.cell? ⟨P, 1, none⟩ = some (.map (some M)) ∧ (Instr.lookup 69 (.map (some M)) (.int .i64 l) false).run Try.prog w5 = .ok (.slice (some ⟨G, 0, none⟩) n c) w5 := by
    refine ⟨(World.cell?_of_block (a := ⟨P, 1, none⟩) (HX4d.out.through2 HG.out hg5 (by rw [HX4d.out.tP]; simp) (by rw [HX4d.out.tP]; simp))).trans HX4d.out.p1, ?_⟩
    rw [HX4d.out.look_at (HX4d.out.through2 HG.out hg5 (by rw [HX4d.out.tM]; simp) (by rw [HX4d.out.tM]; simp)) HL.out, HV.out]
    show Result.ok (Value.slice (some ⟨G, 0, none⟩) (s.cl l).length c) _ = _
    rw [HN.out]
  go_wp2_with fail
  refine hK.out _ _ (.inr S5) ?_
  clear hK K hs5 hg5 S5 hX6 hO6 S1
  simp only [Act.put, List.setIfInBounds_toArray, List.set_cons_zero, List.set_cons_succ]
  refine rh.step_T (i := 13) (by kernel_rfl) rfl fun K hK => ?_
  go_simp
  refine hK.out _ _ (.inl rfl) ?_
  clear hK K
  refine rh.done_T (by kernel_rfl) ?_
  rw [← HGN.out] at HX6
  have q1 := HX6.out.p1
  have hlk := HX6.out.look HL.out
  rw [show (ups f l (.slice (some ⟨G, 0, none⟩) ys.length c) l).getD (.slice none 0 0) = .slice (some ⟨G, 0, none⟩) ys.length c by simp [ups]] at hlk
  have HF := Lib.hid (show ∀ w' f', SbX w0 w' P B M tg f' ((s.gone k l).admit l) → Only (fun b => tg b ≠ .no) w w' → UnlE w0 w P B M tg r (.returned (.int .i64 0)) w' from fun w' f' a b => by rw [HR.out]; exact ⟨rfl, f', a, b⟩)
  have HGY := Lib.hid (show (s.gone k l).cl l = ys from by rw [HGN.out]; exact upc_self _ _ _)
  have hyn : ys.length ≤ 1000000 := by have := HYL.out.1; rw [HN.out] at this; omega
  clear hput
  by_cases e : ys.length = 0
  · have HYZ := Lib.hid (List.eq_nil_of_length_eq_zero e)
    obtain ⟨w7, hdel, hX7, hO7⟩ := HX6.out.dropE HL.out (HGY.out.trans HYZ.out) 0
    have HX7 := Lib.hid hX7
    have HO7 := Lib.hid (HO6.out.trans hO7)
    have HAD := Lib.hid (admit_any hX7 hN HL.out)
    rw [e] at hlk
    clear hX7 hO7 e hyn
    go_wp2_with fail
    refine HAD.out.mono ?_
    rintro e w8 ⟨rfl, hX8, hO8⟩
    have HE := Lib.hid (HF.out w8 _ hX8 (HO7.out.trans hO8))
    clear hX8 hO8
    go_wp2_with fail
    go_ret
    exact HE.out
  · have HAD := Lib.hid (admit_any HX6.out hN HL.out)
    have h0 : ((ys.length : Int) == 0) = false := beq_eq_false_iff_ne.2 (by omega)
    generalize ys.length = m at *
    clear e
    go_wp2_with fail
    refine HAD.out.mono ?_
    rintro e w8 ⟨rfl, hX8, hO8⟩
    have HE := Lib.hid (HF.out w8 _ hX8 (HO6.out.trans hO8))
    clear hX8 hO8
    go_wp2_with fail
    go_ret
    exact HE.out
theorem unlock_any (h : SbX w0 w P B M tg f s) (hN : s.N ≤ 1000000) {t l : Int} (hl : Wf l) : Calls Try.prog 25 #[Pq P, .int .i64 t, .int .i64 l] w (UnlE w0 w P B M tg (s.unlock t l)) := by
  by_cases ht : s.ok t
  · obtain ⟨k, rfl, hk⟩ := ok_nat ht
    cases hh : s.has k l with
    | true => exact unl_take h hN hl hk hh
    | false => exact unl_no h hN hl hk hh
  · exact unl_out h hl ht
end

end Go.Proofs.Ytlplbpilpkmoaaa.sc
