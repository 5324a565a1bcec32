/- 'Of': the lines of a view. -/
import Derived.Test.YtnnaoldpacbagaaGreatZ28
import Derived.BigQuiet
import Derived.Laws.EntriesVeiled
section
namespace Go.Proofs.YtnnaoldpacbagaaGreat.fl
open Go.RowKit
open Go.Proofs.YtnnaoldpacbagaaGreat.dn (En lget lset ldel nerr dotB Sorted lessB)
open Go.Proofs.YtnnaoldpacbagaaGreat.br (BS Ino Inv Tree sumF)
open Go.Proofs.YtnnaoldpacbagaaGreat.cb (BrX RetW RetI No)
open Go.Proofs.YtnnaoldpacbagaaGreat.bl (Pq)
open Go.Proofs.YtnnaoldpacbagaaGreat.mg (Nd Nv Vx Nb opq kindV lstV belV seenV pairV getV rootV AllV NR QB readN targN ReadN AllE bel_step bel_alloc grown_bel grown_set set_below set_size heap_set)
set_option linter.unusedVariables false
set_option linter.unusedSimpArgs false

theorem linesV_cap {U L : BS} {r1 r2 : Nat} (hU : Inv U r1) (hL : Inv L r2) {dU dL : Nat → Nat} (hdU : Deep U dU) (hdL : Deep L dL) : ∀ (d : Nat) (n : Nd) (at_ : ByteArray), (linesV U L d n at_).length ≤ wN U L n
  | 0, n, at_ => Nat.zero_le _
  | d + 1, n, at_ => by
    by_cases h : ∃ l, AllV U L n l
    · obtain ⟨l, hl⟩ := h
      rw [linesV_succ hl, List.length_flatMap]
      refine Nat.le_trans (sum_le fun s _ => ?_) (wN_sum hU hL hdU hdL n hl)
      show (linesN U L d n at_ s).length ≤ _
      unfold linesN
      rw [List.length_cons]
      have := linesV_cap hU hL hdU hdL d (getV U L n s).1 (at_ ++ slB ++ s)
      omega
    · unfold linesV namesV
      rw [dif_neg h]
      exact Nat.zero_le _
/-- The lines of a view. -/
noncomputable def ofV (U L : BS) (u l : Int) : List Ln := linesV U L 202 (rootV U L u l) ⟨#[]⟩
theorem ofV_len {U L : BS} {r1 r2 : Nat} (hU : br.Good U r1) (hL : br.Good L r2) (u l : Int) : (ofV U L u l).length ≤ 1600000 := by
  obtain ⟨dU, hdU⟩ := br.Tree.bound hU.1 hU.2
  obtain ⟨dL, hdL⟩ := br.Tree.bound hL.1 hL.2
  exact Nat.le_trans (linesV_cap hU.1 hL.1 hdU hdL _ _ _) (wN_cap hU.1 hL.1 _)
def OfE (w : World) (X : List Ln) (e : Ending) (w' : World) : Prop := ∃ A, e = .returned A ∧ LO w' w.heap.size A X ∧ Below w.heap.size w w'
set_option maxRecDepth 100000 in
set_option maxHeartbeats 4000000 in
theorem of_any {w : World} {V P1 P2 : Nat} {u l : Int} {U L : BS} {r1 r2 : Nat} (hv : Vx w V P1 P2 u l U L) (hU : br.Good U r1) (hL : br.Good L r2) : Calls Tryz.prog 38 #[Pq V] w (OfE w (ofV U L u l)) := by
  obtain ⟨dU, hdU⟩ := br.Tree.bound hU.1 hU.2
  obtain ⟨dL, hdL⟩ := br.Tree.bound hL.1 hL.2
  obtain ⟨bv, hbv⟩ : ∃ b, w.heap.size = b := ⟨_, rfl⟩
  obtain ⟨w1, hw1⟩ : ∃ w1, w.alloc (.cells #[Pq V] 29) = w1 := ⟨_, rfl⟩
  have hb1 : Below w.heap.size w w1 := by rw [← hw1]; exact bel_alloc _ _
  have z1 : w1.heap.size = bv + 1 := by rw [← hw1, World.size_alloc, hbv]
  have c1 : w1.cell? ⟨bv, 0, none⟩ = some (Pq V) := by rw [← hw1, ← hbv]; simp
  obtain ⟨w2, hw2⟩ : ∃ w2, w1.alloc (.cells #[.slice none 0 0] 70) = w2 := ⟨_, rfl⟩
  have hb2 : Below w1.heap.size w1 w2 := by rw [← hw2]; exact bel_alloc _ _
  have z2 : w2.heap.size = bv + 2 := by rw [← hw2, World.size_alloc, z1]
  have q2 : QB w2 (bv + 1) (.slice none 0 0) := by rw [← hw2, ← z1]; exact ⟨by simp, by simp⟩
  obtain ⟨w4, hw4⟩ : ∃ w4, w2.alloc (.cells #[Vf bv (bv + 1) (bv + 2)] 157) = w4 := ⟨_, rfl⟩
  have hb4 : Below w2.heap.size w2 w4 := by rw [← hw4]; exact bel_alloc _ _
  have z4 : w4.heap.size = bv + 3 := by rw [← hw4, World.size_alloc, z2]
  have cf4 : w4.cell? ⟨bv + 2, 0, none⟩ = some (Vf bv (bv + 1) (bv + 2)) := by rw [← hw4, ← z2]; simp
  have H4 := Lib.hid (show VS w w4 bv (bv + 1) (bv + 2) V (bv + 3) (.slice none 0 0) [] from
    ⟨bel_step hb1 (bel_step hb2 hb4), (hb4.cell (p := ⟨bv, 0, none⟩) (by rw [z2]; show bv < bv + 2; omega)).trans ((hb2.cell (p := ⟨bv, 0, none⟩) (by rw [z1]; show bv < bv + 1; omega)).trans c1), q2.below hb4, cf4,
      World.ownsRow_nil _ _ _ _, by rw [z4]; exact Nat.le_refl _, by rw [hbv]; exact ⟨by omega, by omega, by omega, by omega, by omega, by omega, by omega⟩⟩)
  have HRT := Lib.hid (fun W (hb : Below w.heap.size w W) => mg.root_any (hv.below hb))
  unfold RetW at HRT
  have HO := Lib.hid (show linesV U L 202 (rootV U L u l) ⟨#[]⟩ = ofV U L u l from rfl)
  have HIH := Lib.hid (fun W (h : VS w W bv (bv + 1) (bv + 2) V (bv + 3) (.slice none 0 0) []) => visit_any hv hU.1 hL.1 hdU hdL 202 (rootV U L u l) ⟨#[]⟩ W (.slice none 0 0) [] (by have := hN_le U L dU dL (rootV U L u l); omega) (by decide) (by have := ofV_len hU hL u l; rw [← HO.out] at this; simp only [List.length_nil]; omega) h)
  rw [HO.out] at HIH
  unfold VisE at HIH
  have HLO := Lib.hid (show w.heap.size ≤ bv + 3 by omega)
  generalize rootV U L u l = rt at *
  generalize ofV U L u l = Y at *
  obtain ⟨r1', r2'⟩ := rt
  clear hv hU hL hdU hdL hb1 hb2 hb4 q2 cf4 HO
  go_enter Tryz.func38, Tryz.ntmps38
  go_wp2_with fail
  clear hw1 hw2 hw4 c1 z1 z2
  have H4d := Lib.hid (H4.out.below (Below.refl w4.heap.size w4).drew)
  have HR4 := Lib.hid (HRT.out w4.drew H4d.out.bel)
  have S0 : w4.cell? ⟨bv, 0, none⟩ = some (Pq V) ∧ w4.cell? ⟨bv + 2, 0, none⟩ = some (Vf bv (bv + 1) (bv + 2)) := ⟨H4.out.cv, H4.out.cf⟩
  go_region_held3 (fun w' => w'.cell? ⟨bv, 0, none⟩ = some (Pq V) ∧ w'.cell? ⟨bv + 2, 0, none⟩ = some (Vf bv (bv + 1) (bv + 2)))
    (first | with_reducible exact S0 | with_reducible exact S5 | with_reducible exact S6 | assumption | go_keep)
    (first | (go_at_call 11; ((with_reducible refine HR4.out.mono ?_); rintro _ w5 ⟨rfl, hb5⟩; have H5 := Lib.hid (H4d.out.below hb5); have HV5 := Lib.hid (HIH.out w5 H5.out); have S5 : w5.cell? ⟨bv, 0, none⟩ = some (Pq V) ∧ w5.cell? ⟨bv + 2, 0, none⟩ = some (Vf bv (bv + 1) (bv + 2)) := ⟨H5.out.cv, H5.out.cf⟩; clear hb5)) | (go_at_call 95; ((with_reducible refine HV5.out.mono ?_); rintro _ w6 ⟨rfl, A6, hV6, -⟩; have H6 := Lib.hid hV6; have S6 : w6.cell? ⟨bv, 0, none⟩ = some (Pq V) ∧ w6.cell? ⟨bv + 2, 0, none⟩ = some (Vf bv (bv + 1) (bv + 2)) := ⟨H6.out.cv, H6.out.cf⟩; clear hV6)))
  have c6 := H6.out.qb.c
  have HRO := Lib.hid (show LO w6 (bv + 3) A6 Y by have := H6.out.row; rwa [List.nil_append] at this)
  go_wp2_with fail
  go_ret
  exact ⟨A6, rfl, ⟨HRO.out.1, HRO.out.2.imp id fun ⟨g, cap, cur, a, b, c⟩ => ⟨g, cap, cur, a, Nat.le_trans HLO.out b, c⟩⟩, H6.out.bel⟩
end Go.Proofs.YtnnaoldpacbagaaGreat.fl
end
