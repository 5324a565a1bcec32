/- Part 29 of what is known of the program's functions and of the document's words: contracts, and the mathematics beneath them. -/
import Derived.Test.YtpmpbmjjlccbbaaGreatProg
import Derived.Test.YtpmpbmjjlccbbaaGreatZ28
set_option linter.unusedVariables false
set_option linter.unusedSimpArgs false
set_option maxRecDepth 100000
set_option maxHeartbeats 8000000
namespace Go.Proofs.YtpmpbmjjlccbbaaGreat.ds
open Go.RowKit
open pa (Bs Sv Strs Own own_form info9 own_base)
theorem at_no {w0 w : World} {P : Nat} {tg : Nat → Nat} {T : Tb} {fd : Int} (h : TbX w0 w P tg T) (hs : spot T fd = none) : Calls Tryz.prog 167 #[Pq P, .int .i64 fd] w (StE w (.pointer none)) := by
 by_cases hr : 0 ≤ fd ∧ fd < 32
 ·obtain ⟨k, rfl⟩ : ∃ k : Nat, fd = k := ⟨fd.toNat, by omega⟩
  have hk : k < 32 := by omega
  rw [spot_nat hk] at hs
  have := h.slot k hk
  rw [hs] at this
  exact at_in hk this
 ·exact at_out hr
theorem at_yes {w0 w : World} {P : Nat} {tg : Nat → Nat} {T : Tb} {fd : Int} {d : De} (h : TbX w0 w P tg T) (hs : spot T fd = some d) :
  ∃ k b : Nat, fd = k ∧ k < 32 ∧ T k = some d ∧ tg b = 2 + k ∧ w.cell? ⟨P, k, none⟩ = some (Pq b) ∧ d.ns.length ≤ 4000 ∧ Bx w tg b d ∧ Calls Tryz.prog 167 #[Pq P, .int .i64 fd] w (StE w (Pq b)) := by
 obtain ⟨k, rfl, hk, hT⟩ := spot_some hs
 have := h.slot k hk
 rw [hT] at this
 obtain ⟨b, h1, h2, h3, h4⟩ := this
 exact ⟨k, b, rfl, hk, hT, h2, h1, h3, h4, at_in hk h1⟩
theorem Nm.strs {w : World} {tg : Nat → Nat} {A : Option Addr} {xs : List Bs} {B : Nat} (h : Nm w tg A xs) (hB : ∀ b, tg b ≠ 0 → b < B) : Strs w B A xs := fun hn => by
 obtain ⟨ad, e, h1, h2⟩ := h hn
 exact ⟨ad, e, hB _ (by omega), h2⟩
def GetE (w : World) (r : De × Int) (e : Ending) (w' : World) : Prop := ∃ A c, e = .returned (.tuple #[DV A r.1.ns.length c r.1, .int .i64 r.2]) ∧ Own w' w.heap.size A c r.1.ns ∧ Below w.heap.size w w'
theorem zero_row (w : World) : (w.alloc (.cells #[.int .i64 0, .int .i64 0, .int .i64 0, .bool false, .slice none 0 0, .int .i64 0] 72)).heap[w.heap.size]? = some (.cells #[.int .i64 0, .int .i64 0, .int .i64 0, .bool false, .slice none 0 0, .int .i64 0] 72 (0, 0)) := heap_alloc_new w _
theorem get_any {w0 w : World} {P : Nat} {tg : Nat → Nat} {T : Tb} (h : TbX w0 w P tg T) (fd : Int) : Calls Tryz.prog 165 #[Pq P, .int .i64 fd] w (GetE w (getV T fd)) := by
 obtain ⟨R, hR⟩ : ∃ R, w.heap.size = R := ⟨_, rfl⟩
 obtain ⟨w1, hw1⟩ : ∃ w1, w.alloc (.cells #[.int .i64 0, .int .i64 0, .int .i64 0, .bool false, .slice none 0 0, .int .i64 0] 72) = w1 := ⟨_, rfl⟩
 have hb1 : Below w.heap.size w w1 := by rw [← hw1]; exact below_alloc w _
 have hr1 : w1.heap[R]? = some (.cells #[.int .i64 0, .int .i64 0, .int .i64 0, .bool false, .slice none 0 0, .int .i64 0] 72 (0, 0)) := by rw [← hw1, ← hR]; exact zero_row w
 have hs1 : w1.heap.size = R + 1 := by rw [← hw1, World.size_alloc, hR]
 have h1 := h.below hb1
 have HB1 := Lib.hid hb1
 have HR := Lib.hid hR
 cases hs : spot T fd with
 | none =>
  have HA := Lib.hid (at_no h1 hs)
  have HT := Lib.hid (there_row hr1 rfl)
  rw [show getV T fd = (dz, 9) by unfold getV; rw [hs]]
  unfold StE at HA
  have HF := Lib.hid (show ∀ x0 x1 x2 x3 x4 x5, Own (set6 w1 R x0 x1 x2 x3 x4 x5) w.heap.size none 0 [] ∧ Below w.heap.size w (set6 w1 R x0 x1 x2 x3 x4 x5) from fun x0 x1 x2 x3 x4 x5 => ⟨World.ownsRow_nil _ _ _ _, Only.below (w0 := w) hb1 (set6_only _ _ _ _ _ _ _ _) (by intro b e; omega)⟩)
  clear h h1 hb1 hr1 hs
  go_enter Tryz.func165, Tryz.ntmps165
  go_wp2_with fail
  refine HA.out.mono ?_
  rintro _ w2 ⟨rfl, rfl⟩
  go_wp2_with (refine wpList_store_mid (by rfl) 72 (.tmp 4) (.tmp 12) (by rfl) R 0 #[.int .i64 0, .int .i64 0, .int .i64 0, .bool false, .slice none 0 0, .int .i64 0] (by rfl) (by rfl) HT.out (by kernel_rfl) (by simp [Value.oneCell']) ?_)
  refine bodyPost_ret (results_row_tmp rfl _ _ R [.int .i64 0, .int .i64 0, .int .i64 0, .bool false, .slice none 0 0, .int .i64 0] _ rfl (set6_range HT.out _ _ _ _ _ _) Tryz.underlying72 (by rfl) (by kernel_rfl)) rfl ?_
  exact ⟨none, 0, rfl, (HF.out _ _ _ _ _ _).1, (HF.out _ _ _ _ _ _).2⟩
 | some d =>
  obtain ⟨k, b, rfl, hk, hT, htb, hcell, hlen, hbx, ha⟩ := at_yes h1 hs
  have HA := Lib.hid ha
  unfold StE at HA
  obtain ⟨A, c, hrow, hfz, hc1, hc2, hnm⟩ := hbx
  have HROW := Lib.hid hrow
  have HC := Lib.hid (copied_any A d.ns.length c w1.heap.size d w1 rfl (by omega) (Nat.le_refl _) (hnm.strs fun b hb => (h1.own b hb).2))
  rw [show getV T (k : Int) = (d, 0) by unfold getV; rw [hs]]
  clear h h1 hs hT hrow hnm hc1 hc2 hfz hcell htb ha
  obtain ⟨d0, d1, d2, d3, xs, d5⟩ := d
  dsimp only [DV, DL, CopE, GetE] at *
  go_enter Tryz.func165, Tryz.ntmps165
  go_wp2_with fail
  refine HA.out.mono ?_
  rintro _ w2 ⟨rfl, hw2⟩
  subst hw2
  go_wp2_with (first | refine wpList_load_mid (by rfl) 72 (.tmp 14) (by rfl) b 0 (by rfl) _ _ HROW.out Tryz.underlying72 (by rfl) (by kernel_rfl) ?_)
  refine HC.out.mono ?_
  rintro _ w3 ⟨A', c', rfl, hown, hb3⟩
  have hr3 := (hb3.block R (by omega)).trans hr1
  have HT := Lib.hid (there_row hr3 rfl)
  have HF := Lib.hid (show ∀ x0 x1 x2 x3 x4 x5, Own (set6 w3 R x0 x1 x2 x3 x4 x5) w.heap.size A' c' xs ∧ Below w.heap.size w (set6 w3 R x0 x1 x2 x3 x4 x5) from fun x0 x1 x2 x3 x4 x5 => ⟨own_base (own_only hown (set6_only _ _ _ _ _ _ _ _) (by intro b e; omega)) (by omega), Only.below (w0 := w) (below_step HB1.out hb3) (set6_only _ _ _ _ _ _ _ _) (by intro b e; omega)⟩)
  clear hr3 hown hb3 hr1
  go_wp2_with (refine wpList_store_mid (by rfl) 72 (.tmp 4) (.tmp 16) (by rfl) R 0 #[.int .i64 d0, .int .i64 d1, .int .i64 d2, .bool d3, .slice A' xs.length c', .int .i64 d5] (by rfl) (by rfl) HT.out (by kernel_rfl) (by simp [Value.oneCell']) ?_)
  refine bodyPost_ret (results_row_tmp rfl _ _ R [.int .i64 d0, .int .i64 d1, .int .i64 d2, .bool d3, .slice A' xs.length c', .int .i64 d5] _ rfl (set6_range HT.out _ _ _ _ _ _) Tryz.underlying72 (by rfl) (by kernel_rfl)) rfl ?_
  exact ⟨A', c', rfl, (HF.out _ _ _ _ _ _).1, (HF.out _ _ _ _ _ _).2⟩
end Go.Proofs.YtpmpbmjjlccbbaaGreat.ds
