/- Part 30 of what is known of the program's functions and of the document's words: contracts, and the mathematics beneath them. -/
import Derived.Test.YtpmpbmjjlccbbaaGreatProg
import Derived.Test.YtpmpbmjjlccbbaaGreatZ29
set_option linter.unusedVariables false
set_option linter.unusedSimpArgs false
set_option maxRecDepth 100000
set_option maxHeartbeats 8000000
namespace Go.Proofs.YtpmpbmjjlccbbaaGreat.ds
open Go.RowKit
open pa (Bs Sv Strs Own own_form info9 own_base)
theorem Slot.move {w w' : World} {P j k : Nat} {tg tg' : Nat → Nat} {o : Option De} (h : Slot w P tg j o) (hj : j ≠ k) (hc : w'.cell? ⟨P, j, none⟩ = w.cell? ⟨P, j, none⟩)
  (hk : ∀ b, tg b ≠ 0 → tg b ≠ 1 → tg b ≠ 2 + k → w'.heap[b]? = w.heap[b]?) (ht : ∀ b, tg b ≠ 0 → tg' b = tg b) (hj2 : j < 32) (hk2 : k < 32) : Slot w' P tg' j o := by
 cases o with
 | none => exact hc.trans h
 | some d =>
  obtain ⟨b, h1, h2, h3, A, c, h4, h5, h6, h7, h8⟩ := h
  have hb := hk b (by omega) (by omega) (by omega)
  refine ⟨b, hc.trans h1, (ht b (by omega)).trans h2, h3, A, c, fun i v hv => (World.cell?_of_block (a := ⟨b, 0 + i, none⟩) hb).trans (h4 i v hv), fun i => (World.frozen?_of_block (a := ⟨b, i, none⟩) hb).trans (h5 i), h6, h7, fun hn => ?_⟩
  obtain ⟨ad, e, h9, h10⟩ := h8 hn
  exact ⟨ad, e, (ht _ (by omega)).trans h9, fun i x hx => (World.cell?_of_block (by rw [pa.addr_block]; exact hk _ (by omega) (by omega) (by omega))).trans (h10 i x hx)⟩
theorem Nm.move {w w' : World} {tg : Nat → Nat} {A : Option Addr} {xs : List Bs} (h : Nm w tg A xs) (hk : ∀ b, tg b = 100 → w'.heap[b]? = w.heap[b]?) : Nm w' tg A xs := fun hn => by
 obtain ⟨ad, e, h1, h2⟩ := h hn
 exact ⟨ad, e, h1, fun j x hx => (World.cell?_of_block (by rw [pa.addr_block]; exact hk _ h1)).trans (h2 j x hx)⟩
theorem set_oth (w : World) (B j i : Nat) (v : Value) (h : i ≠ j) : (w.setCell ⟨B, j, none⟩ v).cell? ⟨B, i, none⟩ = w.cell? ⟨B, i, none⟩ := World.cell?_setCell_other _ _ _ _ (by intro e; injection e with _ e; exact h e.symm)
theorem zero32 : (#[.pointer none, .pointer none, .pointer none, .pointer none, .pointer none, .pointer none, .pointer none, .pointer none, .pointer none, .pointer none, .pointer none, .pointer none, .pointer none, .pointer none, .pointer none, .pointer none, .pointer none, .pointer none, .pointer none, .pointer none, .pointer none, .pointer none, .pointer none, .pointer none, .pointer none, .pointer none, .pointer none, .pointer none, .pointer none, .pointer none, .pointer none, .pointer none] : Array Value) = (List.replicate 32 (Value.pointer none)).toArray := rfl
def NewE (w : World) (e : Ending) (w' : World) : Prop := ∃ tg, e = .returned (Pq w.heap.size) ∧ (∀ w0, Below w0.heap.size w0 w → TbX w0 w' w.heap.size tg em) ∧ Below w.heap.size w w' ∧ ∀ b, tg b ≠ 0 → w.heap.size ≤ b
theorem new_any (w : World) : Calls Tryz.prog 24 #[] w (NewE w) := by
 obtain ⟨w1, hw1⟩ : ∃ w1, w.alloc (.cells #[.pointer none, .pointer none, .pointer none, .pointer none, .pointer none, .pointer none, .pointer none, .pointer none, .pointer none, .pointer none, .pointer none, .pointer none, .pointer none, .pointer none, .pointer none, .pointer none, .pointer none, .pointer none, .pointer none, .pointer none, .pointer none, .pointer none, .pointer none, .pointer none, .pointer none, .pointer none, .pointer none, .pointer none, .pointer none, .pointer none, .pointer none, .pointer none] 119) = w1 := ⟨_, rfl⟩
 have hrow : w1.heap[w.heap.size]? = some (.cells (List.replicate 32 (Value.pointer none)).toArray 119 (0, 0)) := by rw [← hw1, ← zero32]; exact heap_alloc_new w _
 have hs : w1.heap.size = w.heap.size + 1 := by rw [← hw1, World.size_alloc]
 have hb : Below w.heap.size w w1 := by rw [← hw1]; exact below_alloc w _
 have HF := Lib.hid (show NewE w (.returned (Pq w.heap.size)) w1 from ⟨fun b => if b = w.heap.size then 1 else 0, rfl, fun w0 h0 => ⟨fun b hb2 => by
  have : b = w.heap.size := Classical.byContradiction fun e => hb2 (if_neg e)
  have := h0.size
  omega, if_pos rfl, below_step h0 hb, fun k => by simp [World.frozen?, hrow], fun k hk => by
   show w1.cell? ⟨w.heap.size, k, none⟩ = some (.pointer none)
   rw [cell_row hrow, List.getElem?_toArray, List.getElem?_replicate, if_pos hk]⟩, hb, fun b hb2 => by
  have : b = w.heap.size := Classical.byContradiction fun e => hb2 (if_neg e)
  omega⟩)
 clear hrow hs hb
 go_enter Tryz.func24, Tryz.ntmps24
 go_wp2_with fail
 go_ret
 exact HF.out
def OpenE (w0 w : World) (P : Nat) (tg : Nat → Nat) (T : Tb) (d : De) (e : Ending) (w' : World) : Prop := ∃ tg', e = .returned (.tuple #[.int .i64 (lowV T).1, .int .i64 (lowV T).2]) ∧ TbX w0 w' P tg' (openT T d) ∧ Kp tg tg' w w'
theorem open_any {w0 w : World} {P B n c : Nat} {A : Option Addr} {tg : Nat → Nat} {T : Tb} {d : De} (h : TbX w0 w P tg T) (hn : n = d.ns.length) (hm : n ≤ 4000) (hB : B ≤ w.heap.size) (hA : Strs w B A d.ns) :
  Calls Tryz.prog 164 #[Pq P, DV A n c d] w (OpenE w0 w P tg T d) := by
 subst hn
 obtain ⟨b0, hb0⟩ : ∃ b, w.heap.size = b := ⟨_, rfl⟩
 obtain ⟨w1, hw1⟩ : ∃ w1, w.alloc (.cells #[.int .i64 d.ino, .int .i64 d.flag, .int .i64 d.off, .bool d.isd, .slice A d.ns.length c, .int .i64 d.pos] 72) = w1 := ⟨_, rfl⟩
 have hb1 : Below w.heap.size w w1 := by rw [← hw1]; exact below_alloc w _
 have hr1 : w1.heap[b0]? = some (.cells #[.int .i64 d.ino, .int .i64 d.flag, .int .i64 d.off, .bool d.isd, .slice A d.ns.length c, .int .i64 d.pos] 72 (0, 0)) := by rw [← hw1, ← hb0]; exact heap_alloc_new w _
 have hs1 : w1.heap.size = b0 + 1 := by rw [← hw1, World.size_alloc, hb0]
 have h1 := h.below hb1
 have HL := Lib.hid (lowest_any h1)
 unfold StE at HL
 have HX := Lib.hid h
 have HX1 := Lib.hid h1
 have HB1 := Lib.hid hb1
 have HC := Lib.hid (copied_any A d.ns.length c w1.heap.size d w1 rfl (by omega) (Nat.le_refl _) (fun hn => by
  obtain ⟨ad, e, h2, h3⟩ := hA hn
  exact ⟨ad, e, by omega, fun j x hx => (hb1.cell (p := ad.add j) (by rw [pa.addr_block]; omega)).trans (h3 j x hx)⟩))
 cases hlo : low T with
 | none =>
  have HF := Lib.hid (show OpenE w0 w P tg T d (.returned (.tuple #[.int .i64 0, .int .i64 24])) w1 from ⟨tg, by unfold lowV; rw [hlo], by unfold openT; rw [hlo]; exact h1, Kp.of_below hb1⟩)
  rw [show (lowV T).1 = 0 by unfold lowV; rw [hlo], hlo] at HL
  clear h h1 hb1 hA hlo HC hr1
  obtain ⟨d0, d1, d2, d3, xs, d5⟩ := d
  dsimp only [DV] at *
  go_enter Tryz.func164, Tryz.ntmps164
  go_wp2_with fail
  refine HL.out.mono ?_
  rintro _ w2 ⟨rfl, rfl⟩
  go_wp2_with fail
  go_ret2
  exact HF.out
 | some k =>
  obtain ⟨hk, hTk, -⟩ := low_some hlo
  rw [show (lowV T).1 = (k : Int) by unfold lowV; rw [hlo], hlo] at HL
  have HV := Lib.hid (show lowV T = ((k : Int), 0) by unfold lowV; rw [hlo])
  have HO := Lib.hid (show openT T d = put T k (some d) by unfold openT; rw [hlo])
  have HROW := Lib.hid (show w1.rangeAt b0 0 (DL A d.ns.length c d) from fun j v hv => by rw [Nat.zero_add, cell_row hr1]; simpa [DL] using hv)
  clear h h1 hb1 hA hlo hr1
  obtain ⟨d0, d1, d2, d3, xs, d5⟩ := d
  dsimp only [DV, DL, CopE] at *
  go_enter Tryz.func164, Tryz.ntmps164
  go_wp2_with fail
  refine HL.out.mono ?_
  rintro _ w2 ⟨rfl, hw2⟩
  subst hw2
  go_wp2_with (first | refine wpList_load_mid (by rfl) 72 (.tmp 3) (by rfl) b0 0 (by rfl) _ _ HROW.out Tryz.underlying72 (by rfl) (by kernel_rfl) ?_)
  refine HC.out.mono ?_
  rintro _ w3 ⟨A', c', rfl, hown, hb3⟩
  obtain ⟨G, hG⟩ : ∃ G, w3.heap.size = G := ⟨_, rfl⟩
  obtain ⟨w4, hw4⟩ : ∃ w4, w3.alloc (.cells #[.int .i64 0, .int .i64 0, .int .i64 0, .bool false, .slice none 0 0, .int .i64 0] 72) = w4 := ⟨_, rfl⟩
  have hr4 : w4.heap[G]? = some (.cells #[.int .i64 0, .int .i64 0, .int .i64 0, .bool false, .slice none 0 0, .int .i64 0] 72 (0, 0)) := by rw [← hw4, ← hG]; exact zero_row w3
  have hs4 : w4.heap.size = G + 1 := by rw [← hw4, World.size_alloc, hG]
  have hb4 : Below w3.heap.size w3 w4 := by rw [← hw4]; exact below_alloc w3 _
  have HT := Lib.hid (there_row hr4 rfl)
  obtain ⟨w5, hw5⟩ : ∃ w5, w4.setCells G 0 [.int .i64 d0, .int .i64 d1, .int .i64 d2, .bool d3, .slice A' xs.length c', .int .i64 d5] = w5 := ⟨_, rfl⟩
  have ho5 : Only (fun q => q = G) w4 w5 := by rw [← hw5]; exact set6_only _ _ _ _ _ _ _ _
  have hr5 : w5.rangeAt G 0 [.int .i64 d0, .int .i64 d1, .int .i64 d2, .bool d3, .slice A' xs.length c', .int .i64 d5] := by rw [← hw5]; exact set6_range HT.out _ _ _ _ _ _
  have hf5 : ∀ j, w5.frozen? ⟨G, j, none⟩ = false := fun j => by rw [← hw5, World.frozen?_setCells]; simp [World.frozen?, hr4]
  have hb15 : Below w2.heap.size w2 w5 := (below_step hb3 hb4).trans ⟨ho5.os, ho5.tape, ho5.output, ho5.size, fun q hq => ho5.block q (by have := hb3.size; have := hb4.size; omega) (by have := hb3.size; omega)⟩
  have hx5 := HX1.out.below hb15
  have hlo := HX.out.lo
  have hbP : P ≠ G := by have := hb3.size; omega
  have hP5 := hx5.slot k hk
  have hPf := hx5.fz k
  rw [hTk] at hP5
  have cP : w5.cell? ⟨P, k, none⟩ = some (.pointer none) := hP5
  have HF := Lib.hid (show OpenE w0 w P tg T ⟨d0, d1, d2, d3, xs, d5⟩ (.returned (.tuple #[.int .i64 k, .int .i64 0])) (w5.setCell ⟨P, k, none⟩ (Pq G)) by
   have hoP := only_at w5 P k (Pq G)
   have hs3 := hb3.size
   have hs5 := ho5.size
   refine ⟨fun q => if q = G then 2 + k else if w2.heap.size ≤ q ∧ q < G then 100 else tg q, by rw [HV.out], ?_, ?_⟩
   ·rw [HO.out]
    have htg : ∀ q, tg q ≠ 0 → (if q = G then 2 + k else if w2.heap.size ≤ q ∧ q < G then 100 else tg q) = tg q := fun q hq => by
     have := (HX1.out.own q hq).2
     rw [if_neg (by omega), if_neg (by omega)]
    have hkeep : ∀ q, tg q ≠ 0 → q ≠ P → (w5.setCell ⟨P, k, none⟩ (Pq G)).heap[q]? = w2.heap[q]? := fun q hq hP => by
     have h1 := (HX1.out.own q hq).2
     exact (hoP.block q (by omega) hP).trans (hb15.block q h1)
    refine ⟨fun q hq => ?_, ?_, ?_, fun j => (World.frozen?_setCell _ _ _ _).trans (hx5.fz j), fun j hj => ?_⟩
    ·have hsz : (w5.setCell ⟨P, k, none⟩ (Pq G)).heap.size = w5.heap.size := by simp [World.setCell]
     have hlo2 := HB1.out.size
     have hw0 := HX1.out.bel.size
     rw [hsz]
     by_cases e1 : q = G
     ·omega
     ·rw [if_neg e1] at hq
      by_cases e2 : w2.heap.size ≤ q ∧ q < G
      ·omega
      ·rw [if_neg e2] at hq
       have := HX1.out.own q hq
       omega
    ·rw [htg P (by rw [HX.out.tp]; decide)]; exact HX.out.tp
    ·exact Only.below (Only.below (HX1.out.bel) (Only.of_below hb15 (F := fun _ => False)) (by intro b e; exact e.elim)) hoP (by intro b e; subst e; exact hlo.1)
    ·by_cases e : j = k
     ·subst e
      rw [put_same]
      refine ⟨G, World.cell?_setCell_same _ _ _ cP, if_pos rfl, by dsimp only; exact Nat.le_trans hm (Nat.le_refl _), A', c', ?_, fun i => (World.frozen?_setCell _ _ _ _).trans (hf5 i), (own_cap hown).1, (own_cap hown).2, ?_⟩
      ·intro i v hv
       exact (World.cell?_of_block (a := ⟨G, 0 + i, none⟩) (hoP.block G (by omega) (by omega))).trans (hr5 i v hv)
      ·refine Nm.move (w := w3) (own_nm hown fun q h1 h2 => by rw [if_neg (by omega), if_pos ⟨h1, by omega⟩]) fun q hq => ?_
       have h4 := hb4.size
       by_cases e2 : w2.heap.size ≤ q ∧ q < G
       ·rw [hoP.block q (by omega) (by omega), ho5.block q (by omega) (by omega), hb4.block q (by omega)]
       ·by_cases e1 : q = G
        ·rw [if_pos e1] at hq; omega
        ·rw [if_neg e1, if_neg e2] at hq
         have h5 := (HX1.out.own q (by omega)).2
         rw [hoP.block q (by omega) (fun e => by rw [e, HX1.out.tp] at hq; exact absurd hq (by decide)), ho5.block q (by omega) (by omega), hb4.block q (by omega)]
     ·rw [put_other _ _ e]
      refine (HX1.out.slot j hj).move e ?_ (fun q q1 q2 q3 => hkeep q q1 (fun e => by rw [e, HX1.out.tp] at q2; exact q2 rfl)) htg hj hk
      rw [set_oth _ _ _ _ _ e]
      exact World.cell?_of_block (a := ⟨P, j, none⟩) (hb15.block P HX1.out.lo.2)
   ·refine ⟨?_, fun q hq hn => ?_⟩
    ·exact ((Only.of_below HB1.out).trans (Only.of_below hb15)).trans (hoP.mono fun q e => by rw [e, HX.out.tp]; decide)
    ·have := HB1.out.size
     rwa [if_neg (by omega), if_neg (by omega)] at hn)
  clear hown hr4 hb4 ho5 hr5 hf5 hb15 hx5 hP5 hb3
  go_wp2_with (refine wpList_store_mid (by rfl) 72 (.tmp 8) (.tmp 17) (by rfl) G 0 #[.int .i64 d0, .int .i64 d1, .int .i64 d2, .bool d3, .slice A' xs.length c', .int .i64 d5] (by rfl) (by rfl) HT.out (by kernel_rfl) (by simp [Value.oneCell']) ?_)
  go_ret2
  exact HF.out
def SetE (w0 w : World) (P : Nat) (tg : Nat → Nat) (T : Tb) (fd : Int) (d : De) (e : Ending) (w' : World) : Prop := ∃ tg', e = .returned (.int .i64 (errV T fd)) ∧ TbX w0 w' P tg' (setT T fd d) ∧ Kp tg tg' w w'
theorem set_any {w0 w : World} {P B n c : Nat} {A : Option Addr} {tg : Nat → Nat} {T : Tb} {d : De} (h : TbX w0 w P tg T) (fd : Int) (hn : n = d.ns.length) (hm : n ≤ 4000) (hB : B ≤ w.heap.size) (hA : Strs w B A d.ns) :
  Calls Tryz.prog 122 #[Pq P, .int .i64 fd, DV A n c d] w (SetE w0 w P tg T fd d) := by
 subst hn
 obtain ⟨b0, hb0⟩ : ∃ b, w.heap.size = b := ⟨_, rfl⟩
 obtain ⟨w1, hw1⟩ : ∃ w1, w.alloc (.cells #[.int .i64 d.ino, .int .i64 d.flag, .int .i64 d.off, .bool d.isd, .slice A d.ns.length c, .int .i64 d.pos] 72) = w1 := ⟨_, rfl⟩
 have hb1 : Below w.heap.size w w1 := by rw [← hw1]; exact below_alloc w _
 have hr1 : w1.heap[b0]? = some (.cells #[.int .i64 d.ino, .int .i64 d.flag, .int .i64 d.off, .bool d.isd, .slice A d.ns.length c, .int .i64 d.pos] 72 (0, 0)) := by rw [← hw1, ← hb0]; exact heap_alloc_new w _
 have hs1 : w1.heap.size = b0 + 1 := by rw [← hw1, World.size_alloc, hb0]
 have h1 := h.below hb1
 have HX := Lib.hid h
 have HX1 := Lib.hid h1
 have HB1 := Lib.hid hb1
 have HC := Lib.hid (copied_any A d.ns.length c w1.heap.size d w1 rfl (by omega) (Nat.le_refl _) (fun hn => by
  obtain ⟨ad, e, h2, h3⟩ := hA hn
  exact ⟨ad, e, by omega, fun j x hx => (hb1.cell (p := ad.add j) (by rw [pa.addr_block]; omega)).trans (h3 j x hx)⟩))
 have HROW := Lib.hid (show w1.rangeAt b0 0 (DL A d.ns.length c d) from fun j v hv => by rw [Nat.zero_add, cell_row hr1]; simpa [DL] using hv)
 cases hs : spot T fd with
 | none =>
  have HF := Lib.hid (show SetE w0 w P tg T fd d (.returned (.int .i64 9)) w1 from ⟨tg, by unfold errV; rw [hs], by unfold setT; rw [hs]; exact h1, Kp.of_below hb1⟩)
  have HK := Lib.hid (at_no h1 hs)
  unfold StE at HK
  clear h h1 hb1 hA hs HC hr1 HROW
  obtain ⟨d0, d1, d2, d3, xs, d5⟩ := d
  dsimp only [DV] at *
  go_enter Tryz.func122, Tryz.ntmps122
  go_wp2_with fail
  refine HK.out.mono ?_
  rintro _ w2 ⟨rfl, rfl⟩
  go_wp2_with fail
  go_ret
  exact HF.out
 | some od =>
  obtain ⟨k, b, rfl, hk, hTk, htb, hcell, -, hbx, hat⟩ := at_yes h1 hs
  have HK := Lib.hid hat
  unfold StE at HK
  have HV := Lib.hid (show errV T (k : Int) = 0 by unfold errV; rw [hs])
  have HO := Lib.hid (show setT T (k : Int) d = put T k (some d) by unfold setT; rw [hs]; simp)
  obtain ⟨oA, oc, hrow, hfz, -, -, -⟩ := hbx
  have hlb := (h1.own b (by omega))
  clear h h1 hb1 hA hs hr1 hat
  obtain ⟨d0, d1, d2, d3, xs, d5⟩ := d
  dsimp only [DV, DL, CopE] at *
  go_enter Tryz.func122, Tryz.ntmps122
  go_wp2_with fail
  refine HK.out.mono ?_
  rintro _ w2 ⟨rfl, hw2⟩
  subst hw2
  go_wp2_with (first | refine wpList_load_mid (by rfl) 72 (.tmp 5) (by rfl) b0 0 (by rfl) _ _ HROW.out Tryz.underlying72 (by rfl) (by kernel_rfl) ?_)
  refine HC.out.mono ?_
  rintro _ w3 ⟨A', c', rfl, hown, hb3⟩
  have hrow3 : ∀ j v, (DL oA od.ns.length oc od)[j]? = some v → w3.cell? ⟨b, 0 + j, none⟩ = some v := fun j v hv => (World.cell?_of_block (a := ⟨b, 0 + j, none⟩) (hb3.block b hlb.2)).trans (hrow j v hv)
  have hfz3 : ∀ j, w3.frozen? ⟨b, j, none⟩ = false := fun j => (World.frozen?_of_block (a := ⟨b, j, none⟩) (hb3.block b hlb.2)).trans (hfz j)
  have HT := Lib.hid (show w3.there b 0 6 from fun j hj => by
   have hl : (DL oA od.ns.length oc od)[j]? = some ((DL oA od.ns.length oc od)[j]'hj) := List.getElem?_eq_getElem hj
   exact ⟨by rw [hrow3 j _ hl]; rfl, by rw [Nat.zero_add]; exact hfz3 j⟩)
  obtain ⟨w5, hw5⟩ : ∃ w5, w3.setCells b 0 [.int .i64 d0, .int .i64 d1, .int .i64 d2, .bool d3, .slice A' xs.length c', .int .i64 d5] = w5 := ⟨_, rfl⟩
  have HF := Lib.hid (show SetE w0 w P tg T k ⟨d0, d1, d2, d3, xs, d5⟩ (.returned (.int .i64 0)) w5 by
   have ho5 : Only (fun q => q = b) w3 w5 := by rw [← hw5]; exact set6_only _ _ _ _ _ _ _ _
   have hr5 : w5.rangeAt b 0 [.int .i64 d0, .int .i64 d1, .int .i64 d2, .bool d3, .slice A' xs.length c', .int .i64 d5] := by rw [← hw5]; exact set6_range HT.out _ _ _ _ _ _
   have hf5 : ∀ j, w5.frozen? ⟨b, j, none⟩ = false := fun j => by rw [← hw5, World.frozen?_setCells]; exact hfz3 j
   have hs3 := hb3.size
   have hs5 := ho5.size
   have hlo := HX1.out.lo
   have hbP : P ≠ b := fun e => by rw [← e, HX1.out.tp] at htb; omega
   have hown5 : Own w5 w2.heap.size A' c' xs := own_only hown ho5 (by intro q e; omega)
   have hz5 : w5.heap.size = w3.heap.size := by rw [← hw5]; simp [World.setCells, World.setCell]
   refine ⟨fun q => if w2.heap.size ≤ q ∧ q < w3.heap.size then 100 else tg q, by rw [HV.out], ?_, ?_⟩
   ·rw [HO.out]
    have htg : ∀ q, tg q ≠ 0 → (if w2.heap.size ≤ q ∧ q < w3.heap.size then 100 else tg q) = tg q := fun q hq => by
     have := (HX1.out.own q hq).2
     rw [if_neg (by omega)]
    have hkeep : ∀ q, tg q ≠ 0 → q ≠ b → w5.heap[q]? = w2.heap[q]? := fun q hq hP => by
     have h1 := (HX1.out.own q hq).2
     exact (ho5.block q (by omega) hP).trans (hb3.block q h1)
    have hP5 := hkeep P (by rw [HX1.out.tp]; decide) hbP
    refine ⟨fun q hq => ?_, ?_, ?_, fun j => (World.frozen?_of_block (a := ⟨P, j, none⟩) hP5).trans (HX1.out.fz j), fun j hj => ?_⟩
    ·have hlo2 := HB1.out.size
     have hw0 := HX1.out.bel.size
     by_cases e2 : w2.heap.size ≤ q ∧ q < w3.heap.size
     ·omega
     ·rw [if_neg e2] at hq
      have := HX1.out.own q hq
      omega
    ·rw [htg P (by rw [HX.out.tp]; decide)]; exact HX.out.tp
    ·exact Only.below (Only.below (HX1.out.bel) (Only.of_below hb3 (F := fun _ => False)) (by intro b e; exact e.elim)) ho5 (by intro q e; subst e; exact hlb.1)
    ·by_cases e : j = k
     ·subst e
      rw [put_same]
      refine ⟨b, (World.cell?_of_block (a := ⟨P, j, none⟩) hP5).trans hcell, (htg b (by omega)).trans htb, hm, A', c', hr5, hf5, (own_cap hown).1, (own_cap hown).2, ?_⟩
      exact own_nm hown5 fun q h1 h2 => by rw [if_pos ⟨h1, by omega⟩]
     ·rw [put_other _ _ e]
      exact (HX1.out.slot j hj).move e (World.cell?_of_block (a := ⟨P, j, none⟩) hP5) (fun q q1 q2 q3 => hkeep q q1 (fun e => by rw [e] at q3; exact q3 htb)) htg hj hk
   ·refine ⟨?_, fun q hq hn => ?_⟩
    ·exact ((Only.of_below HB1.out).trans (Only.of_below hb3)).trans (ho5.mono fun q e => by rw [e]; omega)
    ·have := HB1.out.size
     rwa [if_neg (by omega)] at hn)
  clear hown hb3 hrow3 hfz3 hrow hfz hcell
  go_wp2_with (refine wpList_store_mid (by rfl) 72 (.tmp 16) (.tmp 15) (by rfl) b 0 #[.int .i64 d0, .int .i64 d1, .int .i64 d2, .bool d3, .slice A' xs.length c', .int .i64 d5] (by rfl) (by rfl) HT.out (by kernel_rfl) (by simp [Value.oneCell']) ?_)
  go_ret
  exact HF.out
def CloseE (w0 w : World) (P : Nat) (tg : Nat → Nat) (T : Tb) (fd : Int) (e : Ending) (w' : World) : Prop :=
 ∃ A c, e = .returned (.tuple #[DV A (getV T fd).1.ns.length c (getV T fd).1, .int .i64 (getV T fd).2]) ∧ Own w' w.heap.size A c (getV T fd).1.ns ∧ TbX w0 w' P tg (closeT T fd) ∧ Kp tg tg w w'
theorem close_any {w0 w : World} {P : Nat} {tg : Nat → Nat} {T : Tb} (h : TbX w0 w P tg T) (fd : Int) : Calls Tryz.prog 118 #[Pq P, .int .i64 fd] w (CloseE w0 w P tg T fd) := by
 obtain ⟨R, hR⟩ : ∃ R, w.heap.size = R := ⟨_, rfl⟩
 obtain ⟨w1, hw1⟩ : ∃ w1, w.alloc (.cells #[.int .i64 0, .int .i64 0, .int .i64 0, .bool false, .slice none 0 0, .int .i64 0] 72) = w1 := ⟨_, rfl⟩
 have hb1 : Below w.heap.size w w1 := by rw [← hw1]; exact below_alloc w _
 have hr1 : w1.heap[R]? = some (.cells #[.int .i64 0, .int .i64 0, .int .i64 0, .bool false, .slice none 0 0, .int .i64 0] 72 (0, 0)) := by rw [← hw1, ← hR]; exact zero_row w
 have hs1 : w1.heap.size = R + 1 := by rw [← hw1, World.size_alloc, hR]
 have h1 := h.below hb1
 have HB1 := Lib.hid hb1
 have HX := Lib.hid h
 have HX1 := Lib.hid h1
 have HG := Lib.hid (get_any h1 fd)
 unfold GetE at HG
 unfold CloseE
 cases hs : spot T fd with
 | none =>
  rw [show getV T fd = (dz, 9) by unfold getV; rw [hs]] at HG ⊢
  have HCl := Lib.hid (show closeT T fd = T by unfold closeT; rw [hs])
  have HG2 := Lib.hid (show Calls Tryz.prog 165 #[Pq P, .int .i64 fd] w1 (fun e w' => ∃ A c, e = .returned (.tuple #[.agg #[.int .i64 0, .int .i64 0, .int .i64 0, .bool false, .slice A 0 c, .int .i64 0], .int .i64 9]) ∧ Below w1.heap.size w1 w') from HG.out.mono fun _ _ ⟨A, c, he, _, hb⟩ => ⟨A, c, he, hb⟩)
  clear h h1 hb1 hs HG
  go_enter Tryz.func118, Tryz.ntmps118
  go_wp2_with fail
  refine HG2.out.mono ?_
  rintro _ w3 ⟨A', c', rfl, hb3⟩
  obtain ⟨G, hG⟩ : ∃ G, w3.heap.size = G := ⟨_, rfl⟩
  obtain ⟨wz, hwz⟩ : ∃ wz, w3.alloc (.cells #[.int .i64 0, .int .i64 0, .int .i64 0, .bool false, .slice none 0 0, .int .i64 0] 72) = wz := ⟨_, rfl⟩
  have hrz : wz.heap[G]? = some (.cells #[.int .i64 0, .int .i64 0, .int .i64 0, .bool false, .slice none 0 0, .int .i64 0] 72 (0, 0)) := by rw [← hwz, ← hG]; exact zero_row w3
  have HTZ := Lib.hid (there_row hrz rfl)
  have hbz : Below w3.heap.size w3 wz := by rw [← hwz]; exact below_alloc w3 _
  obtain ⟨w4, hw4⟩ : ∃ w4, wz.setCells G 0 [.int .i64 0, .int .i64 0, .int .i64 0, .bool false, .slice A' 0 c', .int .i64 0] = w4 := ⟨_, rfl⟩
  have ho4 : Only (fun q => q = G) wz w4 := by rw [← hw4]; exact set6_only _ _ _ _ _ _ _ _
  have hb4 : Below w3.heap.size w3 w4 := Only.below hbz ho4 (by intro q e; omega)
  have hr4 : w4.heap[R]? = some (.cells #[.int .i64 0, .int .i64 0, .int .i64 0, .bool false, .slice none 0 0, .int .i64 0] 72 (0, 0)) := by
   rw [hb4.block R (by have := hb3.size; omega), hb3.block R (by omega)]; exact hr1
  have HT := Lib.hid (there_row hr4 rfl)
  have HF := Lib.hid (show ∀ x0 x1 x2 x3 x4 x5, TbX w0 (set6 w4 R x0 x1 x2 x3 x4 x5) P tg T ∧ Kp tg tg w (set6 w4 R x0 x1 x2 x3 x4 x5) from fun x0 x1 x2 x3 x4 x5 => by
   have hb : Below w.heap.size w (set6 w4 R x0 x1 x2 x3 x4 x5) := Only.below (w0 := w) (below_step (below_step HB1.out hb3) hb4) (set6_only _ _ _ _ _ _ _ _) (by intro b e; omega)
   exact ⟨HX.out.below hb, Kp.of_below hb⟩)
  clear hr4 hb4 hb3 hr1 hrz hbz ho4
  go_wp2_with (first | refine wpList_store_mid (by rfl) 72 (.tmp 6) (.tmp 12) (by rfl) G 0 #[.int .i64 0, .int .i64 0, .int .i64 0, .bool false, .slice A' 0 c', .int .i64 0] (by rfl) (by rfl) HTZ.out (by kernel_rfl) (by simp [Value.oneCell']) ?_ | refine wpList_store_mid (by rfl) 72 (.tmp 4) (.tmp 16) (by rfl) R 0 #[.int .i64 0, .int .i64 0, .int .i64 0, .bool false, .slice none 0 0, .int .i64 0] (by rfl) (by rfl) HT.out (by kernel_rfl) (by simp [Value.oneCell']) ?_)
  refine bodyPost_ret (results_row_tmp rfl _ _ R [.int .i64 0, .int .i64 0, .int .i64 0, .bool false, .slice none 0 0, .int .i64 0] _ rfl (set6_range HT.out _ _ _ _ _ _) Tryz.underlying72 (by rfl) (by kernel_rfl)) rfl ?_
  exact ⟨none, 0, rfl, World.ownsRow_nil _ _ _ _, by rw [HCl.out]; exact (HF.out _ _ _ _ _ _).1, (HF.out _ _ _ _ _ _).2⟩
 | some d =>
  obtain ⟨k, b, rfl, hk, hTk, htb, hcell, -, -, -⟩ := at_yes h1 hs
  rw [show getV T (k : Int) = (d, 0) by unfold getV; rw [hs]] at HG ⊢
  have HCl := Lib.hid (show closeT T (k : Int) = put T k none by unfold closeT; rw [hs]; simp)
  clear h h1 hb1 hs hTk
  obtain ⟨d0, d1, d2, d3, xs, d5⟩ := d
  dsimp only [DV] at *
  go_enter Tryz.func118, Tryz.ntmps118
  go_wp2_with fail
  refine HG.out.mono ?_
  rintro _ w3 ⟨A', c', rfl, hown, hb3⟩
  obtain ⟨G, hG⟩ : ∃ G, w3.heap.size = G := ⟨_, rfl⟩
  obtain ⟨w4, hw4⟩ : ∃ w4, w3.alloc (.cells #[.int .i64 d0, .int .i64 d1, .int .i64 d2, .bool d3, .slice A' xs.length c', .int .i64 d5] 72) = w4 := ⟨_, rfl⟩
  have hr4 : w4.heap[G]? = some (.cells #[.int .i64 d0, .int .i64 d1, .int .i64 d2, .bool d3, .slice A' xs.length c', .int .i64 d5] 72 (0, 0)) := by rw [← hw4, ← hG]; exact heap_alloc_new w3 _
  have hb4 : Below w3.heap.size w3 w4 := by rw [← hw4]; exact below_alloc w3 _
  have hb14 : Below w1.heap.size w1 w4 := below_step hb3 hb4
  have hq4 : w4.heap[R]? = some (.cells #[.int .i64 0, .int .i64 0, .int .i64 0, .bool false, .slice none 0 0, .int .i64 0] 72 (0, 0)) := (hb14.block R (by omega)).trans hr1
  have hx4 := HX1.out.below hb14
  have cP : w4.cell? ⟨P, k, none⟩ = some (Pq b) := (World.cell?_of_block (a := ⟨P, k, none⟩) (hb14.block P HX1.out.lo.2)).trans hcell
  have fP := hx4.fz k
  have hlo := HX.out.lo
  have hs3 := hb3.size
  have hz4 : w4.heap.size = G + 1 := by rw [← hw4, World.size_alloc, hG]
  obtain ⟨w5, hw5⟩ : ∃ w5, w4.setCell ⟨P, k, none⟩ (.pointer none) = w5 := ⟨_, rfl⟩
  have ho5 : Only (fun q => q = P) w4 w5 := by rw [← hw5]; exact only_at _ _ _ _
  have HT := Lib.hid (there_row ((ho5.block R (by omega) (by omega)).trans hq4) rfl)
  have HL := Lib.hid (show w5.rangeAt G 0 [.int .i64 d0, .int .i64 d1, .int .i64 d2, .bool d3, .slice A' xs.length c', .int .i64 d5] from fun j v hv => by rw [Nat.zero_add, cell_row ((ho5.block G (by omega) (by omega)).trans hr4)]; simpa using hv)
  have HF := Lib.hid (show ∀ x0 x1 x2 x3 x4 x5, Own (set6 w5 R x0 x1 x2 x3 x4 x5) w.heap.size A' c' xs ∧ TbX w0 (set6 w5 R x0 x1 x2 x3 x4 x5) P tg (closeT T (k : Int)) ∧ Kp tg tg w (set6 w5 R x0 x1 x2 x3 x4 x5) from fun x0 x1 x2 x3 x4 x5 => by
   have ho6 : Only (fun q => q = P ∨ q = R) w4 (set6 w5 R x0 x1 x2 x3 x4 x5) := (ho5.mono fun _ e => .inl e).trans ((set6_only _ _ _ _ _ _ _ _).mono fun _ e => .inr e)
   have ho3 : Only (fun q => q = P ∨ q = R) w3 (set6 w5 R x0 x1 x2 x3 x4 x5) := (Only.of_below hb4).trans ho6
   refine ⟨own_base (own_only hown ho3 (by intro q e; omega)) (by omega), ?_, ?_⟩
   ·rw [HCl.out]
    have hkeep : ∀ q, tg q ≠ 0 → q ≠ P → (set6 w5 R x0 x1 x2 x3 x4 x5).heap[q]? = w1.heap[q]? := fun q hq hP => by
     have h1 := (HX.out.own q hq).2
     rw [ho6.block q (by omega) (by omega), hb14.block q (by omega)]
    have hcP : ∀ j, (set6 w5 R x0 x1 x2 x3 x4 x5).cell? ⟨P, j, none⟩ = w5.cell? ⟨P, j, none⟩ := fun j => World.cell?_of_block (a := ⟨P, j, none⟩) ((set6_only _ _ _ _ _ _ _ _).block P (by have := ho5.size; omega) (by omega))
    refine ⟨fun q hq => ?_, HX.out.tp, ?_, fun j => ?_, fun j hj => ?_⟩
    ·have := HX.out.own q hq
     have := ho6.size
     omega
    ·exact Only.below (Only.below HX1.out.bel (Only.of_below hb14 (F := fun _ => False)) (by intro b e; exact e.elim)) ho6 (by intro q e; have := HX.out.bel.size; omega)
    ·have : (set6 w5 R x0 x1 x2 x3 x4 x5).frozen? ⟨P, j, none⟩ = w5.frozen? ⟨P, j, none⟩ := World.frozen?_of_block (a := ⟨P, j, none⟩) ((set6_only _ _ _ _ _ _ _ _).block P (by have := ho5.size; omega) (by omega))
     rw [this, ← hw5, World.frozen?_setCell]
     exact hx4.fz j
    ·by_cases e : j = k
     ·subst e
      rw [put_same]
      show (set6 w5 R x0 x1 x2 x3 x4 x5).cell? ⟨P, j, none⟩ = some (.pointer none)
      rw [hcP, ← hw5]
      exact World.cell?_setCell_same _ _ _ cP
     ·rw [put_other _ _ e]
      refine (HX1.out.slot j hj).move (k := k) e ?_ (fun q q1 q2 q3 => hkeep q q1 (fun e => by rw [e, HX1.out.tp] at q2; exact q2 rfl)) (fun _ _ => rfl) hj hk
      rw [hcP, ← hw5, set_oth _ _ _ _ _ e]
      exact World.cell?_of_block (a := ⟨P, j, none⟩) (hb14.block P HX1.out.lo.2)
   ·refine ⟨⟨?_, ?_, ?_, ?_, fun q hq hF => ?_⟩, fun _ _ h => h⟩
    ·exact ho6.os.trans (hb14.os.trans HB1.out.os)
    ·exact ho6.tape.trans (hb14.tape.trans HB1.out.tape)
    ·exact ho6.output.trans (hb14.output.trans HB1.out.output)
    ·have := ho6.size; omega
    ·have hqP : q ≠ P := fun e => hF (by rw [e, HX.out.tp]; decide)
     rw [ho6.block q (by omega) (by omega), hb14.block q (by omega), HB1.out.block q (by omega)])
  clear hown hr4 hb4 hb3 hr1 hb14 hq4 hx4 hcell ho5
  go_wp2_with (first | refine wpList_load_mid (by rfl) 72 (.tmp 6) (by rfl) G 0 (by rfl) _ _ HL.out Tryz.underlying72 (by rfl) (by kernel_rfl) ?_ | refine wpList_store_mid (by rfl) 72 (.tmp 4) (.tmp 23) (by rfl) R 0 #[.int .i64 d0, .int .i64 d1, .int .i64 d2, .bool d3, .slice A' xs.length c', .int .i64 d5] (by rfl) (by rfl) HT.out (by kernel_rfl) (by simp [Value.oneCell']) ?_)
  refine bodyPost_ret (results_row_tmp rfl _ _ R [.int .i64 d0, .int .i64 d1, .int .i64 d2, .bool d3, .slice A' xs.length c', .int .i64 d5] _ rfl (set6_range HT.out _ _ _ _ _ _) Tryz.underlying72 (by rfl) (by kernel_rfl)) rfl ?_
  exact ⟨A', c', rfl, (HF.out _ _ _ _ _ _).1, (HF.out _ _ _ _ _ _).2.1, (HF.out _ _ _ _ _ _).2.2⟩
end Go.Proofs.YtpmpbmjjlccbbaaGreat.ds
