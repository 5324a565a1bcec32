/- Part 42 of what is known of the program's functions and of the document's words: contracts, and the mathematics beneath them. -/
import Derived.Test.YtgoddboicjfkcaaGreatProg
import Derived.Test.YtgoddboicjfkcaaGreatZ30
import Derived.Test.YtgoddboicjfkcaaGreatZ41
import Derived.Deep.RegionHeld3
import Derived.Test.YtgoddboicjfkcaaGreatZ40
import Derived.Test.YtgoddboicjfkcaaGreatZ27
import Derived.Test.YtgoddboicjfkcaaGreatZ28
set_option linter.unusedVariables false
set_option linter.unusedSimpArgs false
set_option maxRecDepth 100000
set_option maxHeartbeats 8000000
namespace Go.Proofs.YtgoddboicjfkcaaGreat.fl
open Go.RowKit
open br (BS Ino Inv Tree sumF)
open cb (BrX RetW RetI No)
open bl (Pq)
open mg (Nd Nv kindV getV rootV AllV bel_step bel_alloc Vd Rv R4 rroot_any)
theorem flatMap_same {α β : Type} {f g : α → List β} : ∀ {l : List α}, (∀ x ∈ l, f x = g x) → l.flatMap f = l.flatMap g
 | [], _ => rfl
 | x :: l, h => by rw [List.flatMap_cons, List.flatMap_cons, h x (by simp), flatMap_same fun y hy => h y (by simp [hy])]
theorem linesV_deep {U L : BS} {r1 r2 : Nat} (hU : Inv U r1) (hL : Inv L r2) {dU dL : Nat → Nat} (hdU : Deep U dU) (hdL : Deep L dL) (hA : ∀ n, ∃ ns, AllV U L n ns) :
  ∀ (d d' : Nat) (n : Nd) (at_ : ByteArray), hN U L dU dL n < d → hN U L dU dL n < d' → linesV U L d n at_ = linesV U L d' n at_
 | 0, _, _, _, h, _ => absurd h (Nat.not_lt_zero _)
 | _ + 1, 0, _, _, _, h => absurd h (Nat.not_lt_zero _)
 | d + 1, d' + 1, n, at_, h, h' => by
  obtain ⟨ns, hns⟩ := hA n
  rw [linesV_succ hns, linesV_succ hns]
  refine flatMap_same fun s hs => ?_
  have hc := hN_child hU hL hdU hdL n s ((hns.mem s).1 hs)
  unfold linesN
  rw [linesV_deep hU hL hdU hdL hA d d' _ _ (Nat.lt_of_lt_of_le hc (Nat.le_of_lt_succ h)) (Nat.lt_of_lt_of_le hc (Nat.le_of_lt_succ h'))]
theorem rof_any {w : World} {D1 D2 : Nat} {u l : Int} {U L : BS} {r1 r2 : Nat} (hv : Vd w D1 D2 U L) (hU : br.Good U r1) (hL : br.Good L r2) (hA : ∀ n, ∃ ns, AllV U L n ns) : Calls Tryz.prog 43 #[Rv D1 D2 u l] w (BelE w (ofV U L u l)) := by
 obtain ⟨dU, hdU⟩ := br.Tree.bound hU.1 hU.2
 obtain ⟨dL, hdL⟩ := br.Tree.bound hL.1 hL.2
 have hle := hN_le U L dU dL (rootV U L u l)
 have HOF := Lib.hid (show linesV U L 300 (rootV U L u l) ⟨#[]⟩ = ofV U L u l from linesV_deep hU.1 hL.1 hdU hdL hA 300 202 _ _ (by omega) (by omega))
 have HLN := Lib.hid (show (ofV U L u l).length ≤ 4000000 by have := ofV_len hU hL u l; omega)
 obtain ⟨w1, hw1⟩ : ∃ w1, w.alloc (.cells #[Pq D1, Pq D2, .int .i64 u, .int .i64 l] 36) = w1 := ⟨_, rfl⟩
 have hb1 : Below w.heap.size w w1 := by rw [← hw1]; exact bel_alloc _ _
 have HR1 := Lib.hid (show R4 w1 w.heap.size D1 D2 u l by rw [← hw1]; exact R4.new w D1 D2 u l)
 have HB1 := Lib.hid hb1
 have HBd := Lib.hid (show Below w.heap.size w w1.drew from bel_step hb1 (Below.refl w1.heap.size w1).drew)
 have HRT := Lib.hid (rroot_any (u := u) (l := l) (hv.below HBd.out))
 have HIH := Lib.hid (fun W (hb : Below w.heap.size w W) => by
  have h := rbelow_any (u := u) (l := l) hv hU.1 hL.1 hdU hdL hA 300 (rootV U L u l) ⟨#[]⟩ W (by omega) (Nat.le_refl _) (by decide) (by rw [HOF.out]; exact HLN.out) hb
  rw [HOF.out, show (300 - ((300 : Nat) : Int)) = 0 from by decide] at h
  exact h)
 unfold BelE at HIH
 generalize rootV U L u l = rt at *
 generalize ofV U L u l = Y at *
 obtain ⟨t1, t2⟩ := rt
 obtain ⟨g, hg⟩ : ∃ g, w.heap.size = g := ⟨_, rfl⟩
 have HGB := Lib.hid hg
 rw [hg] at HR1
 obtain ⟨PQ, hPQ⟩ : ∃ P, BelE w Y = P := ⟨_, rfl⟩
 have HE := Lib.hid (show ∀ W A c, LO W w.heap.size (.slice A Y.length c) Y → Below w.heap.size w W → PQ (.returned (.slice A Y.length c)) W from fun W A c a b => by rw [← hPQ]; exact ⟨A, c, rfl, a, b⟩)
 rw [hPQ]
 clear hv hU hL hdU hdL hb1 hle hA hPQ HOF HLN
 go_enter Tryz.func43, Tryz.ntmps43
 go_upto_region 1 with fail
 try rw [hw1]
 clear hw1
 obtain ⟨k0, k1, k2, k3⟩ := HR1.out
 have HSS := Lib.hid (fun W (hb : Below w1.heap.size w1 W) => show W.cell? ⟨g, 0, none⟩ = some (Pq D1) ∧ W.cell? ⟨g, 1, none⟩ = some (Pq D2) ∧ W.cell? ⟨g, 2, none⟩ = some (.int .i64 u) ∧ W.cell? ⟨g, 3, none⟩ = some (.int .i64 l) from ⟨(HR1.out.below hb).c0, (HR1.out.below hb).c1, (HR1.out.below hb).c2, (HR1.out.below hb).c3⟩)
 have S0 := HSS.out w1 (Below.refl _ _)
 clear k0 k1 k2 k3
 go_region_held3 (fun W => W.cell? ⟨g, 0, none⟩ = some (Pq D1) ∧ W.cell? ⟨g, 1, none⟩ = some (Pq D2) ∧ W.cell? ⟨g, 2, none⟩ = some (.int .i64 u) ∧ W.cell? ⟨g, 3, none⟩ = some (.int .i64 l))
  (first | with_reducible exact S0 | with_reducible exact S5 | with_reducible exact S6 | assumption | go_keep)
  (first
   | (go_at_call 16; ((with_reducible refine HRT.out.mono ?_); rintro _ w5 ⟨rfl, hb5⟩; have HB5 := Lib.hid (bel_step (Below.refl w1.heap.size w1).drew hb5); have S5 := HSS.out w5 HB5.out; have HV5 := Lib.hid (HIH.out w5 (bel_step HB1.out HB5.out)); clear hb5))
   | (go_at_call 112; ((with_reducible refine HV5.out.mono ?_); rintro _ w6 ⟨A6, c6, rfl, hl6, hb6⟩; have HB6 := Lib.hid (bel_step HB5.out hb6); have S6 := HSS.out w6 HB6.out; have HL6 := Lib.hid hl6; clear hl6 hb6)))
 have hfin := HE.out w6 A6 c6 ⟨HL6.out.1, HL6.out.2.imp id fun ⟨g, a, b, c, d, e⟩ => ⟨g, a, b, c, Nat.le_trans (bel_step HB1.out HB5.out).size d, e⟩⟩ (bel_step HB1.out HB6.out)
 clear S0 S5 S6
 generalize Y.length = zl at *
 go_wp2_with fail
 exact hfin
end Go.Proofs.YtgoddboicjfkcaaGreat.fl
namespace Go.Proofs.YtgoddboicjfkcaaGreat.fl
open Go.RowKit
open br (BS Ino Inv Tree sumF fresh)
open cb (BrX RetW RetI No)
open bl (Pq)
open mg (Nd Nv Vx bel_step bel_alloc BelowOf wp_region_below calls_below)
def AwakeE (w : World) (e : Ending) (w' : World) : Prop := e = .returned (.bool true) ∧ Below w.heap.size w w'
theorem tree_zl {w w' : World} {e : Ending} (h : TreeE w zl 9 e w') : ∃ P : Nat, e = .returned (.tuple #[Pq P, .int .i64 0]) ∧ BrX w w' P (fun b => b < w.heap.size) aS 9 990 := by
 rcases h with ⟨h, _⟩ | ⟨R, hR, _, h⟩
 ·omega
 ·obtain rfl : R = 9 := by omega
  rcases h with ⟨err, _, h, _⟩ | ⟨P, S, h, h2, h3⟩
  ·rw [aS_is] at h; cases h
  ·rw [aS_is] at h; injection h with h; subst h
   exact ⟨P, h2, h3⟩
theorem tree_z1 {w w' : World} {e : Ending} (h : TreeE w z1 9 e w') : e = .returned (.tuple #[.pointer none, .int .i64 2]) ∧ Below w.heap.size w w' := by
 rcases h with ⟨h, _⟩ | ⟨R, hR, _, h⟩
 ·omega
 ·obtain rfl : R = 9 := by omega
  rcases h with ⟨err, _, _, hk, h, hb⟩ | ⟨P, S, h, h2, h3⟩
  ·have := hk _ rfl (by show (placeM fresh yB).2 ≠ 0; rw [z1_place]; decide)
   rw [show (placeM fresh (⟨yB, 1, yX⟩ : Ln).path).2 = 2 from z1_place] at this
   rw [this] at h
   exact ⟨h, hb⟩
  ·have := z1_none; rw [h] at this; cases this
theorem tree_nil {w w' : World} {e : Ending} (h : TreeE w [] 9 e w') : ∃ P : Nat, e = .returned (.tuple #[Pq P, .int .i64 0]) ∧ BrX w w' P (fun b => b < w.heap.size) fresh 9 990 := by
 rcases h with ⟨h, _⟩ | ⟨R, hR, _, h⟩
 ·omega
 ·obtain rfl : R = 9 := by omega
  rcases h with ⟨err, _, h, _⟩ | ⟨P, S, h, h2, h3⟩
  ·cases h
  ·injection h with h; subst h
   exact ⟨P, h2, h3⟩
theorem three {b : Nat} {w : World} (h : w.heap[b]? = some (.cells #[.string yA, .int .i64 2, .string ⟨#[]⟩, .string yB, .int .i64 1, .string yX, .string yC, .int .i64 3, .string y1] 104 (0, 0))) :
  LR w (b + 1) (some ⟨b, 0, none⟩) zl ∧ LR w (b + 1) (some ⟨b, 3, none⟩) z1 ∧ LR w (b + 1) (some ⟨b, 3, none⟩) (zl.drop 1) := by
 have c : ∀ j, w.cell? ⟨b, j, none⟩ = _ := fun j => Lib.cell_of_heap h j
 refine ⟨fun j x hx => ?_, fun j x hx => ?_, fun j x hx => ?_⟩
 ·match j, hx with
  | 0, hx => injection hx with hx; subst hx; exact ⟨b, 0, rfl, Nat.lt_succ_self _, (c 0).trans rfl, (c 1).trans rfl, (c 2).trans rfl⟩
  | 1, hx => injection hx with hx; subst hx; exact ⟨b, 0, rfl, Nat.lt_succ_self _, (c 3).trans rfl, (c 4).trans rfl, (c 5).trans rfl⟩
  | 2, hx => injection hx with hx; subst hx; exact ⟨b, 0, rfl, Nat.lt_succ_self _, (c 6).trans rfl, (c 7).trans rfl, (c 8).trans rfl⟩
  | n + 3, hx => cases hx
 ·match j, hx with
  | 0, hx => injection hx with hx; subst hx; exact ⟨b, 3, rfl, Nat.lt_succ_self _, (c 3).trans rfl, (c 4).trans rfl, (c 5).trans rfl⟩
  | n + 1, hx => cases hx
 ·match j, hx with
  | 0, hx => injection hx with hx; subst hx; exact ⟨b, 3, rfl, Nat.lt_succ_self _, (c 3).trans rfl, (c 4).trans rfl, (c 5).trans rfl⟩
  | 1, hx => injection hx with hx; subst hx; exact ⟨b, 3, rfl, Nat.lt_succ_self _, (c 6).trans rfl, (c 7).trans rfl, (c 8).trans rfl⟩
  | n + 2, hx => cases hx
theorem LO.lr {w : World} {B : Nat} {A : Value} {X : List Ln} (h : LO w B A X) : ∃ A' c, A = .slice A' X.length c ∧ LR w w.heap.size A' X ∧ X.length ≤ c ∧ c ≤ maxLen := by
 rcases h.2 with ⟨hv, h0⟩ | ⟨g, cap, cur, hv, hb, hg, h1, h2, h3, h4⟩
 ·refine ⟨none, 0, by rw [hv, h0], ?_, by omega, by unfold maxLen; omega⟩
  have : X = [] := List.eq_nil_of_length_eq_zero h0
  subst this
  exact fun j x hx => by cases hx
 ·refine ⟨some ⟨g, 0, none⟩, cap, hv, fun j x hx => ?_, h1, h2⟩
  obtain ⟨k0, k1, k2⟩ := lcs_get hx
  have hj := (List.getElem?_eq_some_iff.1 hx).1
  have hc : ∀ i v, (lcs X)[i]? = some v → w.cell? ⟨g, i, none⟩ = some v := fun i v hi => by
   have hl := (List.getElem?_eq_some_iff.1 hi).1
   rw [lcs_len] at hl
   rw [Lib.cell_of_heap hg, ← Array.getElem?_toList]
   rw [← h4, List.getElem?_take, if_pos hl] at hi
   exact hi
  refine ⟨g, 0, rfl, (Array.getElem?_eq_some_iff.1 hg).1, hc _ _ (by rw [Nat.zero_add, Nat.mul_comm]; exact k0), hc _ _ (by rw [Nat.zero_add, Nat.mul_comm]; exact k1), hc _ _ (by rw [Nat.zero_add, Nat.mul_comm]; exact k2)⟩
theorem LR.below {w w' : World} {B : Nat} {A : Option Addr} {l : List Ln} (h : LR w B A l) (hB : B ≤ w.heap.size) (hb : Below w.heap.size w w') : LR w' B A l := h.same fun b hl => hb.block b (Nat.lt_of_lt_of_le hl hB)
theorem awake_any (w : World) : Calls Tryz.prog 30 #[] w (AwakeE w) := by
 obtain ⟨b, hb⟩ : ∃ b, w.heap.size = b := ⟨_, rfl⟩
 obtain ⟨w1, hw1⟩ : ∃ w1, w.alloc (.cells #[.string yA, .int .i64 2, .string ⟨#[]⟩, .string yB, .int .i64 1, .string yX, .string yC, .int .i64 3, .string y1] 104) = w1 := ⟨_, rfl⟩
 have hh : w1.heap[b]? = some (.cells #[.string yA, .int .i64 2, .string ⟨#[]⟩, .string yB, .int .i64 1, .string yX, .string yC, .int .i64 3, .string y1] 104 (0, 0)) := by rw [← hw1, ← hb]; exact heap_alloc_new w _
 have hb1 : Below w.heap.size w w1 := by rw [← hw1]; exact bel_alloc _ _
 have HB1 := Lib.hid hb1
 have HZ1 := Lib.hid (show b + 1 ≤ w1.heap.size by rw [← hw1, World.size_alloc, hb]; exact Nat.le_refl _)
 have H3 := Lib.hid (three hh)
 have HT1 := Lib.hid (show Calls Tryz.prog 87 #[.slice (some ⟨b, 0, none⟩) 3 3, .int .i64 9] w1 (TreeE w1 zl 9) from tree_any (c := 3) H3.out.1 HZ1.out (by decide) (by decide +kernel) 9)
 clear hh hb1
 unfold AwakeE
 go_enter Tryz.func30, Tryz.ntmps30
 go_wp2_with fail
 refine HT1.out.mono ?_
 intro _ w2 h2
 obtain ⟨P2, rfl, hB2⟩ := tree_zl h2
 have HP2 := Lib.hid hB2
 have HB2 := Lib.hid (show Below w1.heap.size w1 w2 from hB2.bel)
 have HT2 := Lib.hid (show Calls Tryz.prog 87 #[.slice (some ⟨b, 3, none⟩) 1 2, .int .i64 9] w2 (TreeE w2 z1 9) from tree_any (c := 2) (H3.out.2.1.below HZ1.out HB2.out) (Nat.le_trans HZ1.out HB2.out.size) (by decide) (by decide +kernel) 9)
 clear h2 hB2 HT1 hw1
 go_wp2_with fail
 refine HT2.out.mono ?_
 intro _ w3 h3
 obtain ⟨rfl, hb3⟩ := tree_z1 h3
 have HB3 := Lib.hid (bel_step HB2.out hb3)
 have HP3 := Lib.hid (HP2.out.below hb3)
 have HT3 := Lib.hid (show Calls Tryz.prog 87 #[.slice none 0 0, .int .i64 9] w3 (TreeE w3 [] 9) from tree_any (B := 0) (A := none) (l := []) (c := 0) (fun j x hx => by cases hx) (Nat.zero_le _) (by decide) (fun x hx => by cases hx) 9)
 clear h3 hb3 HT2 HP2 HB2
 go_wp2_with fail
 refine HT3.out.mono ?_
 intro _ w4 h4
 obtain ⟨P4, rfl, hB4⟩ := tree_nil h4
 have HP4 := Lib.hid hB4
 have HB4 := Lib.hid (bel_step HB3.out hB4.bel)
 have HP34 := Lib.hid (HP3.out.below hB4.bel)
 have HN := Lib.hid (mg.new_any P2 P4 1 1 w4)
 have HVX := Lib.hid (Vx.made (u := 1) (l := 1) HP34.out.forget HP4.out.forget)
 have HOF := Lib.hid (of_any HVX.out HP34.out.good HP4.out.good)
 rw [aS_of HP34.out.good.1 HP4.out.good.1] at HOF
 unfold OfE at HOF
 clear h4 hB4 HT3 HP3 HB3
 go_wp2_with fail
 refine HN.out.mono ?_
 rintro _ w5 ⟨rfl, rfl⟩
 have HB5 := Lib.hid (bel_step HB4.out (bel_alloc w4 (.cells #[Pq P2, Pq P4, .int .i64 1, .int .i64 1] 111)))
 go_wp2_with fail
 refine HOF.out.mono ?_
 rintro _ w6 ⟨A6, rfl, hlo, hb6⟩
 obtain ⟨A', c, rfl, hlr, hc1, hc2⟩ := hlo.lr
 rw [show zl.length = 3 from rfl] at hc1 ⊢
 have HB6 := Lib.hid (bel_step HB5.out hb6)
 have HLM := Lib.hid hlr
 have HL1 := Lib.hid (H3.out.1.below HZ1.out HB6.out)
 have HL2 := Lib.hid (H3.out.2.1.below HZ1.out HB6.out)
 have HL3 := Lib.hid (H3.out.2.2.below HZ1.out HB6.out)
 have HBZ := Lib.hid (Nat.le_trans HZ1.out HB6.out.size)
 obtain ⟨bm, om, rfl, -, c0, c1, c2⟩ := HLM.out 1 ⟨yB, 1, yX⟩ rfl
 obtain ⟨bq, oq, hq, -, d0, d1, d2⟩ := HL1.out 1 ⟨yB, 1, yX⟩ rfl
 injection hq with hq
 injection hq with hq1 hq2
 subst hq1
 subst hq2
 have k0 : ∀ p : BelowOf w6, p.W.cell? ⟨bm, om + 3, none⟩ = some (.string yB) := fun p => (p.h.cell (p := ⟨bm, om + 3, none⟩) (World.block_lt_of_cell? _ _ c0)).trans c0
 have k1 : ∀ p : BelowOf w6, p.W.cell? ⟨bm, om + 3 + 1, none⟩ = some (.int .i64 1) := fun p => (p.h.cell (p := ⟨bm, om + 3 + 1, none⟩) (World.block_lt_of_cell? _ _ c1)).trans c1
 have k2 : ∀ p : BelowOf w6, p.W.cell? ⟨bm, om + 3 + 2, none⟩ = some (.string yX) := fun p => (p.h.cell (p := ⟨bm, om + 3 + 2, none⟩) (World.block_lt_of_cell? _ _ c2)).trans c2
 have j0 : ∀ p : BelowOf w6, p.W.cell? ⟨b, 3, none⟩ = some (.string yB) := fun p => (p.h.cell (p := ⟨b, 3, none⟩) (World.block_lt_of_cell? _ _ d0)).trans d0
 have j1 : ∀ p : BelowOf w6, p.W.cell? ⟨b, 4, none⟩ = some (.int .i64 1) := fun p => (p.h.cell (p := ⟨b, 4, none⟩) (World.block_lt_of_cell? _ _ d1)).trans d1
 have j2 : ∀ p : BelowOf w6, p.W.cell? ⟨b, 5, none⟩ = some (.string yX) := fun p => (p.h.cell (p := ⟨b, 5, none⟩) (World.block_lt_of_cell? _ _ d2)).trans d2
 have hgd := guard79
 have hq : ∀ W, (binOp .eql 104 (.agg #[.string yB, .int .i64 1, .string yX]) (.agg #[.string yB, .int .i64 1, .string yX])).run Tryz.prog W = .ok (.bool true) W := fun W => (run_eql79 ⟨yB, 1, yX⟩ ⟨yB, 1, yX⟩ W).trans (by rw [sameL_iff.2 rfl])
 have HSA := Lib.hid (fun p : BelowOf w6 => calls_below p (show Calls Tryz.prog 54 #[.slice (some ⟨bm, om, none⟩) 3 c, .slice (some ⟨b, 0, none⟩) 3 3] p.W (RetW p.W (.bool true)) by
  have := same_any (c := c) (c' := 3) (HLM.out.below (Nat.le_refl _) p.h) ((HL1.out.up HBZ.out).below (Nat.le_refl _) p.h) p.h.size (by decide) (by decide)
  rw [z_same] at this
  exact this))
 have HSB := Lib.hid (fun p : BelowOf w6 => calls_below p (show Calls Tryz.prog 54 #[.slice (some ⟨bm, om, none⟩) 3 c, .slice (some ⟨b, 3, none⟩) 2 2] p.W (RetW p.W (.bool false)) by
  have := same_any (c := c) (c' := 2) (HLM.out.below (Nat.le_refl _) p.h) ((HL3.out.up HBZ.out).below (Nat.le_refl _) p.h) p.h.size (by decide) (by decide)
  rw [z_diff] at this
  exact this))
 have HSC := Lib.hid (fun p : BelowOf w6 => calls_below p (show Calls Tryz.prog 47 #[.slice (some ⟨b, 3, none⟩) 1 2] p.W (RetW p.W (.string ⟨#[47, 97, 47, 98, 0, 49, 120, 0, 10]⟩)) by
  have := text_any (c := 2) ((HL2.out.up HBZ.out).below (Nat.le_refl _) p.h) p.h.size (by decide) z_sz
  rw [z_text] at this
  exact this))
 clear hlo hlr hb6 HOF c0 c1 c2 d0 d1 d2 HN HVX HP34 HP4
 go_upto_region 8 with fail
 refine wp_region_below (by kernel_rfl) (by kernel_rfl) ?_
 repeat (go_big_quiet_step ((first | (go_at_call 54; with_reducible exact HSA.out _) | (go_at_call 54; with_reducible exact HSB.out _) | (go_at_call 47; with_reducible exact HSC.out _))))
 refine wpQuiet_nil ?_
 rintro w7 ⟨⟨_, h7⟩, rfl⟩
 have HB7 := Lib.hid (bel_step HB1.out (bel_step HB6.out h7))
 clear h7
 go_wp2_with fail
 go_ret
 exact ⟨rfl, HB7.out⟩
end Go.Proofs.YtgoddboicjfkcaaGreat.fl
namespace Go.Proofs.YtgoddboicjfkcaaGreat.fl
open Go.ChangeShapes Go.WideShapes Go.ChangeAt Go.RowKit
instance : Inhabited Ln := ⟨⟨⟨#[]⟩, 0, ⟨#[]⟩⟩⟩
structure Act6 where
 low : Bool
 kind : Int
 d : Int
 n : Int
 a : ByteArray
 b : ByteArray
instance : Inhabited Act6 := ⟨⟨false, 0, 0, 0, ⟨#[]⟩, ⟨#[]⟩⟩⟩
def Acts (w : World) (B : Nat) (A : Option Addr) (n : Nat) (F : Nat → Act6) : Prop := ∀ i, i < n → ∃ b off, A = some ⟨b, off, none⟩ ∧ b < B ∧
 w.cell? ⟨b, off + i * 6, none⟩ = some (.bool (F i).low) ∧
 w.cell? ⟨b, off + i * 6 + 1, none⟩ = some (.int .i64 (F i).kind) ∧
 w.cell? ⟨b, off + i * 6 + 2, none⟩ = some (.int .i64 (F i).d) ∧
 w.cell? ⟨b, off + i * 6 + 3, none⟩ = some (.int .i64 (F i).n) ∧
 w.cell? ⟨b, off + i * 6 + 4, none⟩ = some (.string (F i).a) ∧
 w.cell? ⟨b, off + i * 6 + 5, none⟩ = some (.string (F i).b) ∧ (F i).a.size ≤ maxLen ∧ (F i).b.size ≤ maxLen
theorem Acts.same {w w' : World} {B n : Nat} {A : Option Addr} {F : Nat → Act6} (h : Acts w B A n F) (hb : ∀ b, b < B → w'.heap[b]? = w.heap[b]?) : Acts w' B A n F := fun i hi => by
 obtain ⟨b, off, e, hB, h0, h1, h2, h3, h4, h5, h7, h8⟩ := h i hi
 exact ⟨b, off, e, hB, (World.cell?_of_block (a := ⟨b, off + i * 6, none⟩) (hb b hB)).trans h0, (World.cell?_of_block (a := ⟨b, off + i * 6 + 1, none⟩) (hb b hB)).trans h1, (World.cell?_of_block (a := ⟨b, off + i * 6 + 2, none⟩) (hb b hB)).trans h2, (World.cell?_of_block (a := ⟨b, off + i * 6 + 3, none⟩) (hb b hB)).trans h3, (World.cell?_of_block (a := ⟨b, off + i * 6 + 4, none⟩) (hb b hB)).trans h4, (World.cell?_of_block (a := ⟨b, off + i * 6 + 5, none⟩) (hb b hB)).trans h5, h7, h8⟩
theorem open_acts {H : Type} {enc : TypeId × Value → H} {W : World} {r : Reach} {b0 : Nat} {sp : Nat → Bool} {held : Bool} {v : Value} {d : DataW H} {p : List MemPlace}
  (hv : Value.okWide Tryz.prog W r b0 57 v) (h : DataW.Trod enc Tryz.prog W 0 sp held 57 v d p) :
  ∃ A n c F, v = .slice A n c ∧ (n ≤ c ∧ c ≤ maxLen) ∧ Acts W W.heap.size A n F := by
 obtain ⟨fuel, hf⟩ := h
 have hcells : v.cells.toList = [v] := by
  obtain ⟨A, n, c, rfl⟩ := okWide_slice Tryz.underlying57 hv
  rfl
 rw [hcells] at hf
 rcases cb.open_slice_fields Tryz.underlying57 Tryz.underlying63 (by kernel_rfl) (by kernel_rfl) hf with e | ⟨a, len, cap, m, e, hl, hm, hlm, hi⟩
 ·injection e with e
  subst e
  exact ⟨none, 0, 0, fun _ => default, rfl, ⟨Nat.le_refl _, by unfold maxLen; omega⟩, fun i hi => absurd hi (Nat.not_lt_zero _)⟩
 ·injection e with e
  subst e
  have hall : ∀ i, ∃ x : Act6, i < len → ∃ b off, (some a : Option Addr) = some ⟨b, off, none⟩ ∧ b < W.heap.size ∧
    W.cell? ⟨b, off + i * 6, none⟩ = some (.bool x.low) ∧
 W.cell? ⟨b, off + i * 6 + 1, none⟩ = some (.int .i64 x.kind) ∧
 W.cell? ⟨b, off + i * 6 + 2, none⟩ = some (.int .i64 x.d) ∧
 W.cell? ⟨b, off + i * 6 + 3, none⟩ = some (.int .i64 x.n) ∧
 W.cell? ⟨b, off + i * 6 + 4, none⟩ = some (.string x.a) ∧
 W.cell? ⟨b, off + i * 6 + 5, none⟩ = some (.string x.b) ∧ x.a.size ≤ maxLen ∧ x.b.size ≤ maxLen := by
   intro i
   by_cases hil : i < len
   ·obtain ⟨n0, hj0⟩ := hi 0 (by omega)
    obtain ⟨_, _, c00, _⟩ := hj0 0 _ rfl
    obtain ⟨b, off, rfl, hb⟩ := cb.spot_none (by simpa using c00)
    obtain ⟨n, hj⟩ := hi i (by omega)
    obtain ⟨v0, y0, c0, t0⟩ := hj 0 _ rfl
    obtain ⟨v1, y1, c1, t1⟩ := hj 1 _ rfl
    obtain ⟨v2, y2, c2, t2⟩ := hj 2 _ rfl
    obtain ⟨v3, y3, c3, t3⟩ := hj 3 _ rfl
    obtain ⟨v4, y4, c4, t4⟩ := hj 4 _ rfl
    obtain ⟨v5, y5, c5, t5⟩ := hj 5 _ rfl
    obtain ⟨z0, e0, _⟩ := DataW.trod_bool Tryz.underlying4 t0
    obtain ⟨z1, e1, _⟩ := DataW.trod_int Tryz.underlying3 t1
    obtain ⟨z2, e2, _⟩ := DataW.trod_int Tryz.underlying3 t2
    obtain ⟨z3, e3, _⟩ := DataW.trod_int Tryz.underlying3 t3
    obtain ⟨z4, e4, _, hz4⟩ := DataW.trod_string Tryz.underlying9 t4
    obtain ⟨z5, e5, _, hz5⟩ := DataW.trod_string Tryz.underlying9 t5
    injection e0 with e0
    subst e0
    injection e1 with e1
    subst e1
    injection e2 with e2
    subst e2
    injection e3 with e3
    subst e3
    injection e4 with e4
    subst e4
    injection e5 with e5
    subst e5
    rw [Go.WideShapes.add_plain] at c0 c1 c2 c3 c4 c5
    exact ⟨⟨z0, z1, z2, z3, z4, z5⟩, fun _ => ⟨b, off, rfl, hb, by simpa using c0, by simpa [Nat.add_assoc] using c1, by simpa [Nat.add_assoc] using c2, by simpa [Nat.add_assoc] using c3, by simpa [Nat.add_assoc] using c4, by simpa [Nat.add_assoc] using c5, hz4, hz5⟩⟩
   ·exact ⟨default, fun h => absurd h hil⟩
  obtain ⟨F, hF⟩ := Classical.axiomOfChoice hall
  exact ⟨some a, len, cap, F, rfl, ⟨hl, hm⟩, hF⟩
theorem acts_stay {H : Type} {enc : TypeId × Value → H} {W W' : World} {v : Value} {d : DataW H} {ps before : List MemPlace} {sp : Nat → Bool}
  (h : DataW.Trod enc Tryz.prog W 0 (fun _ => true) true 57 v d ps) (hb : Below W.heap.size W W') (hsub : ∀ x ∈ ps, x ∈ before) (hlt : ∀ x ∈ before, x.block < W.heap.size) (hsp : ∀ x ∈ before, sp x.block = true) (hlaid : laidOutB Tryz.prog = true) :
  DataW.Trod enc Tryz.prog W' 0 sp true 57 v d ps :=
 WideElems.Trod_stays hlaid (by kernel_rfl) (of_decide_eq_true (by kernel_rfl)) h (fun x hx => hb.same (hlt x (hsub x hx))) (fun x hx => hsp x (hsub x hx))
end Go.Proofs.YtgoddboicjfkcaaGreat.fl
