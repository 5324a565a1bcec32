/- Part 30 of what is known of the program's functions and of the document's words: contracts, and the mathematics beneath them. -/
import Derived.Test.YtgoddboicjfkcaaGreatProg
import Derived.Test.YtgoddboicjfkcaaGreatZ29
import Derived.Test.YtgoddboicjfkcaaGreatZ02
import Derived.Deep.LoopGhost
import Derived.BigQuiet
import Derived.Laws.EntriesVeiled
set_option linter.unusedVariables false
set_option linter.unusedSimpArgs false
set_option maxRecDepth 100000
set_option maxHeartbeats 8000000
namespace Go.Proofs.YtgoddboicjfkcaaGreat.fl
open Go.RowKit
open dn (En lget lset ldel nerr dotB Sorted lessB)
open br (BS Ino Inv Good Tree sumF)
open cb (BrX RetW RetI No)
open bl (Pq)
open mg (Nd Nv Vx Nb opq kindV lstV belV seenV pairV getV rootV AllV NR QB readN targN ReadN AllE bel_step bel_alloc grown_bel grown_set set_below set_size heap_set)
def VisE (w0 w : World) (bv bl bf V B : Nat) (A : Value) (X Y : List Ln) (e : Ending) (w' : World) : Prop :=
 e = .returned (.tuple #[]) ∧ ∃ A', VS w0 w' bv bl bf V B A' (X ++ Y) ∧ Tn w w' bl A A'
theorem take_lines {U L : BS} {d : Nat} {n : Nd} {at_ s : ByteArray} {l : List ByteArray} {j : Nat} (h : l[j]? = some s) :
  (l.take (j + 1)).flatMap (linesN U L d n at_) = (l.take j).flatMap (linesN U L d n at_) ++ linesN U L d n at_ s := by
 rw [List.take_add_one, h, List.flatMap_append]; simp
theorem take_len {U L : BS} {d : Nat} {n : Nd} {at_ s : ByteArray} {l : List ByteArray} {j : Nat} (h : l[j]? = some s) :
  ((l.take j).flatMap (linesN U L d n at_)).length + (linesN U L d n at_ s).length ≤ (l.flatMap (linesN U L d n at_)).length := by
 rw [← List.length_append, ← take_lines h]
 conv => rhs; rw [← List.take_append_drop (j + 1) l, List.flatMap_append, List.length_append]
 omega
theorem visit_any {w0 : World} {bv bl bf V B P1 P2 : Nat} {u l : Int} {U L : BS} {r1 r2 : Nat} (hv : Vx w0 V P1 P2 u l U L) (hU : Inv U r1) (hL : Inv L r2) {dU dL : Nat → Nat} (hdU : Deep U dU) (hdL : Deep L dL) :
  ∀ (d : Nat) (n : Nd) (at_ : ByteArray) (w : World) (A : Value) (X : List Ln), hN U L dU dL n < d → at_.size + 61 * d ≤ 30000 → X.length + (linesV U L d n at_).length ≤ 4000000 → VS w0 w bv bl bf V B A X →
   Calls Tryz.prog 110 #[Nv n, .string at_, Pq bv, Pq bl, Pq bf] w (VisE w0 w bv bl bf V B A X (linesV U L d n at_))
 | 0, n, at_, w, A, X, hd, _, _, _ => absurd hd (Nat.not_lt_zero _)
 | d + 1, (n1, n2), at_, w, A, X, hd, hat, hlen, hS => by
  have IH := Lib.hid (visit_any (w0 := w0) (bv := bv) (bl := bl) (bf := bf) (V := V) (B := B) hv hU hL hdU hdL d)
  have HI := Lib.hid (And.intro hU hL)
  have HAT := Lib.hid hat
  have HLN := Lib.hid hlen
  have HCH := Lib.hid (fun s (h : (getV U L (n1, n2) s).2 = 0) => Nat.lt_of_lt_of_le (hN_child hU hL hdU hdL (n1, n2) s h) (Nat.le_of_lt_succ hd))
  obtain ⟨w1, hw1⟩ : ∃ w1, w.alloc (.cells #[.int .i64 n1, .int .i64 n2] 24) = w1 := ⟨_, rfl⟩
  have hb1 : Below w.heap.size w w1 := by rw [← hw1]; exact bel_alloc _ _
  have HN1 := Lib.hid (show Nb w1 w.heap.size (n1, n2) by rw [← hw1]; exact Nb.new w n1 n2)
  have H1 := Lib.hid (hS.below hb1)
  have HAL := Lib.hid (mg.all_any (hv.below H1.out.bel) hU hL (n1, n2))
  have HGT := Lib.hid (fun W (hb : Below w0.heap.size w0 W) s => mg.get_any (hv.below hb) (n1, n2) s)
  have HKD := Lib.hid (fun W (hb : Below w0.heap.size w0 W) x => mg.kind_any (hv.below hb) x)
  have HCT := Lib.hid (fun W (hb : Below w0.heap.size w0 W) x => content_any (hv.below hb) x)
  unfold AllE at HAL
  unfold RetW at HGT HCT
  unfold RetI at HKD
  obtain ⟨g, hg⟩ : ∃ g, w.heap.size = g := ⟨_, rfl⟩
  rw [hg] at HN1
  have HG := Lib.hid (show w1.heap.size = g + 1 ∧ bl < g ∧ ∀ k, A.ownBlock = some k → k < g by
   refine ⟨by rw [← hw1, World.size_alloc, hg], by have := hS.qb.lt; omega, fun k e => by have := (hS.row.lt e).2; omega⟩)
  have HF := Lib.hid (show ∀ Y w' A', VS w0 w' bv bl bf V B A' (X ++ Y) → Tn w1 w' bl A A' → Y = linesV U L (d + 1) (n1, n2) at_ → VisE w0 w bv bl bf V B A X (linesV U L (d + 1) (n1, n2) at_) (.returned (.tuple #[])) w' from
   fun Y w' A' a b e => by subst e; exact ⟨rfl, A', a, (Tn.bel hb1).trans b⟩)
  have c1 := H1.out.cv
  obtain ⟨t0, t1⟩ := HN1.out
  dsimp only at t0 t1
  clear hd hat hlen hS hb1 hU hL hdU hdL hv
  go_enter Tryz.func110, Tryz.ntmps110
  go_wp2_with fail
  refine HAL.out.mono ?_
  rintro _ w2 ⟨AA, cA, ls, rfl, hal, hnr, hk1, hk2, hk3, hb2⟩
  have HS2 := Lib.hid (H1.out.below hb2)
  have HN2 := Lib.hid (HN1.out.below hb2)
  have HNR := Lib.hid (show NR w2 (g + 1) AA ls by rw [← HG.out.1]; exact hnr)
  have HT2 := Lib.hid (show Tn w1 w2 bl A A from Tn.bel hb2)
  have HLV := Lib.hid (linesV_succ (d := d) (at_ := at_) hal)
  have HMM := Lib.hid hal.mem
  obtain ⟨m, hm⟩ : ∃ m, ls.length = m := ⟨_, rfl⟩
  have HM := Lib.hid hm
  rw [hm] at hk1 hk3
  have hmi := hm
  rw [hm]
  clear hal hnr hb2 HAL H1 HN1 c1 t0 t1 hw1 hm hmi
  have HGL := Lib.hid (show ∀ j, j < m → ∃ x, ls[j]? = some x from fun j hj => ⟨ls[j]'(by have := HM.out; omega), List.getElem?_eq_getElem _⟩)
  have HSL := Lib.hid (show w2.heap.size = w2.heap.size from rfl)
  go_upto_region 3 with fail
  go_loopg [22] m (fun gh s22 wr => ∃ (j : Nat) (Ar : Value), gh + j = m ∧ s22 = .int .i64 j ∧ Hid (VS w0 wr bv bl bf V B Ar (X ++ (ls.take j).flatMap (linesN U L d (n1, n2) at_))) ∧ Hid (Tn w2 wr bl A Ar))
  case atStart => exact ⟨0, A, by omega, rfl, by simpa using HS2, Lib.hid (Tn.refl _ _ _)⟩
  case round =>
   obtain ⟨j, Ar, hgj, rfl, HSr, HTr⟩ := hrel
   by_cases hj : j < m
   ·obtain ⟨s, hs⟩ := HGL.out j hj
    have hs0 := (HMM.out s).1 (List.mem_of_getElem? hs)
    have hs60 := name_size HI.out.1 HI.out.2 hs0
    have HC := Lib.hid (HCH.out s hs0)
    have HTL := Lib.hid (take_lines (U := U) (L := L) (d := d) (n := (n1, n2)) (at_ := at_) hs)
    have HTN := Lib.hid (take_len (U := U) (L := L) (d := d) (n := (n1, n2)) (at_ := at_) hs)
    obtain ⟨XR, hXR⟩ : ∃ Y, X ++ (ls.take j).flatMap (linesN U L d (n1, n2) at_) = Y := ⟨_, rfl⟩
    rw [hXR] at HSr
    have HXR := Lib.hid hXR
    have HXL := Lib.hid (show XR.length + (linesN U L d (n1, n2) at_ s).length ≤ 4000000 by rw [← hXR, List.length_append]; have h1 := HLN.out; have h2 := HTN.out; rw [HLV.out] at h1; omega)
    clear hXR
    have HNN := Lib.hid (HTr.out.nr HNR.out (by have := HG.out.2.1; omega) (fun k e => by have := HG.out.2.2 k e; omega))
    have HNB := Lib.hid (HTr.out.nb HN2.out (by have := HG.out.2.1; omega) (fun e => by have := HG.out.2.2 _ e; omega))
    obtain ⟨G, hAA, hG1, hG2, e1, -⟩ := HNN.out j s hs
    subst hAA
    obtain ⟨t0, t1⟩ := HNB.out
    dsimp only at t0 t1
    have c1 := HSr.out.cv
    have HG3 := Lib.hid (HGT.out wr HSr.out.bel s)
    have HLI := Lib.hid (show linesN U L d (n1, n2) at_ s = ⟨at_ ++ slB ++ s, kindV U L (getV U L (n1, n2) s).1, contV U L (getV U L (n1, n2) s).1⟩ :: linesV U L d (getV U L (n1, n2) s).1 (at_ ++ slB ++ s) from rfl)
    obtain ⟨gv, hgv⟩ : ∃ r, getV U L (n1, n2) s = r := ⟨_, rfl⟩
    rw [hgv] at HG3 HLI HC hs0
    obtain ⟨⟨x1, x2⟩, ge⟩ := gv
    dsimp only at HG3 HLI HC hs0
    subst hs0
    have hat0 : at_.size ≤ 30000 := by have := HAT.out; omega
    obtain ⟨tx, htx⟩ : ∃ t, at_ ++ ⟨#[47]⟩ ++ s = t := ⟨_, rfl⟩
    have HTZ := Lib.hid (show tx.size + 61 * d ≤ 30000 by rw [← htx, ByteArray.size_append, ByteArray.size_append]; have := HAT.out; have h1 : (⟨#[47]⟩ : ByteArray).size = 1 := rfl; omega)
    rw [show at_ ++ slB ++ s = tx from htx] at HLI
    clear hs hgv hG1 hG2 HNN HNB
    go_wp2_with fail
    refine HG3.out.mono ?_
    rintro _ w3 ⟨rfl, hb3⟩
    obtain ⟨w4, hw4⟩ : ∃ w4, w3.alloc (.cells #[.int .i64 x1, .int .i64 x2] 24) = w4 := ⟨_, rfl⟩
    have hb4 : Below w3.heap.size w3 w4 := by rw [← hw4]; exact bel_alloc _ _
    have HB4 := Lib.hid (bel_step hb3 hb4)
    have H4 := Lib.hid (HSr.out.below (bel_step hb3 hb4))
    have HX4 := Lib.hid (show Nb w4 w3.heap.size (x1, x2) by rw [← hw4]; exact Nb.new w3 x1 x2)
    obtain ⟨gx, hgx⟩ : ∃ g, w3.heap.size = g := ⟨_, rfl⟩
    have HGX := Lib.hid (show wr.heap.size ≤ gx ∧ gx < w4.heap.size by rw [← hgx, ← hw4, World.size_alloc]; exact ⟨hb3.size, Nat.lt_succ_self _⟩)
    rw [hgx] at HX4
    have H4d := Lib.hid (H4.out.below (Below.refl w4.heap.size w4).drew)
    have HX4d := Lib.hid (HX4.out.below (Below.refl w4.heap.size w4).drew)
    have HK4 := Lib.hid (HKD.out w4.drew H4d.out.bel (x1, x2))
    obtain ⟨kx, hkx⟩ : ∃ k, kindV U L (x1, x2) = k := ⟨_, rfl⟩
    rw [hkx] at HK4 HLI
    obtain ⟨cx, hcx⟩ : ∃ k, contV U L (x1, x2) = k := ⟨_, rfl⟩
    have HCX := Lib.hid hcx
    rw [hcx] at HLI
    have HXL1 := Lib.hid (show XR.length + 1 ≤ 4000000 by have := HXL.out; rw [HLI.out, List.length_cons] at this; omega)
    have HGB := Lib.hid (show gx ≠ bl ∧ Ar.ownBlock ≠ some gx from ⟨fun e => by have := HSr.out.qb.lt; have := HGX.out.1; omega, fun e => by have := (HSr.out.row.lt e).2; have := HGX.out.1; omega⟩)
    have b4 := H4.out.qb.c
    have S0 : w4.cell? ⟨bv, 0, none⟩ = some (Pq V) ∧ w4.cell? ⟨gx, 0, none⟩ = some (.int .i64 x1) ∧ w4.cell? ⟨gx, 1, none⟩ = some (.int .i64 x2) := ⟨H4.out.cv, HX4.out.c0, HX4.out.c1⟩
    clear hb3 hb4 hkx hcx HG3
    go_wp2_with fail
    try rw [hw4]
    clear hw4 hgx t0 t1 e1 c1
    obtain ⟨i0, hi, hz0, hz1, hz2⟩ := info_parts79
    have S4 : w4.drew.cell? ⟨bl, 0, none⟩ = some Ar ∧ w4.drew.cell? ⟨bv, 0, none⟩ = some (Pq V) ∧ w4.drew.cell? ⟨gx, 0, none⟩ = some (.int .i64 x1) ∧ w4.drew.cell? ⟨gx, 1, none⟩ = some (.int .i64 x2) := ⟨H4d.out.qb.c, H4d.out.cv, HX4d.out.c0, HX4d.out.c1⟩
    refine rg.region_T (S := (fun w' => w'.cell? ⟨bl, 0, none⟩ = some Ar ∧ w'.cell? ⟨bv, 0, none⟩ = some (Pq V) ∧ w'.cell? ⟨gx, 0, none⟩ = some (.int .i64 x1) ∧ w'.cell? ⟨gx, 1, none⟩ = some (.int .i64 x2))) (z := 11) (by kernel_rfl) ?_
    simp only [List.size_toArray, List.length_cons, List.length_nil, Nat.zero_add, Nat.reduceAdd]
    rw [show Array.replicate 12 false = #[false, false, false, false, false, false, false, false, false, false, false, false] from rfl]
    refine rg.take_T (i := 0) Ar rfl (by kernel_rfl) (by kernel_rfl) (by kernel_rfl) (by kernel_rfl) (fun _ _ _ h => h) (Or.inl ⟨by rfl, by intro w' hSw; (try dsimp only at hSw); go_simp⟩) S4 ?_
    simp only [Act.put, List.setIfInBounds_toArray, List.set_cons_zero, List.set_cons_succ]
    refine rg.take_T (i := 1) (.string tx) rfl (by kernel_rfl) (by kernel_rfl) (by kernel_rfl) (by kernel_rfl) (fun _ _ _ h => h) (Or.inl ⟨by rfl, by intro w' hSw; (try dsimp only at hSw); go_simp⟩) S4 ?_
    simp only [Act.put, List.setIfInBounds_toArray, List.set_cons_zero, List.set_cons_succ]
    refine rg.take_T (i := 2) (Pq V) rfl (by kernel_rfl) (by kernel_rfl) (by kernel_rfl) (by kernel_rfl) (fun _ _ _ h => h) (Or.inl ⟨by rfl, by intro w' hSw; (try dsimp only at hSw); go_simp⟩) S4 ?_
    simp only [Act.put, List.setIfInBounds_toArray, List.set_cons_zero, List.set_cons_succ]
    refine rg.take_T (i := 3) (Nv (x1, x2)) rfl (by kernel_rfl) (by kernel_rfl) (by kernel_rfl) (by kernel_rfl) (fun _ _ _ h => h) (Or.inl ⟨by rfl, by intro w' hSw; (try dsimp only at hSw); go_simp⟩) S4 ?_
    simp only [Act.put, List.setIfInBounds_toArray, List.set_cons_zero, List.set_cons_succ]
    refine rg.take_T (i := 5) (Pq V) rfl (by kernel_rfl) (by kernel_rfl) (by kernel_rfl) (by kernel_rfl) (fun _ _ _ h => h) (Or.inl ⟨by rfl, by intro w' hSw; (try dsimp only at hSw); go_simp⟩) S4 ?_
    simp only [Act.put, List.setIfInBounds_toArray, List.set_cons_zero, List.set_cons_succ]
    refine rg.take_T (i := 6) (Nv (x1, x2)) rfl (by kernel_rfl) (by kernel_rfl) (by kernel_rfl) (by kernel_rfl) (fun _ _ _ h => h) (Or.inl ⟨by rfl, by intro w' hSw; (try dsimp only at hSw); go_simp⟩) S4 ?_
    simp only [Act.put, List.setIfInBounds_toArray, List.set_cons_zero, List.set_cons_succ]
    refine rg.step_T (i := 4) (by kernel_rfl) rfl fun K hK => ?_
    go_simp
    go_at_call 19
    with_reducible refine HK4.out.mono ?_
    rintro _ w5 ⟨rfl, hb5⟩
    have H5 := Lib.hid (H4d.out.below hb5)
    have HX5 := Lib.hid (HX4d.out.below hb5)
    have HB5 := Lib.hid (bel_step (Below.refl w4.heap.size w4).drew hb5)
    have HC5 := Lib.hid (HCT.out w5 H5.out.bel (x1, x2))
    rw [HCX.out] at HC5
    clear hb5
    go_wp2_with fail
    refine hK.out _ _ (.inr ⟨H5.out.qb.c, H5.out.cv, HX5.out.c0, HX5.out.c1⟩) ?_
    clear hK K
    simp only [Act.put, List.setIfInBounds_toArray, List.set_cons_zero, List.set_cons_succ]
    refine rg.step_T (i := 7) (by kernel_rfl) rfl fun K hK => ?_
    go_simp
    go_at_call 111
    with_reducible refine HC5.out.mono ?_
    rintro _ w6 ⟨rfl, hb6⟩
    have H6 := Lib.hid (H5.out.below hb6)
    have HX6 := Lib.hid (HX5.out.below hb6)
    have HB6 := Lib.hid (bel_step HB5.out hb6)
    clear hb6
    go_wp2_with fail
    refine hK.out _ _ (.inr ⟨H6.out.qb.c, H6.out.cv, HX6.out.c0, HX6.out.c1⟩) ?_
    clear hK K
    simp only [Act.put, List.setIfInBounds_toArray, List.set_cons_zero, List.set_cons_succ]
    refine rg.take_T (i := 8) (.agg #[.string tx, .int .i64 kx, .string cx]) rfl (by kernel_rfl) (by kernel_rfl) (by kernel_rfl) (by kernel_rfl) (fun _ _ _ h => h) (Or.inl ⟨by rfl, by intro w' hSw; (try dsimp only at hSw); go_simp⟩) ⟨H6.out.qb.c, H6.out.cv, HX6.out.c0, HX6.out.c1⟩ ?_
    simp only [Act.put, List.setIfInBounds_toArray, List.set_cons_zero, List.set_cons_succ]
    refine rg.step_T (i := 9) (by kernel_rfl) rfl fun K hK => ?_
    go_simp
    obtain ⟨w7, hw7⟩ : ∃ w7, w6.alloc (.cells #[.string tx, .int .i64 kx, .string cx] 104) = w7 := ⟨_, rfl⟩
    have H7 := Lib.hid (show VS w0 w7 bv bl bf V B Ar XR by rw [← hw7]; exact H6.out.below (bel_alloc w6 _))
    have HX7 := Lib.hid (show Nb w7 gx (x1, x2) by rw [← hw7]; exact HX6.out.below (bel_alloc w6 _))
    have HB7 := Lib.hid (show Below w4.heap.size w4 w7 by rw [← hw7]; exact bel_step HB6.out (bel_alloc w6 _))
    have HC7 := Lib.hid (show ∀ j u, [Value.string tx, .int .i64 kx, .string cx][j]? = some u → w7.cell? ((⟨w6.heap.size, 0, none⟩ : Addr).add j) = some u by rw [← hw7]; exact cell_three_new _ _ _ _ _)
    try rw [hw7]
    refine hK.out _ _ (.inr ⟨H7.out.qb.c, H7.out.cv, HX7.out.c0, HX7.out.c1⟩) ?_
    clear hK K hw7
    simp only [Act.put, List.setIfInBounds_toArray, List.set_cons_zero, List.set_cons_succ]
    refine rg.step_T (i := 10) (by kernel_rfl) rfl fun K hK => ?_
    refine step_append_lies _ rfl (.tmp 37) (.tmp 46) 70 rfl B 104 i0 _ 3 40 Tryz.underlying70 hi hz0 hz1 hz2 rfl (by decide) Ar XR.length (lcs XR) rfl H7.out.row ⟨w6.heap.size, 0, none⟩ 1 1 [.string tx, .int .i64 kx, .string cx] rfl rfl HC7.out (by intro u hu; simp at hu; rcases hu with rfl | rfl | rfl <;> rfl) (by decide) (by have := HXL1.out; unfold maxLen; omega) (by have := HXL1.out; omega) H7.out.hB _ rfl ?_
    intro g9 c9 w8 hown hgr hat hlt9
    have HV8 := Lib.hid (VS.app H7.out hgr (LO.of (x := ⟨tx, kx, cx⟩) hown))
    have HT8 := Lib.hid (Tn.app (bl := bl) (A' := .slice (some ⟨g9, 0, none⟩) (XR.length + 1) c9) hgr (by rcases hat with e | e; exact .inl e.symm; exact .inr (by rw [e]; rfl)))
    have HG8 := Lib.hid (H7.out.grown hgr)
    have HX8 := Lib.hid (show Nb w8 gx (x1, x2) from ⟨(World.cell?_of_block (a := ⟨gx, 0, none⟩) (hgr.block gx HX7.out.lt (fun e => HGB.out.2 e.symm))).trans HX7.out.c0, (World.cell?_of_block (a := ⟨gx, 1, none⟩) (hgr.block gx HX7.out.lt (fun e => HGB.out.2 e.symm))).trans HX7.out.c1⟩)
    have HX9 := Lib.hid (HT8.out.nb HX7.out HGB.out.1 HGB.out.2)
    have hf8 := HG8.out.2.1
    have hb8 := HG8.out.1
    refine hK.out _ _ (.inr ⟨HG8.out.1, HG8.out.2.2.1, HX8.out.c0, HX8.out.c1⟩) ?_
    clear hK K hown hgr hat hlt9
    simp only [Act.put, List.setIfInBounds_toArray, List.set_cons_zero, List.set_cons_succ]
    refine rg.step_T (i := 11) (by kernel_rfl) rfl fun K hK => ?_
    go_simp
    obtain ⟨w9, hw9⟩ : ∃ w9, w8.setCell ⟨bl, 0, none⟩ (.slice (some ⟨g9, 0, none⟩) (XR.length + 1) c9) = w9 := ⟨_, rfl⟩
    rw [hw9] at HV8 HT8 HX9 ⊢
    refine hK.out _ _ (.inl rfl) ?_
    clear hK K
    refine rg.done_T (by kernel_rfl) ?_
    obtain ⟨A9, hA9⟩ : ∃ A, Value.slice (some ⟨g9, 0, none⟩) (XR.length + 1) c9 = A := ⟨_, rfl⟩
    rw [hA9] at HV8 HT8
    have HT9 := Lib.hid (((Tn.bel (bl := bl) (A := Ar) (bel_step HB4.out HB7.out)).trans HT8.out))
    have HIH := Lib.hid (IH.out (x1, x2) tx w9 A9 (XR ++ [⟨tx, kx, cx⟩]) HC.out HTZ.out (by
     have h1 := HXL.out
     rw [HLI.out, List.length_cons] at h1
     rw [List.length_append]
     simp only [List.length_cons, List.length_nil]
     omega) HV8.out)
    unfold VisE at HIH
    obtain ⟨y0, y1⟩ := HX9.out
    dsimp only at y0 y1
    have cf9 := HV8.out.cf
    clear hb8 hf8 hw9 hA9
    go_wp2_with fail
    refine HIH.out.mono ?_
    rintro _ w10 ⟨rfl, A10, hV10, hT10⟩
    have HR := Lib.hid (show VS w0 w10 bv bl bf V B A10 (X ++ (ls.take (j + 1)).flatMap (linesN U L d (n1, n2) at_)) by
     rw [HTL.out, HLI.out, ← List.append_assoc, HXR.out]
     have := hV10
     rw [List.append_assoc] at this
     exact this)
    have HTT := Lib.hid ((HTr.out.trans HT9.out).trans hT10)
    clear hV10 hT10 y0 y1 cf9
    go_wp2_with fail
    go_roundg (gk - 1)
    case measure => omega
    case rel => exact ⟨j + 1, A10, by omega, by go_num, HR, HTT⟩
   ·obtain rfl : j = m := by omega
    have HE := Lib.hid (show (ls.take j).flatMap (linesN U L d (n1, n2) at_) = linesV U L (d + 1) (n1, n2) at_ by rw [HLV.out, List.take_of_length_le (by rw [HM.out]; exact Nat.le_refl _)])
    go_wp2_with fail
    go_end0
    exact HF.out _ wr Ar HSr.out (HT2.out.trans HTr.out) HE.out
end Go.Proofs.YtgoddboicjfkcaaGreat.fl
namespace Go.Proofs.YtgoddboicjfkcaaGreat.fl
open Go.RowKit
open dn (En lget lset ldel nerr dotB Sorted lessB)
open br (BS Ino Inv Tree sumF)
open cb (BrX RetW RetI No)
open bl (Pq)
open mg (Nd Nv Vx Nb opq kindV lstV belV seenV pairV getV rootV AllV NR QB readN targN ReadN AllE bel_step bel_alloc grown_bel grown_set set_below set_size heap_set)
theorem linesV_cap {U L : BS} {r1 r2 : Nat} (hU : Inv U r1) (hL : Inv L r2) {dU dL : Nat → Nat} (hdU : Deep U dU) (hdL : Deep L dL) : ∀ (d : Nat) (n : Nd) (at_ : ByteArray), (linesV U L d n at_).length ≤ wN U L n
 | 0, n, at_ => Nat.zero_le _
 | d + 1, n, at_ => by
  by_cases h : ∃ l, AllV U L n l
  ·obtain ⟨l, hl⟩ := h
   rw [linesV_succ hl, List.length_flatMap]
   refine Nat.le_trans (sum_le fun s _ => ?_) (wN_sum hU hL hdU hdL n hl)
   show (linesN U L d n at_ s).length ≤ _
   unfold linesN
   rw [List.length_cons]
   have := linesV_cap hU hL hdU hdL d (getV U L n s).1 (at_ ++ slB ++ s)
   omega
  ·unfold linesV namesV
   rw [dif_neg h]
   exact Nat.zero_le _
noncomputable def ofV (U L : BS) (u l : Int) : List Ln := linesV U L 202 (rootV U L u l) ⟨#[]⟩
theorem ofV_len {U L : BS} {r1 r2 : Nat} (hU : br.Good U r1) (hL : br.Good L r2) (u l : Int) : (ofV U L u l).length ≤ 1600000 := by
 obtain ⟨dU, hdU⟩ := br.Tree.bound hU.1 hU.2
 obtain ⟨dL, hdL⟩ := br.Tree.bound hL.1 hL.2
 exact Nat.le_trans (linesV_cap hU.1 hL.1 hdU hdL _ _ _) (wN_cap hU.1 hL.1 _)
def OfE (w : World) (X : List Ln) (e : Ending) (w' : World) : Prop := ∃ A, e = .returned A ∧ LO w' w.heap.size A X ∧ Below w.heap.size w w'
theorem of_any {w : World} {V P1 P2 : Nat} {u l : Int} {U L : BS} {r1 r2 : Nat} (hv : Vx w V P1 P2 u l U L) (hU : br.Good U r1) (hL : br.Good L r2) : Calls Tryz.prog 42 #[Pq V] w (OfE w (ofV U L u l)) := by
 obtain ⟨dU, hdU⟩ := br.Tree.bound hU.1 hU.2
 obtain ⟨dL, hdL⟩ := br.Tree.bound hL.1 hL.2
 obtain ⟨bv, hbv⟩ : ∃ b, w.heap.size = b := ⟨_, rfl⟩
 obtain ⟨w1, hw1⟩ : ∃ w1, w.alloc (.cells #[Pq V] 29) = w1 := ⟨_, rfl⟩
 have hb1 : Below w.heap.size w w1 := by rw [← hw1]; exact bel_alloc _ _
 have z1 : w1.heap.size = bv + 1 := by rw [← hw1, World.size_alloc, hbv]
 have c1 : w1.cell? ⟨bv, 0, none⟩ = some (Pq V) := by rw [← hw1, ← hbv]; simp
 obtain ⟨w2, hw2⟩ : ∃ w2, w1.alloc (.cells #[.slice none 0 0] 70) = w2 := ⟨_, rfl⟩
 have hb2 : Below w1.heap.size w1 w2 := by rw [← hw2]; exact bel_alloc _ _
 have z2 : w2.heap.size = bv + 2 := by rw [← hw2, World.size_alloc, z1]
 have q2 : QB w2 (bv + 1) (.slice none 0 0) := by rw [← hw2, ← z1]; exact ⟨by simp, by simp⟩
 obtain ⟨w4, hw4⟩ : ∃ w4, w2.alloc (.cells #[Vf bv (bv + 1) (bv + 2)] 173) = w4 := ⟨_, rfl⟩
 have hb4 : Below w2.heap.size w2 w4 := by rw [← hw4]; exact bel_alloc _ _
 have z4 : w4.heap.size = bv + 3 := by rw [← hw4, World.size_alloc, z2]
 have cf4 : w4.cell? ⟨bv + 2, 0, none⟩ = some (Vf bv (bv + 1) (bv + 2)) := by rw [← hw4, ← z2]; simp
 have H4 := Lib.hid (show VS w w4 bv (bv + 1) (bv + 2) V (bv + 3) (.slice none 0 0) [] from
  ⟨bel_step hb1 (bel_step hb2 hb4), (hb4.cell (p := ⟨bv, 0, none⟩) (by rw [z2]; show bv < bv + 2; omega)).trans ((hb2.cell (p := ⟨bv, 0, none⟩) (by rw [z1]; show bv < bv + 1; omega)).trans c1), q2.below hb4, cf4,
   World.ownsRow_nil _ _ _ _, by rw [z4]; exact Nat.le_refl _, by rw [hbv]; exact ⟨by omega, by omega, by omega, by omega, by omega, by omega, by omega⟩⟩)
 have HRT := Lib.hid (fun W (hb : Below w.heap.size w W) => mg.root_any (hv.below hb))
 unfold RetW at HRT
 have HO := Lib.hid (show linesV U L 202 (rootV U L u l) ⟨#[]⟩ = ofV U L u l from rfl)
 have HIH := Lib.hid (fun W (h : VS w W bv (bv + 1) (bv + 2) V (bv + 3) (.slice none 0 0) []) => visit_any hv hU.1 hL.1 hdU hdL 202 (rootV U L u l) ⟨#[]⟩ W (.slice none 0 0) [] (by have := hN_le U L dU dL (rootV U L u l); omega) (by decide) (by have := ofV_len hU hL u l; rw [← HO.out] at this; simp only [List.length_nil]; omega) h)
 rw [HO.out] at HIH
 unfold VisE at HIH
 have HLO := Lib.hid (show w.heap.size ≤ bv + 3 by omega)
 generalize rootV U L u l = rt at *
 generalize ofV U L u l = Y at *
 obtain ⟨r1', r2'⟩ := rt
 clear hv hU hL hdU hdL hb1 hb2 hb4 q2 cf4 HO
 go_enter Tryz.func42, Tryz.ntmps42
 go_wp2_with fail
 clear hw1 hw2 hw4 c1 z1 z2
 have H4d := Lib.hid (H4.out.below (Below.refl w4.heap.size w4).drew)
 have HR4 := Lib.hid (HRT.out w4.drew H4d.out.bel)
 have S0 : w4.cell? ⟨bv, 0, none⟩ = some (Pq V) ∧ w4.cell? ⟨bv + 2, 0, none⟩ = some (Vf bv (bv + 1) (bv + 2)) := ⟨H4.out.cv, H4.out.cf⟩
 go_region_held3 (fun w' => w'.cell? ⟨bv, 0, none⟩ = some (Pq V) ∧ w'.cell? ⟨bv + 2, 0, none⟩ = some (Vf bv (bv + 1) (bv + 2)))
  (first | with_reducible exact S0 | with_reducible exact S5 | with_reducible exact S6 | assumption | go_keep)
  (first | (go_at_call 15; ((with_reducible refine HR4.out.mono ?_); rintro _ w5 ⟨rfl, hb5⟩; have H5 := Lib.hid (H4d.out.below hb5); have HV5 := Lib.hid (HIH.out w5 H5.out); have S5 : w5.cell? ⟨bv, 0, none⟩ = some (Pq V) ∧ w5.cell? ⟨bv + 2, 0, none⟩ = some (Vf bv (bv + 1) (bv + 2)) := ⟨H5.out.cv, H5.out.cf⟩; clear hb5)) | (go_at_call 110; ((with_reducible refine HV5.out.mono ?_); rintro _ w6 ⟨rfl, A6, hV6, -⟩; have H6 := Lib.hid hV6; have S6 : w6.cell? ⟨bv, 0, none⟩ = some (Pq V) ∧ w6.cell? ⟨bv + 2, 0, none⟩ = some (Vf bv (bv + 1) (bv + 2)) := ⟨H6.out.cv, H6.out.cf⟩; clear hV6)))
 have c6 := H6.out.qb.c
 have HRO := Lib.hid (show LO w6 (bv + 3) A6 Y by have := H6.out.row; rwa [List.nil_append] at this)
 go_wp2_with fail
 go_ret
 exact ⟨A6, rfl, ⟨HRO.out.1, HRO.out.2.imp id fun ⟨g, cap, cur, a, b, c⟩ => ⟨g, cap, cur, a, Nat.le_trans HLO.out b, c⟩⟩, H6.out.bel⟩
end Go.Proofs.YtgoddboicjfkcaaGreat.fl
