/- 'Of', walked: the visitor. -/
import Derived.Test.YtnnaoldpacbagaaGreatZ27
import Derived.Deep.LoopGhost
section
namespace Go.Proofs.YtnnaoldpacbagaaGreat.fl
open Go.RowKit
open Go.Proofs.YtnnaoldpacbagaaGreat.dn (En lget lset ldel nerr dotB Sorted lessB)
open Go.Proofs.YtnnaoldpacbagaaGreat.br (BS Ino Inv Good Tree sumF)
open Go.Proofs.YtnnaoldpacbagaaGreat.cb (BrX RetW RetI No)
open Go.Proofs.YtnnaoldpacbagaaGreat.bl (Pq)
open Go.Proofs.YtnnaoldpacbagaaGreat.mg (Nd Nv Vx Nb opq kindV lstV belV seenV pairV getV rootV AllV NR QB readN targN ReadN AllE bel_step bel_alloc grown_bel grown_set set_below set_size heap_set)
set_option linter.unusedVariables false
set_option linter.unusedSimpArgs false

/-- What the visitor leaves. -/
def VisE (w0 w : World) (bv bl bf V B : Nat) (A : Value) (X Y : List Ln) (e : Ending) (w' : World) : Prop :=
  e = .returned (.tuple #[]) ∧ ∃ A', VS w0 w' bv bl bf V B A' (X ++ Y) ∧ Tn w w' bl A A'
theorem take_lines {U L : BS} {d : Nat} {n : Nd} {at_ s : ByteArray} {l : List ByteArray} {j : Nat} (h : l[j]? = some s) :
    (l.take (j + 1)).flatMap (linesN U L d n at_) = (l.take j).flatMap (linesN U L d n at_) ++ linesN U L d n at_ s := by
  rw [List.take_add_one, h, List.flatMap_append]; simp
theorem take_len {U L : BS} {d : Nat} {n : Nd} {at_ s : ByteArray} {l : List ByteArray} {j : Nat} (h : l[j]? = some s) :
    ((l.take j).flatMap (linesN U L d n at_)).length + (linesN U L d n at_ s).length ≤ (l.flatMap (linesN U L d n at_)).length := by
  rw [← List.length_append, ← take_lines h]
  conv => rhs; rw [← List.take_append_drop (j + 1) l, List.flatMap_append, List.length_append]
  omega
set_option maxRecDepth 100000 in
set_option maxHeartbeats 8000000 in
theorem visit_any {w0 : World} {bv bl bf V B P1 P2 : Nat} {u l : Int} {U L : BS} {r1 r2 : Nat} (hv : Vx w0 V P1 P2 u l U L) (hU : Inv U r1) (hL : Inv L r2) {dU dL : Nat → Nat} (hdU : Deep U dU) (hdL : Deep L dL) :
    ∀ (d : Nat) (n : Nd) (at_ : ByteArray) (w : World) (A : Value) (X : List Ln), hN U L dU dL n < d → at_.size + 61 * d ≤ 30000 → X.length + (linesV U L d n at_).length ≤ 4000000 → VS w0 w bv bl bf V B A X →
      Calls Tryz.prog 95 #[Nv n, .string at_, Pq bv, Pq bl, Pq bf] w (VisE w0 w bv bl bf V B A X (linesV U L d n at_))
  | 0, n, at_, w, A, X, hd, _, _, _ => absurd hd (Nat.not_lt_zero _)
  | d + 1, (n1, n2), at_, w, A, X, hd, hat, hlen, hS => by
    have IH := Lib.hid (visit_any (w0 := w0) (bv := bv) (bl := bl) (bf := bf) (V := V) (B := B) hv hU hL hdU hdL d)
    have HI := Lib.hid (And.intro hU hL)
    have HAT := Lib.hid hat
    have HLN := Lib.hid hlen
    have HCH := Lib.hid (fun s (h : (getV U L (n1, n2) s).2 = 0) => Nat.lt_of_lt_of_le (hN_child hU hL hdU hdL (n1, n2) s h) (Nat.le_of_lt_succ hd))
    obtain ⟨w1, hw1⟩ : ∃ w1, w.alloc (.cells #[.int .i64 n1, .int .i64 n2] 24) = w1 := ⟨_, rfl⟩
    have hb1 : Below w.heap.size w w1 := by rw [← hw1]; exact bel_alloc _ _
    have HN1 := Lib.hid (show Nb w1 w.heap.size (n1, n2) by rw [← hw1]; exact Nb.new w n1 n2)
    have H1 := Lib.hid (hS.below hb1)
    have HAL := Lib.hid (mg.all_any (hv.below H1.out.bel) hU hL (n1, n2))
    have HGT := Lib.hid (fun W (hb : Below w0.heap.size w0 W) s => mg.get_any (hv.below hb) (n1, n2) s)
    have HKD := Lib.hid (fun W (hb : Below w0.heap.size w0 W) x => mg.kind_any (hv.below hb) x)
    have HCT := Lib.hid (fun W (hb : Below w0.heap.size w0 W) x => content_any (hv.below hb) x)
    unfold AllE at HAL
    unfold RetW at HGT HCT
    unfold RetI at HKD
    obtain ⟨g, hg⟩ : ∃ g, w.heap.size = g := ⟨_, rfl⟩
    rw [hg] at HN1
    have HG := Lib.hid (show w1.heap.size = g + 1 ∧ bl < g ∧ ∀ k, A.ownBlock = some k → k < g by
      refine ⟨by rw [← hw1, World.size_alloc, hg], by have := hS.qb.lt; omega, fun k e => by have := (hS.row.lt e).2; omega⟩)
    have HF := Lib.hid (show ∀ Y w' A', VS w0 w' bv bl bf V B A' (X ++ Y) → Tn w1 w' bl A A' → Y = linesV U L (d + 1) (n1, n2) at_ → VisE w0 w bv bl bf V B A X (linesV U L (d + 1) (n1, n2) at_) (.returned (.tuple #[])) w' from
      fun Y w' A' a b e => by subst e; exact ⟨rfl, A', a, (Tn.bel hb1).trans b⟩)
    have c1 := H1.out.cv
    obtain ⟨t0, t1⟩ := HN1.out
    dsimp only at t0 t1
    clear hd hat hlen hS hb1 hU hL hdU hdL hv
    go_enter Tryz.func95, Tryz.ntmps95
    go_wp2_with fail
    refine HAL.out.mono ?_
    rintro _ w2 ⟨AA, cA, ls, rfl, hal, hnr, hk1, hk2, hk3, hb2⟩
    have HS2 := Lib.hid (H1.out.below hb2)
    have HN2 := Lib.hid (HN1.out.below hb2)
    have HNR := Lib.hid (show NR w2 (g + 1) AA ls by rw [← HG.out.1]; exact hnr)
    have HT2 := Lib.hid (show Tn w1 w2 bl A A from Tn.bel hb2)
    have HLV := Lib.hid (linesV_succ (d := d) (at_ := at_) hal)
    have HMM := Lib.hid hal.mem
    obtain ⟨m, hm⟩ : ∃ m, ls.length = m := ⟨_, rfl⟩
    have HM := Lib.hid hm
    rw [hm] at hk1 hk3
    have hmi := hm
    rw [hm]
    clear hal hnr hb2 HAL H1 HN1 c1 t0 t1 hw1 hm hmi
    have HGL := Lib.hid (show ∀ j, j < m → ∃ x, ls[j]? = some x from fun j hj => ⟨ls[j]'(by have := HM.out; omega), List.getElem?_eq_getElem _⟩)
    have HSL := Lib.hid (show w2.heap.size = w2.heap.size from rfl)
    go_upto_region 3 with fail
    go_loopg [22] m (fun gh s22 wr => ∃ (j : Nat) (Ar : Value), gh + j = m ∧ s22 = .int .i64 j ∧ Hid (VS w0 wr bv bl bf V B Ar (X ++ (ls.take j).flatMap (linesN U L d (n1, n2) at_))) ∧ Hid (Tn w2 wr bl A Ar))
    case atStart => exact ⟨0, A, by omega, rfl, by simpa using HS2, Lib.hid (Tn.refl _ _ _)⟩
    case round =>
      obtain ⟨j, Ar, hgj, rfl, HSr, HTr⟩ := hrel
      by_cases hj : j < m
      · obtain ⟨s, hs⟩ := HGL.out j hj
        have hs0 := (HMM.out s).1 (List.mem_of_getElem? hs)
        have hs60 := name_size HI.out.1 HI.out.2 hs0
        have HC := Lib.hid (HCH.out s hs0)
        have HTL := Lib.hid (take_lines (U := U) (L := L) (d := d) (n := (n1, n2)) (at_ := at_) hs)
        have HTN := Lib.hid (take_len (U := U) (L := L) (d := d) (n := (n1, n2)) (at_ := at_) hs)
        obtain ⟨XR, hXR⟩ : ∃ Y, X ++ (ls.take j).flatMap (linesN U L d (n1, n2) at_) = Y := ⟨_, rfl⟩
        rw [hXR] at HSr
        have HXR := Lib.hid hXR
        have HXL := Lib.hid (show XR.length + (linesN U L d (n1, n2) at_ s).length ≤ 4000000 by rw [← hXR, List.length_append]; have h1 := HLN.out; have h2 := HTN.out; rw [HLV.out] at h1; omega)
        clear hXR
        have HNN := Lib.hid (HTr.out.nr HNR.out (by have := HG.out.2.1; omega) (fun k e => by have := HG.out.2.2 k e; omega))
        have HNB := Lib.hid (HTr.out.nb HN2.out (by have := HG.out.2.1; omega) (fun e => by have := HG.out.2.2 _ e; omega))
        obtain ⟨G, hAA, hG1, hG2, e1, -⟩ := HNN.out j s hs
        subst hAA
        obtain ⟨t0, t1⟩ := HNB.out
        dsimp only at t0 t1
        have c1 := HSr.out.cv
        have HG3 := Lib.hid (HGT.out wr HSr.out.bel s)
        have HLI := Lib.hid (show linesN U L d (n1, n2) at_ s = ⟨at_ ++ slB ++ s, kindV U L (getV U L (n1, n2) s).1, contV U L (getV U L (n1, n2) s).1⟩ :: linesV U L d (getV U L (n1, n2) s).1 (at_ ++ slB ++ s) from rfl)
        obtain ⟨gv, hgv⟩ : ∃ r, getV U L (n1, n2) s = r := ⟨_, rfl⟩
        rw [hgv] at HG3 HLI HC hs0
        obtain ⟨⟨x1, x2⟩, ge⟩ := gv
        dsimp only at HG3 HLI HC hs0
        subst hs0
        have hat0 : at_.size ≤ 30000 := by have := HAT.out; omega
        obtain ⟨tx, htx⟩ : ∃ t, at_ ++ ⟨#[47]⟩ ++ s = t := ⟨_, rfl⟩
        have HTZ := Lib.hid (show tx.size + 61 * d ≤ 30000 by rw [← htx, ByteArray.size_append, ByteArray.size_append]; have := HAT.out; have h1 : (⟨#[47]⟩ : ByteArray).size = 1 := rfl; omega)
        rw [show at_ ++ slB ++ s = tx from htx] at HLI
        clear hs hgv hG1 hG2 HNN HNB
        go_wp2_with fail
        refine HG3.out.mono ?_
        rintro _ w3 ⟨rfl, hb3⟩
        obtain ⟨w4, hw4⟩ : ∃ w4, w3.alloc (.cells #[.int .i64 x1, .int .i64 x2] 24) = w4 := ⟨_, rfl⟩
        have hb4 : Below w3.heap.size w3 w4 := by rw [← hw4]; exact bel_alloc _ _
        have HB4 := Lib.hid (bel_step hb3 hb4)
        have H4 := Lib.hid (HSr.out.below (bel_step hb3 hb4))
        have HX4 := Lib.hid (show Nb w4 w3.heap.size (x1, x2) by rw [← hw4]; exact Nb.new w3 x1 x2)
        obtain ⟨gx, hgx⟩ : ∃ g, w3.heap.size = g := ⟨_, rfl⟩
        have HGX := Lib.hid (show wr.heap.size ≤ gx ∧ gx < w4.heap.size by rw [← hgx, ← hw4, World.size_alloc]; exact ⟨hb3.size, Nat.lt_succ_self _⟩)
        rw [hgx] at HX4
        have H4d := Lib.hid (H4.out.below (Below.refl w4.heap.size w4).drew)
        have HX4d := Lib.hid (HX4.out.below (Below.refl w4.heap.size w4).drew)
        have HK4 := Lib.hid (HKD.out w4.drew H4d.out.bel (x1, x2))
        obtain ⟨kx, hkx⟩ : ∃ k, kindV U L (x1, x2) = k := ⟨_, rfl⟩
        rw [hkx] at HK4 HLI
        obtain ⟨cx, hcx⟩ : ∃ k, contV U L (x1, x2) = k := ⟨_, rfl⟩
        have HCX := Lib.hid hcx
        rw [hcx] at HLI
        have HXL1 := Lib.hid (show XR.length + 1 ≤ 4000000 by have := HXL.out; rw [HLI.out, List.length_cons] at this; omega)
        have HGB := Lib.hid (show gx ≠ bl ∧ Ar.ownBlock ≠ some gx from ⟨fun e => by have := HSr.out.qb.lt; have := HGX.out.1; omega, fun e => by have := (HSr.out.row.lt e).2; have := HGX.out.1; omega⟩)
        have b4 := H4.out.qb.c
        have S0 : w4.cell? ⟨bv, 0, none⟩ = some (Pq V) ∧ w4.cell? ⟨gx, 0, none⟩ = some (.int .i64 x1) ∧ w4.cell? ⟨gx, 1, none⟩ = some (.int .i64 x2) := ⟨H4.out.cv, HX4.out.c0, HX4.out.c1⟩
        clear hb3 hb4 hkx hcx HG3
        go_wp2_with fail
        try rw [hw4]
        clear hw4 hgx t0 t1 e1 c1
        obtain ⟨i0, hi, hz0, hz1, hz2⟩ := info_parts79
        have S4 : w4.drew.cell? ⟨bl, 0, none⟩ = some Ar ∧ w4.drew.cell? ⟨bv, 0, none⟩ = some (Pq V) ∧ w4.drew.cell? ⟨gx, 0, none⟩ = some (.int .i64 x1) ∧ w4.drew.cell? ⟨gx, 1, none⟩ = some (.int .i64 x2) := ⟨H4d.out.qb.c, H4d.out.cv, HX4d.out.c0, HX4d.out.c1⟩
        refine rg.region_T (S := (fun w' => w'.cell? ⟨bl, 0, none⟩ = some Ar ∧ w'.cell? ⟨bv, 0, none⟩ = some (Pq V) ∧ w'.cell? ⟨gx, 0, none⟩ = some (.int .i64 x1) ∧ w'.cell? ⟨gx, 1, none⟩ = some (.int .i64 x2))) (z := 11) (by kernel_rfl) ?_
        simp only [List.size_toArray, List.length_cons, List.length_nil, Nat.zero_add, Nat.reduceAdd]
        rw [show Array.replicate 12 false = #[false, false, false, false, false, false, false, false, false, false, false, false] from rfl]
        refine rg.take_T (i := 0) Ar rfl (by kernel_rfl) (by kernel_rfl) (by kernel_rfl) (by kernel_rfl) (fun _ _ _ h => h) (Or.inl ⟨by rfl, by intro w' hSw; (try dsimp only at hSw); go_simp⟩) S4 ?_
        simp only [Act.put, List.setIfInBounds_toArray, List.set_cons_zero, List.set_cons_succ]
        refine rg.take_T (i := 1) (.string tx) rfl (by kernel_rfl) (by kernel_rfl) (by kernel_rfl) (by kernel_rfl) (fun _ _ _ h => h) (Or.inl ⟨by rfl, by intro w' hSw; (try dsimp only at hSw); go_simp⟩) S4 ?_
        simp only [Act.put, List.setIfInBounds_toArray, List.set_cons_zero, List.set_cons_succ]
        refine rg.take_T (i := 2) (Pq V) rfl (by kernel_rfl) (by kernel_rfl) (by kernel_rfl) (by kernel_rfl) (fun _ _ _ h => h) (Or.inl ⟨by rfl, by intro w' hSw; (try dsimp only at hSw); go_simp⟩) S4 ?_
        simp only [Act.put, List.setIfInBounds_toArray, List.set_cons_zero, List.set_cons_succ]
        refine rg.take_T (i := 3) (Nv (x1, x2)) rfl (by kernel_rfl) (by kernel_rfl) (by kernel_rfl) (by kernel_rfl) (fun _ _ _ h => h) (Or.inl ⟨by rfl, by intro w' hSw; (try dsimp only at hSw); go_simp⟩) S4 ?_
        simp only [Act.put, List.setIfInBounds_toArray, List.set_cons_zero, List.set_cons_succ]
        refine rg.take_T (i := 5) (Pq V) rfl (by kernel_rfl) (by kernel_rfl) (by kernel_rfl) (by kernel_rfl) (fun _ _ _ h => h) (Or.inl ⟨by rfl, by intro w' hSw; (try dsimp only at hSw); go_simp⟩) S4 ?_
        simp only [Act.put, List.setIfInBounds_toArray, List.set_cons_zero, List.set_cons_succ]
        refine rg.take_T (i := 6) (Nv (x1, x2)) rfl (by kernel_rfl) (by kernel_rfl) (by kernel_rfl) (by kernel_rfl) (fun _ _ _ h => h) (Or.inl ⟨by rfl, by intro w' hSw; (try dsimp only at hSw); go_simp⟩) S4 ?_
        simp only [Act.put, List.setIfInBounds_toArray, List.set_cons_zero, List.set_cons_succ]
        refine rg.step_T (i := 4) (by kernel_rfl) rfl fun K hK => ?_
        go_simp
        go_at_call 15
        with_reducible refine HK4.out.mono ?_
        rintro _ w5 ⟨rfl, hb5⟩
        have H5 := Lib.hid (H4d.out.below hb5)
        have HX5 := Lib.hid (HX4d.out.below hb5)
        have HB5 := Lib.hid (bel_step (Below.refl w4.heap.size w4).drew hb5)
        have HC5 := Lib.hid (HCT.out w5 H5.out.bel (x1, x2))
        rw [HCX.out] at HC5
        clear hb5
        go_wp2_with fail
        refine hK.out _ _ (.inr ⟨H5.out.qb.c, H5.out.cv, HX5.out.c0, HX5.out.c1⟩) ?_
        clear hK K
        simp only [Act.put, List.setIfInBounds_toArray, List.set_cons_zero, List.set_cons_succ]
        refine rg.step_T (i := 7) (by kernel_rfl) rfl fun K hK => ?_
        go_simp
        go_at_call 96
        with_reducible refine HC5.out.mono ?_
        rintro _ w6 ⟨rfl, hb6⟩
        have H6 := Lib.hid (H5.out.below hb6)
        have HX6 := Lib.hid (HX5.out.below hb6)
        have HB6 := Lib.hid (bel_step HB5.out hb6)
        clear hb6
        go_wp2_with fail
        refine hK.out _ _ (.inr ⟨H6.out.qb.c, H6.out.cv, HX6.out.c0, HX6.out.c1⟩) ?_
        clear hK K
        simp only [Act.put, List.setIfInBounds_toArray, List.set_cons_zero, List.set_cons_succ]
        refine rg.take_T (i := 8) (.agg #[.string tx, .int .i64 kx, .string cx]) rfl (by kernel_rfl) (by kernel_rfl) (by kernel_rfl) (by kernel_rfl) (fun _ _ _ h => h) (Or.inl ⟨by rfl, by intro w' hSw; (try dsimp only at hSw); go_simp⟩) ⟨H6.out.qb.c, H6.out.cv, HX6.out.c0, HX6.out.c1⟩ ?_
        simp only [Act.put, List.setIfInBounds_toArray, List.set_cons_zero, List.set_cons_succ]
        refine rg.step_T (i := 9) (by kernel_rfl) rfl fun K hK => ?_
        go_simp
        obtain ⟨w7, hw7⟩ : ∃ w7, w6.alloc (.cells #[.string tx, .int .i64 kx, .string cx] 79) = w7 := ⟨_, rfl⟩
        have H7 := Lib.hid (show VS w0 w7 bv bl bf V B Ar XR by rw [← hw7]; exact H6.out.below (bel_alloc w6 _))
        have HX7 := Lib.hid (show Nb w7 gx (x1, x2) by rw [← hw7]; exact HX6.out.below (bel_alloc w6 _))
        have HB7 := Lib.hid (show Below w4.heap.size w4 w7 by rw [← hw7]; exact bel_step HB6.out (bel_alloc w6 _))
        have HC7 := Lib.hid (show ∀ j u, [Value.string tx, .int .i64 kx, .string cx][j]? = some u → w7.cell? ((⟨w6.heap.size, 0, none⟩ : Addr).add j) = some u by rw [← hw7]; exact cell_three_new _ _ _ _ _)
        try rw [hw7]
        refine hK.out _ _ (.inr ⟨H7.out.qb.c, H7.out.cv, HX7.out.c0, HX7.out.c1⟩) ?_
        clear hK K hw7
        simp only [Act.put, List.setIfInBounds_toArray, List.set_cons_zero, List.set_cons_succ]
        refine rg.step_T (i := 10) (by kernel_rfl) rfl fun K hK => ?_
        refine step_append_lies _ rfl (.tmp 37) (.tmp 46) 70 rfl B 79 i0 _ 3 40 Tryz.underlying70 hi hz0 hz1 hz2 rfl (by decide) Ar XR.length (lcs XR) rfl H7.out.row ⟨w6.heap.size, 0, none⟩ 1 1 [.string tx, .int .i64 kx, .string cx] rfl rfl HC7.out (by intro u hu; simp at hu; rcases hu with rfl | rfl | rfl <;> rfl) (by decide) (by have := HXL1.out; unfold maxLen; omega) (by have := HXL1.out; omega) H7.out.hB _ rfl ?_
        intro g9 c9 w8 hown hgr hat hlt9
        have HV8 := Lib.hid (VS.app H7.out hgr (LO.of (x := ⟨tx, kx, cx⟩) hown))
        have HT8 := Lib.hid (Tn.app (bl := bl) (A' := .slice (some ⟨g9, 0, none⟩) (XR.length + 1) c9) hgr (by rcases hat with e | e; exact .inl e.symm; exact .inr (by rw [e]; rfl)))
        have HG8 := Lib.hid (H7.out.grown hgr)
        have HX8 := Lib.hid (show Nb w8 gx (x1, x2) from ⟨(World.cell?_of_block (a := ⟨gx, 0, none⟩) (hgr.block gx HX7.out.lt (fun e => HGB.out.2 e.symm))).trans HX7.out.c0, (World.cell?_of_block (a := ⟨gx, 1, none⟩) (hgr.block gx HX7.out.lt (fun e => HGB.out.2 e.symm))).trans HX7.out.c1⟩)
        have HX9 := Lib.hid (HT8.out.nb HX7.out HGB.out.1 HGB.out.2)
        have hf8 := HG8.out.2.1
        have hb8 := HG8.out.1
        refine hK.out _ _ (.inr ⟨HG8.out.1, HG8.out.2.2.1, HX8.out.c0, HX8.out.c1⟩) ?_
        clear hK K hown hgr hat hlt9
        simp only [Act.put, List.setIfInBounds_toArray, List.set_cons_zero, List.set_cons_succ]
        refine rg.step_T (i := 11) (by kernel_rfl) rfl fun K hK => ?_
        go_simp
        obtain ⟨w9, hw9⟩ : ∃ w9, w8.setCell ⟨bl, 0, none⟩ (.slice (some ⟨g9, 0, none⟩) (XR.length + 1) c9) = w9 := ⟨_, rfl⟩
        rw [hw9] at HV8 HT8 HX9 ⊢
        refine hK.out _ _ (.inl rfl) ?_
        clear hK K
        refine rg.done_T (by kernel_rfl) ?_
        obtain ⟨A9, hA9⟩ : ∃ A, Value.slice (some ⟨g9, 0, none⟩) (XR.length + 1) c9 = A := ⟨_, rfl⟩
        rw [hA9] at HV8 HT8
        have HT9 := Lib.hid (((Tn.bel (bl := bl) (A := Ar) (bel_step HB4.out HB7.out)).trans HT8.out))
        have HIH := Lib.hid (IH.out (x1, x2) tx w9 A9 (XR ++ [⟨tx, kx, cx⟩]) HC.out HTZ.out (by
          have h1 := HXL.out
          rw [HLI.out, List.length_cons] at h1
          rw [List.length_append]
          simp only [List.length_cons, List.length_nil]
          omega) HV8.out)
        unfold VisE at HIH
        obtain ⟨y0, y1⟩ := HX9.out
        dsimp only at y0 y1
        have cf9 := HV8.out.cf
        clear hb8 hf8 hw9 hA9
        go_wp2_with fail
        refine HIH.out.mono ?_
        rintro _ w10 ⟨rfl, A10, hV10, hT10⟩
        have HR := Lib.hid (show VS w0 w10 bv bl bf V B A10 (X ++ (ls.take (j + 1)).flatMap (linesN U L d (n1, n2) at_)) by
          rw [HTL.out, HLI.out, ← List.append_assoc, HXR.out]
          have := hV10
          rw [List.append_assoc] at this
          exact this)
        have HTT := Lib.hid ((HTr.out.trans HT9.out).trans hT10)
        clear hV10 hT10 y0 y1 cf9
        go_wp2_with fail
        go_roundg (gk - 1)
        case measure => omega
        case rel => exact ⟨j + 1, A10, by omega, by go_num, HR, HTT⟩
      · obtain rfl : j = m := by omega
        have HE := Lib.hid (show (ls.take j).flatMap (linesN U L d (n1, n2) at_) = linesV U L (d + 1) (n1, n2) at_ by rw [HLV.out, List.take_of_length_le (by rw [HM.out]; exact Nat.le_refl _)])
        go_wp2_with fail
        go_end0
        exact HF.out _ wr Ar HSr.out (HT2.out.trans HTr.out) HE.out
end Go.Proofs.YtnnaoldpacbagaaGreat.fl
end
