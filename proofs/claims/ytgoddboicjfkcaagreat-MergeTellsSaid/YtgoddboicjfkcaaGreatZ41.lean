/- Part 41 of what is known of the program's functions and of the document's words: contracts, and the mathematics beneath them. -/
import Derived.Test.YtgoddboicjfkcaaGreatProg
import Derived.Test.YtgoddboicjfkcaaGreatZ33
import Derived.Test.YtgoddboicjfkcaaGreatZ28
import Derived.Test.YtgoddboicjfkcaaGreatZ40
import Derived.Test.YtgoddboicjfkcaaGreatZ38
import Derived.Test.YtgoddboicjfkcaaGreatZ37
import Derived.Test.YtgoddboicjfkcaaGreatZ39
set_option linter.unusedVariables false
set_option linter.unusedSimpArgs false
set_option maxRecDepth 100000
set_option maxHeartbeats 8000000
namespace Go.Proofs.YtgoddboicjfkcaaGreat.mg
open Go.RowKit Go.Deep
open br (BS Ino Inv fresh)
open cb (BrX RetW RetI No statV)
open bl (Pq)
theorem R3.set3 {w : World} {g : Nat} {x y z : Int} (h : R3 w g x y z) (a b c : Int) : R3 (((w.setCell ⟨g, 0, none⟩ (.int .i64 a)).setCell ⟨g, 1, none⟩ (.int .i64 b)).setCell ⟨g, 2, none⟩ (.int .i64 c)) g a b c := by
 have hr := h.range (.int .i64 a) (.int .i64 b) (.int .i64 c)
 have h0 := hr 0 _ rfl
 have h1 := hr 1 _ rfl
 have h2 := hr 2 _ rfl
 rw [Nat.zero_add] at h0 h1 h2
 exact ⟨h0, h1, h2, by simp [h.f0], by simp [h.f1], by simp [h.f2]⟩
theorem stat_err {S : BS} {i : Int} (h : S.kindOf i ≠ 0) : (S.stat i).2 = 0 := by
 unfold BS.stat
 cases hi : S.isI i
 ·exfalso; apply h; unfold BS.kindOf; rw [hi]; rfl
 ·rfl
theorem Vd.stat1 {w : World} {D1 D2 : Nat} {U L : BS} (h : Vd w D1 D2 U L) (i : Int) : Calls Tryz.prog 84 #[Pq D1, .int .i64 i] w (RetW w (statV U i)) := by obtain ⟨_, _, _, _, _, k, g⟩ := h.d1; exact cb.q_stat k g i
theorem Vd.stat2 {w : World} {D1 D2 : Nat} {U L : BS} (h : Vd w D1 D2 U L) (i : Int) : Calls Tryz.prog 84 #[Pq D2, .int .i64 i] w (RetW w (statV L i)) := by obtain ⟨_, _, _, _, _, k, g⟩ := h.d2; exact cb.q_stat k g i
def stN (U L : BS) (n : Nd) : (Int × Nat × Int) × Int := if n.1 ≠ 0 then U.stat n.1 else L.stat n.2
theorem stN_err {U L : BS} {n : Nd} (h : kindV U L n ≠ 0) : (stN U L n).2 = 0 := by
 unfold stN
 unfold kindV at h
 by_cases e : n.1 ≠ 0
 ·rw [if_pos e] at h ⊢
  exact stat_err fun e2 => h (by simp [e, e2])
 ·rw [if_neg e] at h ⊢
  exact stat_err fun e2 => h (by simp [e, e2])
theorem R4.lo {w w' : World} {g D1 D2 X : Nat} {u l : Int} (h : R4 w g D1 D2 u l) (hb : Below X w w') (hx : g < X) : R4 w' g D1 D2 u l :=
 ⟨(hb.cell (p := ⟨g, 0, none⟩) hx).trans h.c0, (hb.cell (p := ⟨g, 1, none⟩) hx).trans h.c1, (hb.cell (p := ⟨g, 2, none⟩) hx).trans h.c2, (hb.cell (p := ⟨g, 3, none⟩) hx).trans h.c3⟩
theorem Nb.lo {w w' : World} {g X : Nat} {n : Nd} (h : Nb w g n) (hb : Below X w w') (hx : g < X) : Nb w' g n := ⟨(hb.cell (p := ⟨g, 0, none⟩) hx).trans h.c0, (hb.cell (p := ⟨g, 1, none⟩) hx).trans h.c1⟩
theorem rstat_any {w : World} {D1 D2 : Nat} {u l : Int} {U L : BS} (h : Vd w D1 D2 U L) (n : Nd) (ns : List ByteArray) (hns : AllV U L n ns) : Calls Tryz.prog 24 #[Rv D1 D2 u l, Nv n] w (RetW w (Sv3 (statN U L n ns.length))) := by
 obtain ⟨n1, n2⟩ := n
 have HF := Lib.hid (show ∀ w1, ((w.alloc (.cells #[Pq D1, Pq D2, .int .i64 u, .int .i64 l] 36)).alloc (.cells #[.int .i64 n1, .int .i64 n2] 24)).alloc (.cells #[.int .i64 0, .int .i64 0, .int .i64 0] 47) = w1 → Below w.heap.size w w1 ∧ R4 w1 w.heap.size D1 D2 u l ∧ Nb w1 (w.heap.size + 1) (n1, n2) ∧ R3 w1 (w.heap.size + 1 + 1) 0 0 0 from fun w1 hw1 => by
  rw [← hw1]
  refine ⟨bel_step (bel_step (bel_alloc _ _) (bel_alloc _ _)) (bel_alloc _ _), ((R4.new w D1 D2 u l).below (bel_alloc _ _)).below (bel_alloc _ _), ?_, ?_⟩
  ·have := (Nb.new (w.alloc (.cells #[Pq D1, Pq D2, .int .i64 u, .int .i64 l] 36)) n1 n2).below (bel_alloc _ (.cells #[.int .i64 0, .int .i64 0, .int .i64 0] 47))
   rwa [World.size_alloc] at this
  ·have := R3.new ((w.alloc (.cells #[Pq D1, Pq D2, .int .i64 u, .int .i64 l] 36)).alloc (.cells #[.int .i64 n1, .int .i64 n2] 24)) 0 0 0
   rwa [World.size_alloc, World.size_alloc] at this)
 have HK := Lib.hid (fun W (hb : Below w.heap.size w W) => rkind_any (u := u) (l := l) (h.below hb) (n1, n2))
 have HT1 := Lib.hid (fun W (hb : Below w.heap.size w W) => (h.below hb).stat1 n1)
 have HT2 := Lib.hid (fun W (hb : Below w.heap.size w W) => (h.below hb).stat2 n2)
 have HA := Lib.hid (fun W (hb : Below w.heap.size w W) => rall_any (u := u) (l := l) (h.below hb) (n1, n2) ns hns)
 have HNS := Lib.hid hns
 have HV := Lib.hid (show statN U L (n1, n2) ns.length = if kindV U L (n1, n2) = 0 then ((0, 0, 0), 2) else (((stN U L (n1, n2)).1.1, if kindV U L (n1, n2) = 2 then (ns.length : Int) else ((stN U L (n1, n2)).1.2.1 : Int), (stN U L (n1, n2)).1.2.2), (stN U L (n1, n2)).2) from rfl)
 have HE := Lib.hid (show kindV U L (n1, n2) ≠ 0 → (stN U L (n1, n2)).2 = 0 from stN_err)
 have HS1 := Lib.hid (show n1 ≠ 0 → stN U L (n1, n2) = U.stat n1 from fun e => if_pos e)
 have HS2 := Lib.hid (show n1 = 0 → stN U L (n1, n2) = L.stat n2 from fun e => if_neg (by simpa using e))
 unfold RetI at HK
 unfold RetW statV at HT1 HT2
 unfold AllE at HA
 obtain ⟨sn, hsn⟩ : ∃ sn, statN U L (n1, n2) ns.length = sn := ⟨_, rfl⟩
 rw [hsn] at HV ⊢
 clear hsn
 obtain ⟨kv, hkv⟩ : ∃ k, kindV U L (n1, n2) = k := ⟨_, rfl⟩
 rw [hkv] at HK HV HE
 generalize stN U L (n1, n2) = tt at *
 generalize U.stat n1 = tu at *
 generalize L.stat n2 = tl at *
 generalize lstV U L (n1, n2) = le at *
 unfold RetW
 obtain ⟨g, hg⟩ : ∃ g, w.heap.size = g := ⟨_, rfl⟩
 have HGB := Lib.hid hg
 rw [hg] at HF
 clear h hkv hns
 go_enter Tryz.func24, Tryz.ntmps24
 go_upto_region 1 with fail
 generalize hw1 : ((w.alloc (.cells #[Pq D1, Pq D2, .int .i64 u, .int .i64 l] 36)).alloc (.cells #[.int .i64 n1, .int .i64 n2] 24)).alloc (.cells #[.int .i64 0, .int .i64 0, .int .i64 0] 47) = w1
 obtain ⟨hb1, hr1, hn1, hc1⟩ := HF.out w1 hw1
 have HB1 := Lib.hid (show Below w.heap.size w w1 by rw [HGB.out]; exact hb1)
 have HR1 := Lib.hid hr1
 have HN1 := Lib.hid hn1
 have HC1 := Lib.hid hc1
 clear hb1 hr1 hn1 hc1 HF hw1
 obtain ⟨k0, k1, k2, k3⟩ := HR1.out
 obtain ⟨m0, m1⟩ := HN1.out
 dsimp only at m0 m1
 go_wp2_with fail
 refine (HK.out _ HB1.out).mono ?_
 rintro _ w2 ⟨rfl, hb2⟩
 have HB2 := Lib.hid (bel_step HB1.out hb2)
 have HR2 := Lib.hid (HR1.out.below hb2)
 have HN2 := Lib.hid (HN1.out.below hb2)
 have HC2 := Lib.hid (HC1.out.below hb2)
 clear k0 k1 k2 k3 m0 m1 hb2 HB1 HR1 HN1 HC1
 by_cases h0 : kv = 0
 case pos =>
  subst h0
  have hv := HV.out
  rw [if_pos (by first | rfl | trivial)] at hv
  subst hv
  obtain ⟨s0, s1, s2, v0, v1, v2⟩ := HC2.out
  have HRS := Lib.hid (fun a b c => (HC2).out.range a b c)
  have HBS := Lib.hid (fun a b c => set3_below (HB2).out (show w.heap.size ≤ g + 1 + 1 by have := HGB.out; omega) a b c)
  clear HV HA HT1 HT2 HE HS1 HS2
  go_wp2_with fail
  refine bodyPost_ret (results_row_tmp rfl _ _ (g + 1 + 1) _ _ rfl (HRS.out _ _ _) Tryz.underlying47 (by rfl) (by rfl)) rfl ?_
  exact ⟨rfl, HGB.out ▸ HBS.out (.int .i64 0) (.int .i64 0) (.int .i64 0)⟩
 have q0 : (kv == 0) = false := by simpa using h0
 have hv := HV.out
 rw [if_neg h0] at hv
 have het := HE.out h0
 obtain ⟨⟨ta, tb, tc⟩, te⟩ := tt
 dsimp only at hv het
 subst het
 have HVS := Lib.hid hv
 obtain ⟨k0, k1, k2, k3⟩ := HR2.out
 obtain ⟨m0, m1⟩ := HN2.out
 dsimp only at m0 m1
 go_upto_region 5 with fail
 generalize hw3 : w2.alloc (.cells #[.int .i64 0, .int .i64 0, .int .i64 0] 47) = w3
 have hb3 : Below w2.heap.size w2 w3 := by rw [← hw3]; exact bel_alloc _ _
 have HB3 := Lib.hid (bel_step HB2.out hb3)
 have HR3 := Lib.hid (HR2.out.below hb3)
 have HN3 := Lib.hid (HN2.out.below hb3)
 have HC3 := Lib.hid (HC2.out.below hb3)
 have HX3 := Lib.hid (show R3 w3 w2.heap.size 0 0 0 by rw [← hw3]; exact R3.new w2 0 0 0)
 obtain ⟨gs, hgs⟩ : ∃ gs, w2.heap.size = gs := ⟨_, rfl⟩
 rw [hgs] at HX3
 try rw [hgs]
 have HGS := Lib.hid (show g + 1 + 1 < gs by rw [← hgs]; exact HC2.out.lt)
 clear hb3 HB2 HR2 HN2 HC2 k0 k1 k2 k3 m0 m1 hv HV
 clear hw3
 obtain ⟨k0, k1, k2, k3⟩ := HR3.out
 obtain ⟨m0, m1⟩ := HN3.out
 dsimp only at m0 m1
 by_cases hn : n1 = 0
 ·have qn : (n1 != 0) = false := by simpa using hn
  have htt := HS2.out hn
  subst htt
  have ht := HT2.out _ HB3.out
  dsimp only at ht
  clear HT1 HT2 HS1 HS2 HE h0 hn
  generalize (tb : Int) = tz at *
  go_wp2_with fail
  refine ht.mono ?_
  rintro _ w4 ⟨rfl, hb4⟩
  have HB4 := Lib.hid (bel_step HB3.out hb4)
  have HR4 := Lib.hid (HR3.out.below hb4)
  have HN4 := Lib.hid (HN3.out.below hb4)
  have HC4 := Lib.hid (HC3.out.below hb4)
  have HX4 := Lib.hid (HX3.out.below hb4)
  clear ht hb4 HB3 HR3 HN3 HC3 HX3 k0 k1 k2 k3 m0 m1
  obtain ⟨w5, hw5⟩ : ∃ w5, w4.alloc (.cells #[.int .i64 ta, .int .i64 tz, .int .i64 tc] 47) = w5 := ⟨_, rfl⟩
  have hb5 : Below w4.heap.size w4 w5 := by rw [← hw5]; exact bel_alloc _ _
  have HB5 := Lib.hid (bel_step HB4.out hb5)
  have HR5 := Lib.hid (HR4.out.below hb5)
  have HN5 := Lib.hid (HN4.out.below hb5)
  have HC5 := Lib.hid (HC4.out.below hb5)
  have HX5 := Lib.hid (HX4.out.below hb5)
  have HY5 := Lib.hid (show R3 w5 w4.heap.size ta tz tc by rw [← hw5]; exact R3.new w4 ta tz tc)
  obtain ⟨gt, hgt⟩ : ∃ gt, w4.heap.size = gt := ⟨_, rfl⟩
  rw [hgt] at HY5
  clear hb5 HB4 HR4 HN4 HC4 HX4
  obtain ⟨x0, x1, x2, y0, y1, y2⟩ := HX5.out
  obtain ⟨t0, t1, t2, -, -, -⟩ := HY5.out
  have hs6 : Below gs w5 (((w5.setCell ⟨gs, 0, none⟩ (.int .i64 ta)).setCell ⟨gs, 1, none⟩ (.int .i64 tz)).setCell ⟨gs, 2, none⟩ (.int .i64 tc)) := (((Below.refl gs w5).setCell (p := ⟨gs, 0, none⟩) (Nat.le_refl gs) _).setCell (p := ⟨gs, 1, none⟩) (Nat.le_refl gs) _).setCell (p := ⟨gs, 2, none⟩) (Nat.le_refl gs) _
  have HB6 := Lib.hid (set3_below HB5.out (show w.heap.size ≤ gs by have := HGS.out; have := HGB.out; omega) (.int .i64 ta) (.int .i64 tz) (.int .i64 tc))
  have HR6 := Lib.hid (HR5.out.lo hs6 (by have := HGS.out; omega))
  have HN6 := Lib.hid (HN5.out.lo hs6 (by have := HGS.out; omega))
  have HC6 := Lib.hid (HC5.out.same (hs6.block _ (by have := HGS.out; omega)))
  have HX6 := Lib.hid (HX5.out.set3 ta tz tc)
  clear hs6
  go_upto_region 10 with fail
  clear HX5 HY5 HB5 HR5 HN5 HC5 x0 x1 x2 y0 y1 y2 t0 t1 t2 hw5 hgt
  generalize ((w5.setCell ⟨gs, 0, none⟩ (.int .i64 ta)).setCell ⟨gs, 1, none⟩ (.int .i64 tz)).setCell ⟨gs, 2, none⟩ (.int .i64 tc) = w6 at *
  by_cases e2 : kv = 2
  ·subst e2
   obtain ⟨k0, k1, k2, k3⟩ := HR6.out
   obtain ⟨m0, m1⟩ := HN6.out
   dsimp only at m0 m1
   have HA6 := Lib.hid (HA.out _ HB6.out)
   clear HA
   go_wp2_with fail
   refine HA6.out.mono ?_
   rintro _ w7 ⟨A, c, ll, rfl, hal, -, hlc, hcm, hl8, hb7⟩
   obtain rfl := hal.same HNS.out
   have HB7 := Lib.hid (bel_step HB6.out hb7)
   have HC7 := Lib.hid (HC6.out.below hb7)
   have HX7 := Lib.hid (HX6.out.below hb7)
   have hvs := HVS.out
   rw [if_pos (by first | rfl | trivial)] at hvs
   have HVS := Lib.hid hvs
   generalize ll.length = m at *
   clear hal hb7 HA6 HB6 HC6 HX6 HR6 HN6 k0 k1 k2 k3 m0 m1 hvs HNS
   obtain ⟨x0, x1, x2, y0, y1, y2⟩ := HX7.out
   have HX8 := Lib.hid (HX7.out.mid (m : Int))
   have HB8 := Lib.hid (show Below w.heap.size w (w7.setCell ⟨gs, 1, none⟩ (.int .i64 (m : Int))) from set_below HB7.out (by have := HGS.out; have := HGB.out; omega) _)
   have HC8 := Lib.hid (show R3 (w7.setCell ⟨gs, 1, none⟩ (.int .i64 (m : Int))) (g + 1 + 1) 0 0 0 from HC7.out.same (heap_set (by have := HGS.out; omega)))
   go_upto_region 13 with fail
   clear HX7 HB7 HC7 x0 x1 x2 y0 y1 y2
   generalize w7.setCell ⟨gs, 1, none⟩ (.int .i64 (m : Int)) = w8 at *
   obtain ⟨x0, x1, x2, y0, y1, y2⟩ := HX8.out
   obtain ⟨s0, s1, s2, v0, v1, v2⟩ := HC8.out
   have HRS := Lib.hid (fun a b c => (HC8).out.range a b c)
   have HBS := Lib.hid (fun a b c => set3_below (HB8).out (show w.heap.size ≤ g + 1 + 1 by have := HGB.out; omega) a b c)
   clear HC8 HB8 HX8
   go_wp2_with fail
   refine bodyPost_ret (results_row_tmp rfl _ _ (g + 1 + 1) _ _ rfl (HRS.out _ _ _) Tryz.underlying47 (by rfl) (by rfl)) rfl ?_
   exact ⟨by rw [HVS.out]; rfl, HGB.out ▸ HBS.out (.int .i64 ta) (.int .i64 (m : Int)) (.int .i64 tc)⟩
  ·have q2 : (kv == 2) = false := by simpa using e2
   have hvs := HVS.out
   rw [if_neg e2] at hvs
   have HVS := Lib.hid hvs
   clear HA hvs
   obtain ⟨x0, x1, x2, y0, y1, y2⟩ := HX6.out
   obtain ⟨s0, s1, s2, v0, v1, v2⟩ := HC6.out
   have HRS := Lib.hid (fun a b c => (HC6).out.range a b c)
   have HBS := Lib.hid (fun a b c => set3_below (HB6).out (show w.heap.size ≤ g + 1 + 1 by have := HGB.out; omega) a b c)
   clear HC6 HB6 HX6
   go_wp2_with fail
   refine bodyPost_ret (results_row_tmp rfl _ _ (g + 1 + 1) _ _ rfl (HRS.out _ _ _) Tryz.underlying47 (by rfl) (by rfl)) rfl ?_
   exact ⟨by rw [HVS.out]; rfl, HGB.out ▸ HBS.out (.int .i64 ta) (.int .i64 tz) (.int .i64 tc)⟩
 ·have qn : (n1 != 0) = true := by simpa using hn
  have htt := HS1.out hn
  subst htt
  have ht := HT1.out _ HB3.out
  dsimp only at ht
  clear HT1 HT2 HS1 HS2 HE h0 hn
  generalize (tb : Int) = tz at *
  go_wp2_with fail
  refine ht.mono ?_
  rintro _ w4 ⟨rfl, hb4⟩
  have HB4 := Lib.hid (bel_step HB3.out hb4)
  have HR4 := Lib.hid (HR3.out.below hb4)
  have HN4 := Lib.hid (HN3.out.below hb4)
  have HC4 := Lib.hid (HC3.out.below hb4)
  have HX4 := Lib.hid (HX3.out.below hb4)
  clear ht hb4 HB3 HR3 HN3 HC3 HX3 k0 k1 k2 k3 m0 m1
  obtain ⟨w5, hw5⟩ : ∃ w5, w4.alloc (.cells #[.int .i64 ta, .int .i64 tz, .int .i64 tc] 47) = w5 := ⟨_, rfl⟩
  have hb5 : Below w4.heap.size w4 w5 := by rw [← hw5]; exact bel_alloc _ _
  have HB5 := Lib.hid (bel_step HB4.out hb5)
  have HR5 := Lib.hid (HR4.out.below hb5)
  have HN5 := Lib.hid (HN4.out.below hb5)
  have HC5 := Lib.hid (HC4.out.below hb5)
  have HX5 := Lib.hid (HX4.out.below hb5)
  have HY5 := Lib.hid (show R3 w5 w4.heap.size ta tz tc by rw [← hw5]; exact R3.new w4 ta tz tc)
  obtain ⟨gt, hgt⟩ : ∃ gt, w4.heap.size = gt := ⟨_, rfl⟩
  rw [hgt] at HY5
  clear hb5 HB4 HR4 HN4 HC4 HX4
  obtain ⟨x0, x1, x2, y0, y1, y2⟩ := HX5.out
  obtain ⟨t0, t1, t2, -, -, -⟩ := HY5.out
  have hs6 : Below gs w5 (((w5.setCell ⟨gs, 0, none⟩ (.int .i64 ta)).setCell ⟨gs, 1, none⟩ (.int .i64 tz)).setCell ⟨gs, 2, none⟩ (.int .i64 tc)) := (((Below.refl gs w5).setCell (p := ⟨gs, 0, none⟩) (Nat.le_refl gs) _).setCell (p := ⟨gs, 1, none⟩) (Nat.le_refl gs) _).setCell (p := ⟨gs, 2, none⟩) (Nat.le_refl gs) _
  have HB6 := Lib.hid (set3_below HB5.out (show w.heap.size ≤ gs by have := HGS.out; have := HGB.out; omega) (.int .i64 ta) (.int .i64 tz) (.int .i64 tc))
  have HR6 := Lib.hid (HR5.out.lo hs6 (by have := HGS.out; omega))
  have HN6 := Lib.hid (HN5.out.lo hs6 (by have := HGS.out; omega))
  have HC6 := Lib.hid (HC5.out.same (hs6.block _ (by have := HGS.out; omega)))
  have HX6 := Lib.hid (HX5.out.set3 ta tz tc)
  clear hs6
  go_upto_region 10 with fail
  clear HX5 HY5 HB5 HR5 HN5 HC5 x0 x1 x2 y0 y1 y2 t0 t1 t2 hw5 hgt
  generalize ((w5.setCell ⟨gs, 0, none⟩ (.int .i64 ta)).setCell ⟨gs, 1, none⟩ (.int .i64 tz)).setCell ⟨gs, 2, none⟩ (.int .i64 tc) = w6 at *
  by_cases e2 : kv = 2
  ·subst e2
   obtain ⟨k0, k1, k2, k3⟩ := HR6.out
   obtain ⟨m0, m1⟩ := HN6.out
   dsimp only at m0 m1
   have HA6 := Lib.hid (HA.out _ HB6.out)
   clear HA
   go_wp2_with fail
   refine HA6.out.mono ?_
   rintro _ w7 ⟨A, c, ll, rfl, hal, -, hlc, hcm, hl8, hb7⟩
   obtain rfl := hal.same HNS.out
   have HB7 := Lib.hid (bel_step HB6.out hb7)
   have HC7 := Lib.hid (HC6.out.below hb7)
   have HX7 := Lib.hid (HX6.out.below hb7)
   have hvs := HVS.out
   rw [if_pos (by first | rfl | trivial)] at hvs
   have HVS := Lib.hid hvs
   generalize ll.length = m at *
   clear hal hb7 HA6 HB6 HC6 HX6 HR6 HN6 k0 k1 k2 k3 m0 m1 hvs HNS
   obtain ⟨x0, x1, x2, y0, y1, y2⟩ := HX7.out
   have HX8 := Lib.hid (HX7.out.mid (m : Int))
   have HB8 := Lib.hid (show Below w.heap.size w (w7.setCell ⟨gs, 1, none⟩ (.int .i64 (m : Int))) from set_below HB7.out (by have := HGS.out; have := HGB.out; omega) _)
   have HC8 := Lib.hid (show R3 (w7.setCell ⟨gs, 1, none⟩ (.int .i64 (m : Int))) (g + 1 + 1) 0 0 0 from HC7.out.same (heap_set (by have := HGS.out; omega)))
   go_upto_region 13 with fail
   clear HX7 HB7 HC7 x0 x1 x2 y0 y1 y2
   generalize w7.setCell ⟨gs, 1, none⟩ (.int .i64 (m : Int)) = w8 at *
   obtain ⟨x0, x1, x2, y0, y1, y2⟩ := HX8.out
   obtain ⟨s0, s1, s2, v0, v1, v2⟩ := HC8.out
   have HRS := Lib.hid (fun a b c => (HC8).out.range a b c)
   have HBS := Lib.hid (fun a b c => set3_below (HB8).out (show w.heap.size ≤ g + 1 + 1 by have := HGB.out; omega) a b c)
   clear HC8 HB8 HX8
   go_wp2_with fail
   refine bodyPost_ret (results_row_tmp rfl _ _ (g + 1 + 1) _ _ rfl (HRS.out _ _ _) Tryz.underlying47 (by rfl) (by rfl)) rfl ?_
   exact ⟨by rw [HVS.out]; rfl, HGB.out ▸ HBS.out (.int .i64 ta) (.int .i64 (m : Int)) (.int .i64 tc)⟩
  ·have q2 : (kv == 2) = false := by simpa using e2
   have hvs := HVS.out
   rw [if_neg e2] at hvs
   have HVS := Lib.hid hvs
   clear HA hvs
   obtain ⟨x0, x1, x2, y0, y1, y2⟩ := HX6.out
   obtain ⟨s0, s1, s2, v0, v1, v2⟩ := HC6.out
   have HRS := Lib.hid (fun a b c => (HC6).out.range a b c)
   have HBS := Lib.hid (fun a b c => set3_below (HB6).out (show w.heap.size ≤ g + 1 + 1 by have := HGB.out; omega) a b c)
   clear HC6 HB6 HX6
   go_wp2_with fail
   refine bodyPost_ret (results_row_tmp rfl _ _ (g + 1 + 1) _ _ rfl (HRS.out _ _ _) Tryz.underlying47 (by rfl) (by rfl)) rfl ?_
   exact ⟨by rw [HVS.out]; rfl, HGB.out ▸ HBS.out (.int .i64 ta) (.int .i64 tz) (.int .i64 tc)⟩
end Go.Proofs.YtgoddboicjfkcaaGreat.mg
namespace Go.Proofs.YtgoddboicjfkcaaGreat.mg
open Go.RowKit Go.Deep
open br (BS Ino Inv fresh)
open cb (BrX RetW RetI No)
open bl (Pq)
def QRead (w : World) (S : BS) (i off n : Int) (e : Ending) (w' : World) : Prop := ∃ v, e = .returned (.tuple #[v, .int .i64 (cb.readI S i off n).1]) ∧ w'.ownsRow w.heap.size 5 1 v (cb.readI S i off n).2 (bl.rowF (cb.readI S i off n).2 (fun j => (S.at i).body.dat (off.toNat + j))) ∧ Below w.heap.size w w'
theorem Vd.read1 {w : World} {D1 D2 : Nat} {U L : BS} (h : Vd w D1 D2 U L) (i off sz : Int) : Calls Tryz.prog 86 #[Pq D1, .int .i64 i, .int .i64 off, .int .i64 sz] w (QRead w U i off sz) := by obtain ⟨_, _, _, _, _, k, g⟩ := h.d1; exact cb.q_read k g i off sz
theorem Vd.read2 {w : World} {D1 D2 : Nat} {U L : BS} (h : Vd w D1 D2 U L) (i off sz : Int) : Calls Tryz.prog 86 #[Pq D2, .int .i64 i, .int .i64 off, .int .i64 sz] w (QRead w L i off sz) := by obtain ⟨_, _, _, _, _, k, g⟩ := h.d2; exact cb.q_read k g i off sz
def QReadN (w : World) (U L : BS) (n : Nd) (off sz : Int) (e : Ending) (w' : World) : Prop :=
 (kindV U L n = 0 ∧ e = .returned (.tuple #[.slice none 0 0, .int .i64 2]) ∧ Below w.heap.size w w') ∨ (kindV U L n ≠ 0 ∧ QRead w (readN U L n).1 (readN U L n).2 off sz e w')
theorem qread_lo {w w0 w' : World} {S : BS} {i off n : Int} {e : Ending} (hb : Below w0.heap.size w0 w) (h : QRead w S i off n e w') : QRead w0 S i off n e w' := by
 obtain ⟨v, e1, h1, h2⟩ := h
 exact ⟨v, e1, ⟨h1.1, h1.2.imp id fun ⟨g, cap, cur, a, b, c⟩ => ⟨g, cap, cur, a, Nat.le_trans hb.size b, c⟩⟩, bel_step hb h2⟩
theorem rread_any {w : World} {D1 D2 : Nat} {u l : Int} {U L : BS} (h : Vd w D1 D2 U L) (n : Nd) (off sz : Int) : Calls Tryz.prog 29 #[Rv D1 D2 u l, Nv n, .int .i64 off, .int .i64 sz] w (QReadN w U L n off sz) := by
 obtain ⟨n1, n2⟩ := n
 have HF := Lib.hid (show ∀ w1, (w.alloc (.cells #[Pq D1, Pq D2, .int .i64 u, .int .i64 l] 36)).alloc (.cells #[.int .i64 n1, .int .i64 n2] 24) = w1 → Below w.heap.size w w1 ∧ R4 w1 w.heap.size D1 D2 u l ∧ Nb w1 (w.heap.size + 1) (n1, n2) from fun w1 hw1 => by
  rw [← hw1]
  refine ⟨bel_step (bel_alloc _ _) (bel_alloc _ _), (R4.new w D1 D2 u l).below (bel_alloc _ _), ?_⟩
  have := Nb.new (w.alloc (.cells #[Pq D1, Pq D2, .int .i64 u, .int .i64 l] 36)) n1 n2
  rwa [World.size_alloc] at this)
 have HK := Lib.hid (fun W (hb : Below w.heap.size w W) => rkind_any (u := u) (l := l) (h.below hb) (n1, n2))
 have HT1 := Lib.hid (fun W (hb : Below w.heap.size w W) => (h.below hb).read1 n1 off sz)
 have HT2 := Lib.hid (fun W (hb : Below w.heap.size w W) => (h.below hb).read2 n2 off sz)
 have HQ0 := Lib.hid (show ∀ W, kindV U L (n1, n2) = 0 → Below w.heap.size w W → QReadN w U L (n1, n2) off sz (.returned (.tuple #[.slice none 0 0, .int .i64 2])) W from fun W a b => .inl ⟨a, rfl, b⟩)
 have HQ1 := Lib.hid (show ∀ W e W', kindV U L (n1, n2) ≠ 0 → n1 ≠ 0 → Below w.heap.size w W → QRead W U n1 off sz e W' → QReadN w U L (n1, n2) off sz e W' from fun W e W' a b c d => .inr ⟨a, by have := qread_lo c d; unfold readN; dsimp only; rw [if_pos b]; exact this⟩)
 have HQ2 := Lib.hid (show ∀ W e W', kindV U L (n1, n2) ≠ 0 → n1 = 0 → Below w.heap.size w W → QRead W L n2 off sz e W' → QReadN w U L (n1, n2) off sz e W' from fun W e W' a b c d => .inr ⟨a, by have := qread_lo c d; unfold readN; dsimp only; rw [if_neg (by simpa using b)]; exact this⟩)
 obtain ⟨kv, hkv⟩ : ∃ k, kindV U L (n1, n2) = k := ⟨_, rfl⟩
 rw [hkv] at HK HQ0 HQ1 HQ2
 obtain ⟨PQ, hPQ⟩ : ∃ P, QReadN w U L (n1, n2) off sz = P := ⟨_, rfl⟩
 rw [hPQ] at HQ0 HQ1 HQ2 ⊢
 unfold RetI at HK
 obtain ⟨g, hg⟩ : ∃ g, w.heap.size = g := ⟨_, rfl⟩
 have HGB := Lib.hid hg
 rw [hg] at HF
 clear h hkv hPQ
 go_enter Tryz.func29, Tryz.ntmps29
 go_upto_region 1 with fail
 generalize hw1 : (w.alloc (.cells #[Pq D1, Pq D2, .int .i64 u, .int .i64 l] 36)).alloc (.cells #[.int .i64 n1, .int .i64 n2] 24) = w1
 obtain ⟨hb1, hr1, hn1⟩ := HF.out w1 hw1
 have HB1 := Lib.hid (show Below w.heap.size w w1 by rw [HGB.out]; exact hb1)
 have HR1 := Lib.hid hr1
 have HN1 := Lib.hid hn1
 clear hb1 hr1 hn1 HF hw1
 obtain ⟨k0, k1, k2, k3⟩ := HR1.out
 obtain ⟨m0, m1⟩ := HN1.out
 dsimp only at m0 m1
 go_wp2_with fail
 refine (HK.out _ HB1.out).mono ?_
 rintro _ w2 ⟨rfl, hb2⟩
 have HB2 := Lib.hid (bel_step HB1.out hb2)
 have HR2 := Lib.hid (HR1.out.below hb2)
 have HN2 := Lib.hid (HN1.out.below hb2)
 clear k0 k1 k2 k3 m0 m1 hb2 HB1 HR1 HN1
 by_cases h0 : kv = 0
 case pos =>
  subst h0
  have hq := HQ0.out w2 rfl HB2.out
  clear HT1 HT2 HQ1 HQ2
  go_wp2_with fail
  exact hq
 have q0 : (kv == 0) = false := by simpa using h0
 obtain ⟨k0, k1, k2, k3⟩ := HR2.out
 obtain ⟨m0, m1⟩ := HN2.out
 dsimp only at m0 m1
 by_cases hn : n1 = 0
 ·have qn : (n1 != 0) = false := by simpa using hn
  have HQ := Lib.hid (fun e W' => HQ2.out w2 e W' h0 hn HB2.out)
  have ht := HT2.out _ HB2.out
  clear HT1 HT2 HQ0 HQ1 HQ2 h0 hn
  go_wp2_with fail
  refine ht.mono ?_
  intro e w3 he
  have hq := HQ.out _ _ he
  obtain ⟨v, rfl, -, -⟩ := he
  clear HQ ht k0 k1 k2 k3 m0 m1
  go_wp2_with fail
  exact hq
 ·have qn : (n1 != 0) = true := by simpa using hn
  have HQ := Lib.hid (fun e W' => HQ1.out w2 e W' h0 hn HB2.out)
  have ht := HT1.out _ HB2.out
  clear HT1 HT2 HQ0 HQ1 HQ2 h0 hn
  go_wp2_with fail
  refine ht.mono ?_
  intro e w3 he
  have hq := HQ.out _ _ he
  obtain ⟨v, rfl, -, -⟩ := he
  clear HQ ht k0 k1 k2 k3 m0 m1
  go_wp2_with fail
  exact hq
end Go.Proofs.YtgoddboicjfkcaaGreat.mg
namespace Go.Proofs.YtgoddboicjfkcaaGreat.mg
open Go.RowKit Go.Deep
open br (BS Ino Inv fresh)
open cb (BrX RetW RetI No statV Bt)
open bl (Pq strF rowF)
theorem Bt.vd {w0 w : World} {G : Nat} {p : cb.Pt} {U L : BS} (h : Bt w0 w G p U L) : Vd w p.D1 p.D2 U L :=
 ⟨cb.Sys.ask h.q (i := 2) rfl fun O k => by obtain ⟨pl, tg, hd, _⟩ := k; exact ⟨_, _, pl, tg, 500, hd, h.q.good1⟩, cb.Sys.ask h.q (i := 3) rfl fun O k => by obtain ⟨pl, tg, hd, _⟩ := k; exact ⟨_, _, pl, tg, 500, hd, h.q.good2⟩⟩
theorem neq47 (a b c : Int) (w : World) : (binOp .neq 47 (.agg #[.int .i64 a, .int .i64 b, .int .i64 c]) (.agg #[.int .i64 a, .int .i64 b, .int .i64 c])).run Tryz.prog w = .ok (.bool false) w := by
 have hS : Tryz.prog.underlying 47 = some (.struct (Tryz.prog.fieldsOf 47)) := by kernel_rfl
 have hp : Tryz.prog.stoodInHeld 47 = false := by kernel_rfl
 have u3 := Tryz.underlying3
 have a3 := Tryz.isAgg3
 have z3 := Tryz.sizeOf3
 rw [run_neq_struct, show (10000 : Nat) = 9999 + 1 from rfl, run_equalIn_agg w 9999 47 _ _ hS hp]
 simp only [Program.fieldsOf, Tryz.underlying47]
 go_simp
theorem guard47 (op : BinOp) (a b : Operand) (xs ys : Array Value) (w : World) : (eqGuard op 47 a b (.agg xs) (.agg ys)).run Tryz.prog w = .ok () w := run_eqGuard_agg w op 47 a b xs ys (by kernel_rfl)
theorem own_convF {w : World} {base n c : Nat} {A : Option Addr} {f : Nat → UInt8} (h : w.ownsRow base 5 1 (.slice A n c) n (rowF n f)) : (convert 53 9 (.slice A n c)).run Tryz.prog w = .ok (.string (strF n f)) w := by
 rcases h.2 with ⟨h0, h1⟩ | ⟨g, cap, cur, hv, _⟩
 ·injection h0 with a1 a2 a3
  subst a1 h1
  exact Lib.run_convert_nil_bytes w 53 9 5 c Tryz.underlying53 Tryz.underlying5 Tryz.underlying9
 ·injection hv with a1 a2 a3
  subst a1
  refine bl.conv_cells fun i hi => ?_
  refine h.cells (g := g) rfl i _ ?_
  exact bl.rowF_get f hi
theorem own_ofslice {w : World} {lo n : Nat} {v : Value} {L : List Value} (h : w.ownsRow lo 5 1 v n L) : ∃ A c, v = .slice A n c := by
 rcases h.2 with ⟨h1, h2⟩ | ⟨g, cap, cur, h1, _⟩
 ·exact ⟨none, 0, by rw [h1, h2]⟩
 ·exact ⟨_, cap, h1⟩
theorem ownr_below {w w' : World} {lo t k n : Nat} {v : Value} {L : List Value} (h : w.ownsRow lo t k v n L) (hb : Below w.heap.size w w') : w'.ownsRow lo t k v n L := by
 refine ⟨h.1, h.2.imp id fun ⟨g, cap, cur, a, b, c, d⟩ => ⟨g, cap, cur, a, b, (hb.block g (h.lt g (by rw [a]; rfl)).2).trans c, d⟩⟩
def rdN (U L : BS) (n : Nd) (off sz : Int) : Int × ByteArray :=
 if kindV U L n = 0 then (2, ⟨#[]⟩) else ((cb.readI (readN U L n).1 (readN U L n).2 off sz).1, strF (cb.readI (readN U L n).1 (readN U L n).2 off sz).2 (fun j => ((readN U L n).1.at (readN U L n).2).body.dat (off.toNat + j)))
def RdE (w : World) (r : Int × ByteArray) (e : Ending) (w' : World) : Prop :=
 ∃ A m c, e = .returned (.tuple #[.slice A m c, .int .i64 r.1]) ∧ (∀ W, Below w'.heap.size w' W → (convert 53 9 (.slice A m c)).run Tryz.prog W = .ok (.string r.2) W) ∧ Below w.heap.size w w'
theorem rd_nil (W : World) : (convert 53 9 (.slice none 0 0)).run Tryz.prog W = .ok (.string ⟨#[]⟩) W := Lib.run_convert_nil_bytes W 53 9 5 0 Tryz.underlying53 Tryz.underlying5 Tryz.underlying9
theorem rd_code {w : World} {U L : BS} {n : Nd} {off sz : Int} {e : Ending} {w' : World} (h : ReadN w U L n off sz e w') : RdE w (rdN U L n off sz) e w' := by
 unfold rdN
 rcases h with ⟨h0, h1, h2⟩ | ⟨h0, A, c, h1, h2, h3⟩
 ·rw [if_pos h0]; exact ⟨none, 0, 0, h1, fun W _ => rd_nil W, h2⟩
 ·rw [if_neg h0]; exact ⟨A, _, c, h1, fun W hb => bl.Row.conv (h2.below hb), h3⟩
theorem rd_doc {w : World} {U L : BS} {n : Nd} {off sz : Int} {e : Ending} {w' : World} (h : QReadN w U L n off sz e w') : RdE w (rdN U L n off sz) e w' := by
 unfold rdN
 rcases h with ⟨h0, h1, h2⟩ | ⟨h0, v, h1, h2, h3⟩
 ·rw [if_pos h0]; exact ⟨none, 0, 0, h1, fun W _ => rd_nil W, h2⟩
 ·rw [if_neg h0]
  obtain ⟨A, c, rfl⟩ := own_ofslice h2
  exact ⟨A, _, c, h1, fun W hb => own_convF (ownr_below h2 hb), h3⟩
structure N2 (w : World) (G : Nat) (x y : Nd) : Prop where
 c0 : w.cell? ⟨G, 0, none⟩ = some (.int .i64 x.1)
 c1 : w.cell? ⟨G, 1, none⟩ = some (.int .i64 x.2)
 c2 : w.cell? ⟨G, 2, none⟩ = some (.int .i64 y.1)
 c3 : w.cell? ⟨G, 3, none⟩ = some (.int .i64 y.2)
theorem N2.new (w : World) (x y : Nd) : N2 (w.alloc (.cells #[.int .i64 x.1, .int .i64 x.2, .int .i64 y.1, .int .i64 y.2] 24)) w.heap.size x y := ⟨by simp, by simp, by simp, by simp⟩
theorem N2.lt {w : World} {G : Nat} {x y : Nd} (h : N2 w G x y) : G < w.heap.size := World.block_lt_of_cell? _ _ h.c0
theorem N2.below {w w' : World} {G : Nat} {x y : Nd} (h : N2 w G x y) (hb : Below w.heap.size w w') : N2 w' G x y :=
 ⟨(hb.cell (p := ⟨G, 0, none⟩) h.lt).trans h.c0, (hb.cell (p := ⟨G, 1, none⟩) h.lt).trans h.c1, (hb.cell (p := ⟨G, 2, none⟩) h.lt).trans h.c2, (hb.cell (p := ⟨G, 3, none⟩) h.lt).trans h.c3⟩
theorem N2.at {w : World} {G : Nat} {x y : Nd} (h : N2 w G x y) {j : Nat} (hj : j < 2) : ∃ z : Nd, w.cell? ⟨G, j * 2, none⟩ = some (.int .i64 z.1) ∧ w.cell? ⟨G, j * 2 + 1, none⟩ = some (.int .i64 z.2) := by
 match j, hj with
 | 0, _ => exact ⟨x, h.c0, h.c1⟩
 | 1, _ => exact ⟨y, h.c2, h.c3⟩
end Go.Proofs.YtgoddboicjfkcaaGreat.mg
