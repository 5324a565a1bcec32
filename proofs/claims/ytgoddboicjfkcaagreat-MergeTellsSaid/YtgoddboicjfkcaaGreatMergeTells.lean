/- For every list of acts, every two roots, every node, name, place and count the law MergeTells returns true, and what is handed in reads as it did; there are no conditions. -/
import Derived.Test.YtgoddboicjfkcaaGreatRows
import Derived.Test.YtgoddboicjfkcaaGreatZ41
import Derived.Deep.LoopGhost
import Derived.Deep.RegionWith
import Derived.Deep.LoopGhost
import Derived.StillTailTactics
import Derived.Deep.QuietTactic
import Derived.BigQuiet
import Derived.ProofKit
import Derived.OpenShut
import Derived.ShutString
import Derived.SizedLaws
namespace Go.Proofs.YtgoddboicjfkcaaGreat.mergeTells
open Go.ChangeShapes Go.WideShapes Go.ChangeAt Go.RowKit
open Go.ChangeMaps (open_string shut_string)
open Go.Proofs.YtgoddboicjfkcaaGreat.mg
set_option linter.unusedVariables false
set_option linter.unusedSimpArgs false

theorem own : ownKnob Tryz.prog.godebug = none := by kernel_rfl
theorem laid : laidOutB Tryz.prog = true := by kernel_rfl

open Go.Proofs.YtgoddboicjfkcaaGreat.br (BS Ino Inv fresh)
open Go.Proofs.YtgoddboicjfkcaaGreat.cb (BrX RetW RetI No Act7 Acts Bt BuildE build_any)
open Go.Proofs.YtgoddboicjfkcaaGreat.bl (Pq Only)
open Go.Proofs.YtgoddboicjfkcaaGreat.mg
set_option maxRecDepth 100000 in
set_option maxHeartbeats 8000000 in
theorem walk (A : Option Addr) (n c : Nat) (F : Nat → Act7) (u l : Int) (nd : Nd) (s : ByteArray) (off sz : Int) (w : World) (k1 : n ≤ c ∧ c ≤ maxLen) (hF : Acts w w.heap.size A n F) (ws : s.size ≤ 140737488351232) :
    Calls Tryz.prog 3 #[.slice A n c, .int .i64 u, .int .i64 l, Nv nd, .string s, .int .i64 off, .int .i64 sz] w (AwakeE w) := by
  have hnm : n ≤ maxLen := Nat.le_trans k1.1 k1.2
  obtain ⟨n1, n2⟩ := nd
  obtain ⟨w0, hw0⟩ : ∃ w0, w.alloc (.cells #[.int .i64 n1, .int .i64 n2] 24) = w0 := ⟨_, rfl⟩
  have HB0 := Lib.hid (show Below w.heap.size w w0 by rw [← hw0]; exact bel_alloc _ _)
  have HN0 := Lib.hid (show Nb w0 w.heap.size (n1, n2) by rw [← hw0]; exact Nb.new w n1 n2)
  have HBD := Lib.hid (fun w1 (hb : Below w0.heap.size w0 w1) => build_any A n c F w0 w1 hnm (acts_up (hF.below HB0.out) HB0.out.size) hb)
  obtain ⟨g0, hg0⟩ : ∃ g, w.heap.size = g := ⟨_, rfl⟩
  rw [hg0] at HN0
  clear k1 hF hnm
  go_enter Tryz.func3, Tryz.ntmps3
  go_wp2_with fail
  refine (awake_any _).mono ?_
  rintro _ w1 ⟨rfl, hb1⟩
  have HB1 := Lib.hid (HBD.out _ hb1)
  clear hb1 HBD hw0
  go_wp2_with fail
  refine HB1.out.mono ?_
  rintro _ w2 h2
  clear HB1
  rcases h2 with ⟨v, rfl, h2⟩ | ⟨G, p, U, L, rfl, h2⟩
  · have HE := Lib.hid (bel_step HB0.out h2)
    clear h2
    go_wp2_with fail
    go_ret
    exact ⟨rfl, HE.out⟩
  have H2 := Lib.hid h2
  clear h2
  obtain ⟨-, c0, c1, -, -⟩ := H2.out
  have HN2 := Lib.hid (HN0.out.below H2.out.q.bel)
  by_cases hsz : (131072 : Int) < sz
  · have HE := Lib.hid (bel_step HB0.out H2.out.q.bel)
    have hsd : decide ((131072 : Int) < sz) = true := by simpa using hsz
    clear c0 c1 HN2 HN0
    go_wp2_with fail
    go_ret
    exact ⟨rfl, HE.out⟩
  have hsd : decide ((131072 : Int) < sz) = false := by simpa using hsz
  go_wp2_with fail
  go_region_held3 (fun w' => w'.cell? ⟨G, 0, none⟩ = some (Pq p.P1) ∧ w'.cell? ⟨G, 1, none⟩ = some (Pq p.P2))
    (first | exact ⟨c0, c1⟩ | exact S8 | assumption | go_keep)
    (first | (go_at_call 14; ((with_reducible refine (Bt.new (Bt.below H2.out (Below.refl w2.heap.size w2).drew) u l).mono ?_); rintro _ wv ⟨V, rfl, hv3, hb3⟩; have HS3 := Lib.hid ((Below.refl w2.heap.size w2).drew.trans hb3); have HV := Lib.hid hv3; have HT := Lib.hid (Bt.below H2.out HS3.out); have HNv := Lib.hid (HN2.out.below HS3.out); have S8 := And.intro HT.out.c0 HT.out.c1)))
  all_goals
    clear c0 c1 S8 hv3 hb3 HS3 H2 HN0 HN2
    have HBv := Lib.hid (show Below w.heap.size w wv from bel_step HB0.out HT.out.q.bel)
    have HI := Lib.hid (And.intro (Bt.good1 HT.out) (Bt.good2 HT.out))
    have HTX := Lib.hid (fun W (hb : Below wv.heap.size wv W) => Bt.below HT.out hb)
    have HVX := Lib.hid (fun W (hb : Below wv.heap.size wv W) => HV.out.below hb)
    have HDX := Lib.hid (fun W (hb : Below wv.heap.size wv W) => Bt.vd (HTX.out W hb))
    have HR0 := Lib.hid (Below.refl wv.heap.size wv)
    obtain ⟨-, -, -, d2, d3⟩ := HT.out
    clear HV hsz hsd
    go_wp2_with fail
    go_region_held3 (fun w' => w'.cell? ⟨G, 2, none⟩ = some (Pq p.D1) ∧ w'.cell? ⟨G, 3, none⟩ = some (Pq p.D2))
      (first | exact ⟨d2, d3⟩ | assumption | go_keep)
      (fail)
    generalize hw7 : (wv.alloc (.cells #[Pq p.D1, Pq p.D2, .int .i64 u, .int .i64 l] 36)).drew = w7
    obtain ⟨gr, hgr⟩ : ∃ g, wv.heap.size = g := ⟨_, rfl⟩
    have HR7 := Lib.hid (show Below wv.heap.size wv w7 by rw [← hw7]; exact (bel_alloc _ _).drew)
    have HV7 := Lib.hid (show R4 w7 gr p.D1 p.D2 u l by rw [← hw7, ← hgr]; exact (R4.new wv p.D1 p.D2 u l).below (Below.refl _ _).drew)
    have HN7 := Lib.hid (HNv.out.below HR7.out)
    try rw [hgr]
    clear hw7 hgr d2 d3 HNv HR0
    have HRT := Lib.hid (fun W (hb : Below wv.heap.size wv W) => root_any (HVX.out W hb))
    have HRR := Lib.hid (fun W (hb : Below wv.heap.size wv W) => rroot_any (u := u) (l := l) (HDX.out W hb))
    unfold RetW at HRT
    generalize rootV U L u l = rt at *
    obtain ⟨r1, r2⟩ := rt
    have hgd := guard24
    have hq : ∀ W, (binOp .neq 24 (.agg #[.int .i64 r1, .int .i64 r2]) (.agg #[.int .i64 r1, .int .i64 r2])).run Tryz.prog W = .ok (.bool false) W := fun W => by have := run_neq24 (r1, r2) (r1, r2) W; simpa using this
    have HVB := Lib.hid (fun p' : BelowOf w7 => HV7.out.below p'.h)
    have z0 : ∀ p' : BelowOf w7, p'.W.cell? ⟨gr, 0, none⟩ = some (Pq p.D1) := fun p' => (HVB.out p').c0
    have z1 : ∀ p' : BelowOf w7, p'.W.cell? ⟨gr, 1, none⟩ = some (Pq p.D2) := fun p' => (HVB.out p').c1
    have z2 : ∀ p' : BelowOf w7, p'.W.cell? ⟨gr, 2, none⟩ = some (.int .i64 u) := fun p' => (HVB.out p').c2
    have z3 : ∀ p' : BelowOf w7, p'.W.cell? ⟨gr, 3, none⟩ = some (.int .i64 l) := fun p' => (HVB.out p').c3
    have HCA := Lib.hid (fun p' : BelowOf w7 => calls_below p' (v := Nv (r1, r2)) (HRT.out _ (p'.step HR7.out)))
    have HCB := Lib.hid (fun p' : BelowOf w7 => calls_below p' (v := Nv (r1, r2)) (HRR.out _ (p'.step HR7.out)))
    go_upto_region 8 with fail
    refine wp_region_below (by kernel_rfl) (by kernel_rfl) ?_
    repeat (go_big_quiet_step ((first | (go_at_call 15; with_reducible exact HCA.out _) | (go_at_call 16; with_reducible exact HCB.out _) | fail)))
    refine wpQuiet_nil ?_
    rintro wz ⟨⟨w8, hz⟩, hw⟩
    obtain rfl : wz = w8 := hw
    have HR8 := Lib.hid (bel_step HR7.out hz)
    have HV8 := Lib.hid (HV7.out.below hz)
    have HN8 := Lib.hid (HN7.out.below hz)
    clear hz z0 z1 z2 z3 HVB HCA HCB HR7 HV7 HN7 hq HRR
    obtain ⟨m0, m1⟩ := HN8.out
    dsimp only at m0 m1
    go_wp2_with fail
    go_region_held3 (fun w' => w'.cell? ⟨g0, 0, none⟩ = some (.int .i64 n1) ∧ w'.cell? ⟨g0, 1, none⟩ = some (.int .i64 n2))
      (first | exact ⟨m0, m1⟩ | exact S10 | assumption | go_keep)
      (first | (go_at_call 15; ((with_reducible refine (HRT.out _ (bel_step HR8.out (Below.refl wz.heap.size wz).drew)).mono ?_); rintro _ w9 ⟨rfl, hb9⟩; have HS9 := Lib.hid ((Below.refl wz.heap.size wz).drew.trans hb9); have S10 := And.intro (HN8.out.below HS9.out).c0 (HN8.out.below HS9.out).c1)))
    all_goals
      clear m0 m1 S10 hb9 HRT
      obtain ⟨gn, hgn⟩ : ∃ g, w9.heap.size = g := ⟨_, rfl⟩
      obtain ⟨wn, hwn⟩ : ∃ w, w9.alloc (.cells #[.int .i64 n1, .int .i64 n2, .int .i64 r1, .int .i64 r2] 24) = w := ⟨_, rfl⟩
      have hbn : Below w9.heap.size w9 wn := by rw [← hwn]; exact bel_alloc _ _
      have HRN := Lib.hid (bel_step HR8.out (bel_step HS9.out hbn))
      have HVN := Lib.hid (HV8.out.below (bel_step HS9.out hbn))
      have HNN := Lib.hid (show N2 wn gn (n1, n2) (r1, r2) by rw [← hwn, ← hgn]; exact N2.new w9 (n1, n2) (r1, r2))
      try rw [hwn]
      try rw [hgn]
      clear hbn hwn hgn HR8 HV8 HN8 HS9
      have HG := Lib.hid (fun W (hb : Below wv.heap.size wv W) x => get_any (HVX.out W hb) x s)
      have HQ := Lib.hid (fun W (hb : Below wv.heap.size wv W) x => rget_any (u := u) (l := l) (HDX.out W hb) x s)
      have HK := Lib.hid (fun W (hb : Below wv.heap.size wv W) x => kind_any (HVX.out W hb) x)
      have HKQ := Lib.hid (fun W (hb : Below wv.heap.size wv W) x => rkind_any (u := u) (l := l) (HDX.out W hb) x)
      have HAL := Lib.hid (fun W (hb : Below wv.heap.size wv W) x => all_any (HVX.out W hb) HI.out.1 HI.out.2 x)
      have HAQ := Lib.hid (fun W (hb : Below wv.heap.size wv W) x ns hns => rall_any (u := u) (l := l) (HDX.out W hb) x ns hns)
      have HST := Lib.hid (fun W (hb : Below wv.heap.size wv W) x => stat_any (HVX.out W hb) HI.out.1 HI.out.2 x)
      have HSQ := Lib.hid (fun W (hb : Below wv.heap.size wv W) x ns hns => rstat_any (u := u) (l := l) (HDX.out W hb) x ns hns)
      have HTG := Lib.hid (fun W (hb : Below wv.heap.size wv W) x => target_any (HVX.out W hb) x)
      have HTQ := Lib.hid (fun W (hb : Below wv.heap.size wv W) x => rtarget_any (u := u) (l := l) (HDX.out W hb) x)
      have HRD := Lib.hid (fun W (hb : Below wv.heap.size wv W) x => (read_any (HVX.out W hb) x off sz).mono fun _ _ h => rd_code h)
      have HRQ := Lib.hid (fun W (hb : Below wv.heap.size wv W) x => (rread_any (u := u) (l := l) (HDX.out W hb) x off sz).mono fun _ _ h => rd_doc h)
      unfold RetW at HG HTG HSQ
      unfold RetI at HK HKQ
      unfold AllE at HAL HAQ
      unfold StatE at HST
      unfold RdE at HRD HRQ
      go_upto_region 11 with fail
      go_loopg [80] 2 (fun gh s80 wr => ∃ j : Nat, gh + j = 2 ∧ s80 = .int .i64 j ∧ Hid (Below wn.heap.size wn wr))
      case atStart => exact ⟨0, by omega, rfl, Lib.hid (Below.refl _ _)⟩
      case round =>
        obtain ⟨j, hgj, rfl, HW⟩ := hrel
        by_cases hj : j < 2
        case neg =>
          obtain rfl : j = 2 := by omega
          have HFE := Lib.hid (bel_step HBv.out (bel_step HRN.out HW.out))
          go_wp2_with fail
          go_ret
          exact ⟨rfl, HFE.out⟩
        obtain ⟨⟨x1, x2⟩, e0, e1⟩ := (HNN.out.below HW.out).at hj
        dsimp only at e0 e1
        have HG := Lib.hid (fun W hb => HG.out W hb (x1, x2))
        have HQ := Lib.hid (fun W hb => HQ.out W hb (x1, x2))
        have HAL := Lib.hid (fun W hb => HAL.out W hb (x1, x2))
        have HAQ := Lib.hid (fun W hb => HAQ.out W hb (x1, x2))
        have HST := Lib.hid (fun W hb => HST.out W hb (x1, x2))
        have HSQ := Lib.hid (fun W hb => HSQ.out W hb (x1, x2))
        have HTG := Lib.hid (fun W hb => HTG.out W hb (x1, x2))
        have HTQ := Lib.hid (fun W hb => HTQ.out W hb (x1, x2))
        have HRD := Lib.hid (fun W hb => HRD.out W hb (x1, x2))
        have HRQ := Lib.hid (fun W hb => HRQ.out W hb (x1, x2))
        have HKX := Lib.hid (fun W hb => HK.out W hb (x1, x2))
        have HKY := Lib.hid (fun W hb => HKQ.out W hb (x1, x2))
        generalize getV U L (x1, x2) s = r at *
        obtain ⟨⟨a1, a2⟩, ae⟩ := r
        dsimp only at HG HQ
        have HAX := Lib.hid (fun W hb => HK.out W hb (a1, a2))
        have HAY := Lib.hid (fun W hb => HKQ.out W hb (a1, a2))
        generalize kindV U L (x1, x2) = kx at *
        generalize kindV U L (a1, a2) = ka at *
        generalize lstV U L (x1, x2) = le at *
        generalize targN U L (x1, x2) = tg at *
        obtain ⟨tg, te⟩ := tg
        dsimp only at HTG HTQ
        generalize rdN U L (x1, x2) off sz = rd at *
        obtain ⟨re, rs⟩ := rd
        dsimp only at HRD HRQ
        have HRB := Lib.hid (bel_step HRN.out HW.out)
        have HVB := Lib.hid (HVN.out.below HW.out)
        clear HK HKQ
        have HWW := Lib.hid HW.out
        obtain ⟨w21, hw21⟩ : ∃ w, wr.alloc (.cells #[.int .i64 x1, .int .i64 x2] 24) = w := ⟨_, rfl⟩
        have hb : Below wr.heap.size wr w21 := by rw [← hw21]; exact bel_alloc _ _
        obtain ⟨ghx, hghx⟩ : ∃ g, wr.heap.size = g := ⟨_, rfl⟩
        have HX0 := Lib.hid (show Nb w21 ghx (x1, x2) by rw [← hw21, ← hghx]; exact Nb.new wr x1 x2)
        have HRB21 := Lib.hid (bel_step HRB.out hb)
        have HVB21 := Lib.hid (HVB.out.below hb)
        have HWW21 := Lib.hid (bel_step HWW.out hb)
        clear HRB HVB HWW
        clear hb
        go_upto_region 13 with fail
        try rw [hw21]
        try rw [hghx]
        clear hw21 hghx
        clear e0 e1 HW
        obtain ⟨cx0, cx1⟩ := HX0.out
        dsimp only at cx0 cx1
        go_wp2_with fail
        refine (HG.out _ HRB21.out).mono ?_
        rintro _ w22 ⟨rfl, hb⟩
        have HRB22 := Lib.hid (bel_step HRB21.out hb)
        have HVB22 := Lib.hid (HVB21.out.below hb)
        have HWW22 := Lib.hid (bel_step HWW21.out hb)
        have HX22 := Lib.hid (HX0.out.below hb)
        clear HRB21 HVB21 HWW21 HX0 cx0 cx1
        clear hb
        obtain ⟨w23, hw23⟩ : ∃ w, w22.alloc (.cells #[.int .i64 a1, .int .i64 a2] 24) = w := ⟨_, rfl⟩
        have hb : Below w22.heap.size w22 w23 := by rw [← hw23]; exact bel_alloc _ _
        obtain ⟨gha, hgha⟩ : ∃ g, w22.heap.size = g := ⟨_, rfl⟩
        have HA0 := Lib.hid (show Nb w23 gha (a1, a2) by rw [← hw23, ← hgha]; exact Nb.new w22 a1 a2)
        have HRB23 := Lib.hid (bel_step HRB22.out hb)
        have HVB23 := Lib.hid (HVB22.out.below hb)
        have HWW23 := Lib.hid (bel_step HWW22.out hb)
        have HX23 := Lib.hid (HX22.out.below hb)
        clear HRB22 HVB22 HWW22 HX22
        clear hb
        go_upto_region 14 with fail
        try rw [hw23]
        try rw [hgha]
        clear hw23 hgha
        obtain ⟨cx0, cx1⟩ := HX23.out
        dsimp only at cx0 cx1
        obtain ⟨k0, k1, k2, k3⟩ := HVB23.out
        go_wp2_with fail
        refine (HQ.out _ HRB23.out).mono ?_
        rintro _ w24 ⟨rfl, hb⟩
        have HRB24 := Lib.hid (bel_step HRB23.out hb)
        have HVB24 := Lib.hid (HVB23.out.below hb)
        have HWW24 := Lib.hid (bel_step HWW23.out hb)
        have HX24 := Lib.hid (HX23.out.below hb)
        have HA24 := Lib.hid (HA0.out.below hb)
        clear HRB23 HVB23 HWW23 HX23 HA0 cx0 cx1 k0 k1 k2 k3
        clear hb
        obtain ⟨w25, hw25⟩ : ∃ w, w24.alloc (.cells #[.int .i64 a1, .int .i64 a2] 24) = w := ⟨_, rfl⟩
        have hb : Below w24.heap.size w24 w25 := by rw [← hw25]; exact bel_alloc _ _
        obtain ⟨ghb, hghb⟩ : ∃ g, w24.heap.size = g := ⟨_, rfl⟩
        have HB0 := Lib.hid (show Nb w25 ghb (a1, a2) by rw [← hw25, ← hghb]; exact Nb.new w24 a1 a2)
        have HRB25 := Lib.hid (bel_step HRB24.out hb)
        have HVB25 := Lib.hid (HVB24.out.below hb)
        have HWW25 := Lib.hid (bel_step HWW24.out hb)
        have HX25 := Lib.hid (HX24.out.below hb)
        have HA25 := Lib.hid (HA24.out.below hb)
        clear HRB24 HVB24 HWW24 HX24 HA24
        clear hb
        go_upto_region 15 with fail
        try rw [hw25]
        try rw [hghb]
        clear hw25 hghb
        have hqa : ∀ W, (binOp .neq 24 (.agg #[.int .i64 a1, .int .i64 a2]) (.agg #[.int .i64 a1, .int .i64 a2])).run Tryz.prog W = .ok (.bool false) W := fun W => by have := run_neq24 (a1, a2) (a1, a2) W; simpa using this
        have hqe : (ae != ae) = false := by simp
        have hqx : (kx != kx) = false := by simp
        have hqk : (ka != ka) = false := by simp
        have HAP := Lib.hid (fun p' : BelowOf w25 => HA25.out.below p'.h)
        have HBP := Lib.hid (fun p' : BelowOf w25 => HB0.out.below p'.h)
        have HVBP := Lib.hid (fun p' : BelowOf w25 => HVB25.out.below p'.h)
        have HXP := Lib.hid (fun p' : BelowOf w25 => HX25.out.below p'.h)
        have z0 : ∀ p' : BelowOf w25, p'.W.cell? ⟨gr, 0, none⟩ = some (Pq p.D1) := fun p' => (HVBP.out p').c0
        have z1 : ∀ p' : BelowOf w25, p'.W.cell? ⟨gr, 1, none⟩ = some (Pq p.D2) := fun p' => (HVBP.out p').c1
        have z2 : ∀ p' : BelowOf w25, p'.W.cell? ⟨gr, 2, none⟩ = some (.int .i64 u) := fun p' => (HVBP.out p').c2
        have z3 : ∀ p' : BelowOf w25, p'.W.cell? ⟨gr, 3, none⟩ = some (.int .i64 l) := fun p' => (HVBP.out p').c3
        have z4 : ∀ p' : BelowOf w25, p'.W.cell? ⟨ghx, 0, none⟩ = some (.int .i64 x1) := fun p' => (HXP.out p').c0
        have z5 : ∀ p' : BelowOf w25, p'.W.cell? ⟨ghx, 1, none⟩ = some (.int .i64 x2) := fun p' => (HXP.out p').c1
        have z6 : ∀ p' : BelowOf w25, p'.W.cell? ⟨gha, 0, none⟩ = some (.int .i64 a1) := fun p' => (HAP.out p').c0
        have z7 : ∀ p' : BelowOf w25, p'.W.cell? ⟨gha, 1, none⟩ = some (.int .i64 a2) := fun p' => (HAP.out p').c1
        have z8 : ∀ p' : BelowOf w25, p'.W.cell? ⟨ghb, 0, none⟩ = some (.int .i64 a1) := fun p' => (HBP.out p').c0
        have z9 : ∀ p' : BelowOf w25, p'.W.cell? ⟨ghb, 1, none⟩ = some (.int .i64 a2) := fun p' => (HBP.out p').c1
        have HC1 := Lib.hid (fun p' : BelowOf w25 => calls_below p' (v := .int .i64 kx) (HKX.out _ (p'.step HRB25.out)))
        have HC2 := Lib.hid (fun p' : BelowOf w25 => calls_below p' (v := .int .i64 kx) (HKY.out _ (p'.step HRB25.out)))
        have HC3 := Lib.hid (fun p' : BelowOf w25 => calls_below p' (v := .int .i64 ka) (HAX.out _ (p'.step HRB25.out)))
        have HC4 := Lib.hid (fun p' : BelowOf w25 => calls_below p' (v := .int .i64 ka) (HAY.out _ (p'.step HRB25.out)))

        refine wp_region_below (by kernel_rfl) (by kernel_rfl) ?_
        repeat (go_big_quiet_step ((first | (go_at_call 19; with_reducible exact HC1.out _) | (go_at_call 20; with_reducible exact HC2.out _) | (go_at_call 19; with_reducible exact HC3.out _) | (go_at_call 20; with_reducible exact HC4.out _) | fail)))
        refine wpQuiet_nil ?_
        rintro wz ⟨⟨wq, hb⟩, hw⟩
        obtain rfl : wz = wq := hw
        clear z0 z1 z2 z3 z4 z5 z6 z7 z8 z9 HC1 HC2 HC3 HC4 HAP HBP HVBP HXP
        obtain ⟨w26, hwk⟩ : ∃ w, wz = w := ⟨_, rfl⟩
        rw [hwk] at hb ⊢
        clear hwk
        have HRB26 := Lib.hid (bel_step HRB25.out hb)
        have HVB26 := Lib.hid (HVB25.out.below hb)
        have HWW26 := Lib.hid (bel_step HWW25.out hb)
        have HX26 := Lib.hid (HX25.out.below hb)
        have HA26 := Lib.hid (HA25.out.below hb)
        have HB26 := Lib.hid (HB0.out.below hb)
        clear HRB25 HVB25 HWW25 HX25 HA25 HB0
        clear hb
        clear hqa hqe hqx hqk HKX HKY HAX HAY HG HQ HA26 HB26
        obtain ⟨cx0, cx1⟩ := HX26.out
        dsimp only at cx0 cx1
        go_wp2_with fail
        refine (HAL.out _ HRB26.out).mono ?_
        rintro _ w27 ⟨A1, c1, ll, rfl, hal, hnr, hlc, hcm, hl8, hb⟩
        have HAV := Lib.hid hal
        have HN1 := Lib.hid hnr.ns
        have HLC := Lib.hid (And.intro hlc hcm)
        clear hal hnr hlc hcm hl8
        have HRB27 := Lib.hid (bel_step HRB26.out hb)
        have HVB27 := Lib.hid (HVB26.out.below hb)
        have HWW27 := Lib.hid (bel_step HWW26.out hb)
        have HX27 := Lib.hid (HX26.out.below hb)
        clear HRB26 HVB26 HWW26 HX26 cx0 cx1
        clear hb
        obtain ⟨cx0, cx1⟩ := HX27.out
        dsimp only at cx0 cx1
        obtain ⟨k0, k1, k2, k3⟩ := HVB27.out
        go_wp2_with fail
        refine (HAQ.out _ HRB27.out ll HAV.out).mono ?_
        rintro _ w28 ⟨A2, c2, l2, rfl, hal, hnr, hlc, hcm, hl8, hb⟩
        obtain rfl := hal.same HAV.out
        have HN2 := Lib.hid hnr.ns
        have HLD := Lib.hid (And.intro hlc hcm)
        have hlm := hl8
        clear hal hnr hlc hcm hl8
        have HRB28 := Lib.hid (bel_step HRB27.out hb)
        have HVB28 := Lib.hid (HVB27.out.below hb)
        have HWW28 := Lib.hid (bel_step HWW27.out hb)
        have HX28 := Lib.hid (HX27.out.below hb)
        have HN128 := Lib.hid (HN1.out.below hb)
        clear HRB27 HVB27 HWW27 HX27 HN1 cx0 cx1 k0 k1 k2 k3
        clear hb
        have HSQ := Lib.hid (fun W hb => HSQ.out W hb l2 HAV.out)
        generalize hst : statN U L (x1, x2) l2.length = st at *
        obtain ⟨⟨ka, kb, kc⟩, ke⟩ := st
        try unfold Sv3 at HSQ
        try dsimp only at HSQ
        have HSE := Lib.hid hst
        clear hst
        obtain ⟨cx0, cx1⟩ := HX28.out
        dsimp only at cx0 cx1
        go_wp2_with fail
        refine (HST.out _ HRB28.out).mono ?_
        rintro _ w29 ⟨l3, hal, rfl, hb⟩
        obtain rfl := hal.same HAV.out
        rw [HSE.out]
        try unfold Sv3
        try dsimp only
        clear hal
        have HRB29 := Lib.hid (bel_step HRB28.out hb)
        have HVB29 := Lib.hid (HVB28.out.below hb)
        have HWW29 := Lib.hid (bel_step HWW28.out hb)
        have HX29 := Lib.hid (HX28.out.below hb)
        have HN129 := Lib.hid (HN128.out.below hb)
        have HN229 := Lib.hid (HN2.out.below hb)
        clear HRB28 HVB28 HWW28 HX28 HN128 HN2 cx0 cx1
        clear hb
        obtain ⟨w30, hw30⟩ : ∃ w, w29.alloc (.cells #[.int .i64 ka, .int .i64 kb, .int .i64 kc] 47) = w := ⟨_, rfl⟩
        have hb : Below w29.heap.size w29 w30 := by rw [← hw30]; exact bel_alloc _ _
        obtain ⟨ghs, hghs⟩ : ∃ g, w29.heap.size = g := ⟨_, rfl⟩
        have HS0 := Lib.hid (show R3 w30 ghs ka kb kc by rw [← hw30, ← hghs]; exact R3.new w29 ka kb kc)
        have HRB30 := Lib.hid (bel_step HRB29.out hb)
        have HVB30 := Lib.hid (HVB29.out.below hb)
        have HWW30 := Lib.hid (bel_step HWW29.out hb)
        have HX30 := Lib.hid (HX29.out.below hb)
        have HN130 := Lib.hid (HN129.out.below hb)
        have HN230 := Lib.hid (HN229.out.below hb)
        clear HRB29 HVB29 HWW29 HX29 HN129 HN229
        clear hb
        go_upto_region 20 with fail
        try rw [hw30]
        try rw [hghs]
        clear hw30 hghs
        obtain ⟨cx0, cx1⟩ := HX30.out
        dsimp only at cx0 cx1
        obtain ⟨k0, k1, k2, k3⟩ := HVB30.out
        go_wp2_with fail
        refine (HSQ.out _ HRB30.out).mono ?_
        rintro _ w31 ⟨rfl, hb⟩
        have HRB31 := Lib.hid (bel_step HRB30.out hb)
        have HVB31 := Lib.hid (HVB30.out.below hb)
        have HWW31 := Lib.hid (bel_step HWW30.out hb)
        have HX31 := Lib.hid (HX30.out.below hb)
        have HN131 := Lib.hid (HN130.out.below hb)
        have HN231 := Lib.hid (HN230.out.below hb)
        have HS31 := Lib.hid (HS0.out.below hb)
        clear HRB30 HVB30 HWW30 HX30 HN130 HN230 HS0 cx0 cx1 k0 k1 k2 k3
        clear hb
        obtain ⟨w32, hw32⟩ : ∃ w, w31.alloc (.cells #[.int .i64 ka, .int .i64 kb, .int .i64 kc] 47) = w := ⟨_, rfl⟩
        have hb : Below w31.heap.size w31 w32 := by rw [← hw32]; exact bel_alloc _ _
        obtain ⟨ght, hght⟩ : ∃ g, w31.heap.size = g := ⟨_, rfl⟩
        have HT0 := Lib.hid (show R3 w32 ght ka kb kc by rw [← hw32, ← hght]; exact R3.new w31 ka kb kc)
        have HRB32 := Lib.hid (bel_step HRB31.out hb)
        have HVB32 := Lib.hid (HVB31.out.below hb)
        have HWW32 := Lib.hid (bel_step HWW31.out hb)
        have HX32 := Lib.hid (HX31.out.below hb)
        have HN132 := Lib.hid (HN131.out.below hb)
        have HN232 := Lib.hid (HN231.out.below hb)
        have HS32 := Lib.hid (HS31.out.below hb)
        clear HRB31 HVB31 HWW31 HX31 HN131 HN231 HS31
        clear hb
        go_upto_region 21 with fail
        try rw [hw32]
        try rw [hght]
        clear hw32 hght
        have hqs := neq47 ka kb kc
        have hgs := guard47
        have hqe : (le != le) = false := by simp
        have hqk : (ke != ke) = false := by simp
        have hsm := same_any HN132.out HN232.out HLC.out.1 HLC.out.2 HLD.out.1 HLD.out.2
        rw [decide_eq_true rfl] at hsm
        go_wp2_with fail
        refine (hsm).mono ?_
        rintro _ w33 ⟨rfl, hb⟩
        have HRB33 := Lib.hid (bel_step HRB32.out hb)
        have HVB33 := Lib.hid (HVB32.out.below hb)
        have HWW33 := Lib.hid (bel_step HWW32.out hb)
        have HX33 := Lib.hid (HX32.out.below hb)
        have HN133 := Lib.hid (HN132.out.below hb)
        have HN233 := Lib.hid (HN232.out.below hb)
        have HS33 := Lib.hid (HS32.out.below hb)
        have HT33 := Lib.hid (HT0.out.below hb)
        clear HRB32 HVB32 HWW32 HX32 HN132 HN232 HS32 HT0
        clear hb
        clear hsm
        obtain ⟨cs0, cs1, cs2, -, -, -⟩ := HS33.out
        obtain ⟨ct0, ct1, ct2, -, -, -⟩ := HT33.out
        go_upto_region 23 with fail
        clear cs0 cs1 cs2 ct0 ct1 ct2
        clear hqs hgs hqe hqk HAL HAQ HST HSQ HLC HLD HAV HSE HS33 HT33 HN133 HN233
        obtain ⟨cx0, cx1⟩ := HX33.out
        dsimp only at cx0 cx1
        go_wp2_with fail
        refine (HTG.out _ HRB33.out).mono ?_
        rintro _ w34 ⟨rfl, hb⟩
        have HRB34 := Lib.hid (bel_step HRB33.out hb)
        have HVB34 := Lib.hid (HVB33.out.below hb)
        have HWW34 := Lib.hid (bel_step HWW33.out hb)
        have HX34 := Lib.hid (HX33.out.below hb)
        clear HRB33 HVB33 HWW33 HX33 cx0 cx1
        clear hb
        obtain ⟨cx0, cx1⟩ := HX34.out
        dsimp only at cx0 cx1
        obtain ⟨k0, k1, k2, k3⟩ := HVB34.out
        go_wp2_with fail
        refine (HTQ.out _ HRB34.out).mono ?_
        rintro _ w35 ⟨rfl, hb⟩
        have HRB35 := Lib.hid (bel_step HRB34.out hb)
        have HVB35 := Lib.hid (HVB34.out.below hb)
        have HWW35 := Lib.hid (bel_step HWW34.out hb)
        have HX35 := Lib.hid (HX34.out.below hb)
        clear HRB34 HVB34 HWW34 HX34 cx0 cx1 k0 k1 k2 k3
        clear hb
        obtain ⟨cx0, cx1⟩ := HX35.out
        dsimp only at cx0 cx1
        go_wp2_with fail
        refine (HRD.out _ HRB35.out).mono ?_
        rintro _ w36 ⟨A3, m3, c3, rfl, hcv, hb⟩
        have HCY := Lib.hid hcv
        clear hcv
        have HRB36 := Lib.hid (bel_step HRB35.out hb)
        have HVB36 := Lib.hid (HVB35.out.below hb)
        have HWW36 := Lib.hid (bel_step HWW35.out hb)
        have HX36 := Lib.hid (HX35.out.below hb)
        clear HRB35 HVB35 HWW35 HX35 cx0 cx1
        clear hb
        obtain ⟨cx0, cx1⟩ := HX36.out
        dsimp only at cx0 cx1
        obtain ⟨k0, k1, k2, k3⟩ := HVB36.out
        go_wp2_with fail
        refine (HRQ.out _ HRB36.out).mono ?_
        rintro _ w37 ⟨A4, m4, c4, rfl, hcv, hb⟩
        have HCZ := Lib.hid hcv
        clear hcv
        have HRB37 := Lib.hid (bel_step HRB36.out hb)
        have HVB37 := Lib.hid (HVB36.out.below hb)
        have HWW37 := Lib.hid (bel_step HWW36.out hb)
        have HX37 := Lib.hid (HX36.out.below hb)
        have HCY37 := Lib.hid (fun W hx => HCY.out W (bel_step hb hx))
        clear HRB36 HVB36 HWW36 HX36 HCY cx0 cx1 k0 k1 k2 k3
        clear hb
        have hqt : (tg.toList != tg.toList) = false := by simp
        have hqr : (rs.toList != rs.toList) = false := by simp
        have hqe : (te != te) = false := by simp
        have hqf : (re != re) = false := by simp
        have hy := HCY37.out _ (Below.refl _ _)
        have hz := HCZ.out _ (Below.refl _ _)
        have HWW := Lib.hid (show Below wn.heap.size wn w37 from HWW37.out)
        go_wp2_with fail
        go_roundg (gk - 1)
        case measure => omega
        case rel => exact ⟨j + 1, by omega, by go_num, HWW⟩

set_option maxRecDepth 100000 in
theorem lifted (os : Os) (started : os.Started) (H : Type) (enc : TypeId × Value → H) :
    ReturnsInHanded {} Tryz.checked os 3 .any (Rows.mergeTellsSpec.pre6 enc Tryz.prog Tryz.f3 Rows.mergeTellsRow.domain false) (Rows.mergeTellsSpec.post enc Tryz.prog Tryz.f3 false true false false) := by
  refine returnsInHanded_of_change_sized (C := Tryz.checked) own started (by kernel_rfl) Tryz.func3
    (ChangeSpec.witness6 (enc := enc) (C := Tryz.checked) false ⟨#[], #[.slice none 0 0, .int .i64 0, .int .i64 0, .agg #[.int .i64 0, .int .i64 0], .string ByteArray.empty, .int .i64 0, .int .i64 0], []⟩ 8 (by kernel_rfl) (by kernel_rfl) (by kernel_rfl) (by kernel_rfl)) ?_
  intro W base args ds gs before hval0 hW hcnd hsz _
  have hval : ∀ (j : Nat) t v, Tryz.f3.params[j]? = some t → args[j]? = some v → Value.okWide Tryz.prog W .any base t v := hval0
  have hW' := hW
  obtain ⟨p, q, hA0, hV, rfl, hfz, hnd⟩ := hW
  have hA : DataW.TrodAll enc Tryz.prog W 0 (fun _ => true) true Tryz.f3.params.toList args.toList ds p := hA0
  rw [Tryz.params3] at hA hval
  obtain ⟨v0, vs0, d0, ds0, p0, q0, hargs, rfl, rfl, h0, r0⟩ := trodAll_cons hA
  obtain ⟨v1, vs1, d1, ds1, p1, q1, rfl, rfl, rfl, h1, r1⟩ := trodAll_cons r0
  obtain ⟨v2, vs2, d2, ds2, p2, q2, rfl, rfl, rfl, h2, r2⟩ := trodAll_cons r1
  obtain ⟨v3, vs3, d3, ds3, p3, q3, rfl, rfl, rfl, h3, r3⟩ := trodAll_cons r2
  obtain ⟨v4, vs4, d4, ds4, p4, q4, rfl, rfl, rfl, h4, r4⟩ := trodAll_cons r3
  obtain ⟨v5, vs5, d5, ds5, p5, q5, rfl, rfl, rfl, h5, r5⟩ := trodAll_cons r4
  obtain ⟨v6, vs6, d6, ds6, p6, q6, rfl, rfl, rfl, h6, r6⟩ := trodAll_cons r5
  obtain ⟨rfl, rfl, rfl⟩ := trodAll_nil r6
  obtain rfl : args = #[v0, v1, v2, v3, v4, v5, v6] := by cases args; simp_all
  obtain ⟨rfl, rfl⟩ := trodVars_none hV
  have hlt := fun x hx => hW'.lt x hx
  have t0 := h0
  obtain ⟨A0, n0, c0, x0, rfl, e0, s0⟩ := cb.open_acts (hval 0 22 v0 rfl rfl) h0
  obtain ⟨a1, rfl, rfl, rfl, w1⟩ := open_int Tryz.underlying3 (hval 1 3 v1 rfl rfl) h1
  obtain ⟨a2, rfl, rfl, rfl, w2⟩ := open_int Tryz.underlying3 (hval 2 3 v2 rfl rfl) h2
  have t3 := h3
  obtain ⟨n3, rfl⟩ := open_node (hval 3 24 v3 rfl rfl) h3
  obtain ⟨a4, rfl, rfl, rfl, w4⟩ := open_string Tryz.underlying9 (hval 4 9 v4 rfl rfl) h4
  have b4 : a4.size ≤ 140737488351232 := by
    have := sized_string hsz (j := 4) (t := 9) rfl rfl
    simpa [reachBytes] using this
  obtain ⟨a5, rfl, rfl, rfl, w5⟩ := open_int Tryz.underlying2 (hval 5 2 v5 rfl rfl) h5
  obtain ⟨a6, rfl, rfl, rfl, w6⟩ := open_int Tryz.underlying3 (hval 6 3 v6 rfl rfl) h6
  clear hA0 hval0
  refine (walk A0 n0 c0 x0 a1 a2 n3 a4 a5 a6 W e0 s0 b4).mono fun e W' ⟨he, hg⟩ => ?_
  subst he
  exact ⟨_, rfl, cb.law_post (pv := []) hW' (fun _ _ _ => (trodAll_cons_mk (shut_bool Tryz.underlying4 _) trodAll_mk0)) (fun sp hsp => (trodAll_cons_mk (cb.arg_stays t0 hg (by simp +contextual) hlt hsp laid) (trodAll_cons_mk (shut_int Tryz.underlying3 w1) (trodAll_cons_mk (shut_int Tryz.underlying3 w2) (trodAll_cons_mk (node_stays t3 hg (by simp +contextual) hlt hsp laid) (trodAll_cons_mk (shut_string Tryz.underlying9 w4) (trodAll_cons_mk (shut_int Tryz.underlying2 w5) (trodAll_cons_mk (shut_int Tryz.underlying3 w6) trodAll_mk0)))))))) (fun _ _ => rfl) (by simp)
    hg (ok_one (by kernel_rfl) rfl (okWide_bool_mk Tryz.underlying4 _))⟩

theorem over : Rows.mergeTellsRow.holds Tryz.pinned (OpenSpec.ofChange Rows.mergeTellsSpec) :=
  OpenClaim.holds_of_wide 3 Tryz.f3 rfl rfl rfl rfl rfl rfl rfl ⟨rfl, rfl, rfl, rfl, rfl⟩ rfl rfl rfl rfl rfl (by kernel_rfl) Tryz.func3 (by kernel_rfl)
    (of_decide_eq_true (by kernel_rfl)) (by unfold Func.isWrapper; first | (rw [if_pos (by decide +kernel)]; kernel_rfl) | (rw [if_neg (by decide +kernel)]; exact ⟨rfl, rfl⟩))
    (fun os started H enc _ => lifted os started H enc)

/-- The statement. -/
theorem proved : Rows.MergeTellsSaid :=
  over
end Go.Proofs.YtgoddboicjfkcaaGreat.mergeTells
