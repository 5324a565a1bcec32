/- For every list of acts, every number and every name the law MergeAlone returns true, and what is handed in reads as it did; there are no conditions. -/
import Derived.Test.YtkbdmjcdhkdanaaGreatRows
import Derived.Test.YtkbdmjcdhkdanaaGreatZ37
import Derived.Deep.RegionWith
import Derived.Deep.LoopGhost
import Derived.StillTailTactics
import Derived.Deep.QuietTactic
import Derived.BigQuiet
import Derived.ProofKit
import Derived.OpenShut
import Derived.ShutString
import Derived.SizedLaws
namespace Go.Proofs.YtkbdmjcdhkdanaaGreat.mergeAlone
open Go.ChangeShapes Go.WideShapes Go.ChangeAt Go.RowKit
open Go.ChangeMaps (open_string shut_string)
open Go.Proofs.YtkbdmjcdhkdanaaGreat.mg
set_option linter.unusedVariables false
set_option linter.unusedSimpArgs false

theorem own : ownKnob Tryz.prog.godebug = none := by kernel_rfl
theorem laid : laidOutB Tryz.prog = true := by kernel_rfl

open Go.Proofs.YtkbdmjcdhkdanaaGreat.br (BS Ino Inv fresh)
open Go.Proofs.YtkbdmjcdhkdanaaGreat.cb (BrX RetW RetI No Act7 Acts Bt BuildE build_any)
open Go.Proofs.YtkbdmjcdhkdanaaGreat.bl (Pq Only)
theorem x_new9 {w0 w : World} (hb : Below w0.heap.size w0 w) : Calls Tryz.prog 30 #[.int .i64 9] w (fun e w' => ∃ P, e = .returned (Pq P) ∧ BrX w0 w' P No fresh 9 0 ∧ Below w.heap.size w w') := (cb.x_new 9 (by decide) hb).mono fun _ _ ⟨P, h1, h2, h3, _⟩ => ⟨P, h1, h2.forget, h3⟩
set_option maxRecDepth 100000 in
set_option maxHeartbeats 8000000 in
theorem walk (A : Option Addr) (n c : Nat) (F : Nat → Act7) (i0 : Int) (s : ByteArray) (w : World) (k1 : n ≤ c ∧ c ≤ maxLen) (hF : Acts w w.heap.size A n F) (ws : s.size ≤ 140737488351232) :
    Calls Tryz.prog 5 #[.slice A n c, .int .i64 i0, .string s] w (AwakeE w) := by
  have hnm : n ≤ maxLen := Nat.le_trans k1.1 k1.2
  have HB0 := Lib.hid (Below.refl w.heap.size w)
  have HBD := Lib.hid (fun w1 (hb : Below w.heap.size w w1) => build_any A n c F w w1 hnm hF hb)
  clear k1 hF hnm
  go_enter Tryz.func5, Tryz.ntmps5
  go_wp2_with fail
  refine (awake_any _).mono ?_
  rintro _ w1 ⟨rfl, hb1⟩
  have HB1 := Lib.hid (HBD.out _ hb1)
  clear hb1 HBD
  go_wp2_with fail
  refine HB1.out.mono ?_
  rintro _ w2 h2
  clear HB1
  rcases h2 with ⟨v, rfl, h2⟩ | ⟨G, p, U, L, rfl, h2⟩
  · have HE := Lib.hid (bel_step HB0.out h2)
    clear h2
    go_wp2_with fail
    refine (x_new9 (Below.refl w2.heap.size w2)).mono ?_
    rintro _ w3 ⟨P, rfl, hX, hb3⟩
    have HE3 := Lib.hid (bel_step HE.out hb3)
    clear hX hb3 HE
    go_wp2_with fail
    go_ret
    exact ⟨rfl, HE3.out⟩
  have H2 := Lib.hid h2
  clear h2
  go_wp2_with fail
  refine (x_new9 (Below.refl w2.heap.size w2)).mono ?_
  rintro _ w3 ⟨P, rfl, hX, hb3⟩
  have HX3 := Lib.hid hX
  have HB3 := Lib.hid hb3
  have H3 := Lib.hid (Bt.below H2.out hb3)
  clear hX hb3 H2
  obtain ⟨-, c0, c1, -, -⟩ := H3.out
  go_wp2_with fail
  refine (new_vx HX3.out H3.out.q.brx2 1 i0).mono ?_
  rintro _ w4 ⟨V, rfl, hv, hb4⟩
  have HV := Lib.hid hv
  have HX4 := Lib.hid (HX3.out.below hb4)
  have H4 := Lib.hid (Bt.below H3.out hb4)
  clear c0 c1 hv hb4 HX3 H3 HB3
  obtain ⟨-, c0, c1, -, -⟩ := H4.out
  go_wp2_with fail
  refine (new_vx H4.out.q.brx1 HX4.out i0 1).mono ?_
  rintro _ wv ⟨Y, rfl, hv, hb5⟩
  have HY := Lib.hid hv
  have HVv := Lib.hid (HV.out.below hb5)
  have HT := Lib.hid (Bt.below H4.out hb5)
  clear c0 c1 hv hb5 HV H4 HX4
  have HBv := Lib.hid (show Below w.heap.size w wv from bel_step HB0.out HT.out.q.bel)
  have HI := Lib.hid (And.intro (Bt.good1 HT.out) (Bt.good2 HT.out))
  have HTX := Lib.hid (fun W (hb : Below wv.heap.size wv W) => Bt.below HT.out hb)
  have HVX := Lib.hid (fun W (hb : Below wv.heap.size wv W) => HVv.out.below hb)
  have HYX := Lib.hid (fun W (hb : Below wv.heap.size wv W) => HY.out.below hb)
  clear HVv HY HB0
  have HR0 := Lib.hid (Below.refl wv.heap.size wv)
  obtain ⟨u, hu⟩ : ∃ u, (U.get i0 s).1 = u := ⟨_, rfl⟩
  obtain ⟨g, hg⟩ : ∃ g, (U.get i0 s).2 = g := ⟨_, rfl⟩
  obtain ⟨l, hl⟩ : ∃ l, (L.get i0 s).1 = l := ⟨_, rfl⟩
  obtain ⟨e, he⟩ : ∃ e, (L.get i0 s).2 = e := ⟨_, rfl⟩
  obtain ⟨r1, hr1⟩ : ∃ r, rootV fresh L 1 i0 = r := ⟨_, rfl⟩
  obtain ⟨r2, hr2⟩ : ∃ r, rootV U fresh i0 1 = r := ⟨_, rfl⟩
  have HA := Lib.hid (alone_low HI.out.2 i0 s)
  have HB := Lib.hid (alone_up HI.out.1 i0 s)
  have HGU := Lib.hid (show ∀ W, Below wv.heap.size wv W → Calls Tryz.prog 31 #[Pq p.P1, .int .i64 i0, .string s] W (fun e' w' => e' = .returned (.tuple #[.int .i64 u, .int .i64 g]) ∧ Below W.heap.size W w') from fun W hb => by have := Bt.getU (HTX.out W hb) i0 s; rw [hu, hg] at this; exact this)
  have HGL := Lib.hid (show ∀ W, Below wv.heap.size wv W → Calls Tryz.prog 31 #[Pq p.P2, .int .i64 i0, .string s] W (fun e' w' => e' = .returned (.tuple #[.int .i64 l, .int .i64 e]) ∧ Below W.heap.size W w') from fun W hb => by have := Bt.getL (HTX.out W hb) i0 s; rw [hl, he] at this; exact this)
  have HR1 := Lib.hid (show ∀ W, Below wv.heap.size wv W → Calls Tryz.prog 14 #[Pq V] W (fun e' w' => e' = .returned (Nv r1) ∧ Below W.heap.size W w') from fun W hb => by have := root_any (HVX.out W hb); rw [hr1] at this; exact this)
  have HR2 := Lib.hid (show ∀ W, Below wv.heap.size wv W → Calls Tryz.prog 14 #[Pq Y] W (fun e' w' => e' = .returned (Nv r2) ∧ Below W.heap.size W w') from fun W hb => by have := root_any (HYX.out W hb); rw [hr2] at this; exact this)
  have HG1 := Lib.hid (fun W (hb : Below wv.heap.size wv W) => get_any (HVX.out W hb) r1 s)
  have HG2 := Lib.hid (fun W (hb : Below wv.heap.size wv W) => get_any (HYX.out W hb) r2 s)
  have HKU := Lib.hid (fun W (hb : Below wv.heap.size wv W) => Bt.kindU (HTX.out W hb) i0)
  have HKL := Lib.hid (fun W (hb : Below wv.heap.size wv W) => Bt.kindL (HTX.out W hb) i0)
  have HKu := Lib.hid (fun W (hb : Below wv.heap.size wv W) => Bt.kindU (HTX.out W hb) u)
  have HKl := Lib.hid (fun W (hb : Below wv.heap.size wv W) => Bt.kindL (HTX.out W hb) l)
  unfold RetW at HG1 HG2
  rw [hl, he, hr1] at HA
  rw [hu, hg, hr2] at HB
  clear hu hg hl he hr1 hr2
  generalize getV fresh L r1 s = q1 at *
  generalize getV U fresh r2 s = q2 at *
  generalize U.kindOf i0 = ku at *
  generalize L.kindOf i0 = kl at *
  generalize U.kindOf u = kx at *
  generalize L.kindOf l = ky at *
  obtain ⟨⟨x1, x2⟩, f⟩ := q1
  obtain ⟨⟨y1, y2⟩, h⟩ := q2
  dsimp only at HG1 HG2
  have hgd := guard24
  obtain ⟨-, c0, c1, -, -⟩ := HTX.out _ HR0.out
  go_wp2_with fail
  refine (HGL.out _ HR0.out).mono ?_
  rintro _ w11 ⟨rfl, hb11⟩
  have HR11 := Lib.hid (bel_step HR0.out hb11)
  clear hb11
  clear c0 c1 HGL
  go_wp2_with fail
  refine (HR1.out _ HR11.out).mono ?_
  rintro _ w12 ⟨rfl, hb12⟩
  have HR12 := Lib.hid (bel_step HR11.out hb12)
  clear hb12
  go_wp2_with fail
  refine (HG1.out _ HR12.out).mono ?_
  rintro _ w13 ⟨rfl, hb13⟩
  have HR13 := Lib.hid (bel_step HR12.out hb13)
  clear hb13
  clear HR1 HG1
  obtain ⟨w14, hw14⟩ : ∃ w14, w13.alloc (.cells #[.int .i64 x1, .int .i64 x2] 24) = w14 := ⟨_, rfl⟩
  have hb14 : Below w13.heap.size w13 w14 := by rw [← hw14]; exact bel_alloc _ _
  have HR14 := Lib.hid (bel_step HR13.out hb14)
  have HX14 := Lib.hid (show Nb w14 w13.heap.size (x1, x2) by rw [← hw14]; exact Nb.new w13 x1 x2)
  obtain ⟨gHX, hgHX⟩ : ∃ g, w13.heap.size = g := ⟨_, rfl⟩
  rw [hgHX] at HX14
  clear hb14
  obtain ⟨-, c0, c1, -, -⟩ := HTX.out _ HR14.out
  go_wp2_with fail
  refine (HKL.out _ HR14.out).mono ?_
  rintro _ w15 ⟨rfl, hb15⟩
  have HR15 := Lib.hid (bel_step HR14.out hb15)
  have HX15 := Lib.hid (HX14.out.below hb15)
  clear hb15
  clear c0 c1 HKL
  by_cases hkl : kl = 2
  · have hr := HA.out hkl
    subst hkl
    obtain ⟨-, c0, c1, -, -⟩ := HTX.out _ HR15.out
    go_wp2_with fail
    refine (HKl.out _ HR15.out).mono ?_
    rintro _ w16 ⟨rfl, hb16⟩
    have HR16 := Lib.hid (bel_step HR15.out hb16)
    have HX16 := Lib.hid (HX15.out.below hb16)
    clear hb16
    clear c0 c1
    obtain ⟨y0, y1'⟩ := HX16.out
    dsimp only at y0 y1'
    by_cases hw : ky = 4
    · subst hw
      rw [if_pos rfl] at hr
      simp only [Prod.mk.injEq] at hr
      obtain ⟨-, rfl⟩ := hr
      clear HKl HA
      obtain ⟨-, c0, c1, -, -⟩ := HTX.out _ HR16.out
      go_wp2_with fail
      refine (HGU.out _ HR16.out).mono ?_
      rintro _ w17 ⟨rfl, hb17⟩
      have HR17 := Lib.hid (bel_step HR16.out hb17)
      clear hb17
      clear c0 c1 HGU
      go_wp2_with fail
      refine (HR2.out _ HR17.out).mono ?_
      rintro _ w18 ⟨rfl, hb18⟩
      have HR18 := Lib.hid (bel_step HR17.out hb18)
      clear hb18
      go_wp2_with fail
      refine (HG2.out _ HR18.out).mono ?_
      rintro _ w19 ⟨rfl, hb19⟩
      have HR19 := Lib.hid (bel_step HR18.out hb19)
      clear hb19
      clear HR2 HG2
      obtain ⟨w20, hw20⟩ : ∃ w20, w19.alloc (.cells #[.int .i64 y1, .int .i64 y2] 24) = w20 := ⟨_, rfl⟩
      have hb20 : Below w19.heap.size w19 w20 := by rw [← hw20]; exact bel_alloc _ _
      have HR20 := Lib.hid (bel_step HR19.out hb20)
      have HZ20 := Lib.hid (show Nb w20 w19.heap.size (y1, y2) by rw [← hw20]; exact Nb.new w19 y1 y2)
      obtain ⟨gHZ, hgHZ⟩ : ∃ g, w19.heap.size = g := ⟨_, rfl⟩
      rw [hgHZ] at HZ20
      clear hb20
      obtain ⟨-, c0, c1, -, -⟩ := HTX.out _ HR20.out
      go_wp2_with fail
      refine (HKU.out _ HR20.out).mono ?_
      rintro _ w21 ⟨rfl, hb21⟩
      have HR21 := Lib.hid (bel_step HR20.out hb21)
      have HZ21 := Lib.hid (HZ20.out.below hb21)
      clear hb21
      clear c0 c1 HKU
      by_cases hku : ku = 2
      · have hr := HB.out hku
        subst hku
        clear HB
        obtain ⟨-, c0, c1, -, -⟩ := HTX.out _ HR21.out
        go_wp2_with fail
        refine (HKu.out _ HR21.out).mono ?_
        rintro _ w22 ⟨rfl, hb22⟩
        have HR22 := Lib.hid (bel_step HR21.out hb22)
        have HZ22 := Lib.hid (HZ21.out.below hb22)
        clear hb22
        clear c0 c1
        obtain ⟨z0, z1⟩ := HZ22.out
        dsimp only at z0 z1
        by_cases hw : kx = 4
        · subst hw
          rw [if_pos rfl] at hr
          simp only [Prod.mk.injEq] at hr
          obtain ⟨-, rfl⟩ := hr
          have HFE := Lib.hid (bel_step HBv.out HR22.out)
          go_wp2_with fail
          go_ret
          exact ⟨rfl, HFE.out⟩
        have qw : (kx == 4) = false := by simpa using hw
        rw [if_neg hw] at hr
        simp only [Prod.mk.injEq] at hr
        obtain ⟨⟨rfl, rfl⟩, rfl⟩ := hr
        have hq : ∀ W, (binOp .eql 24 (.agg #[.int .i64 y1, .int .i64 0]) (.agg #[.int .i64 y1, .int .i64 0])).run Tryz.prog W = .ok (.bool true) W := fun W => by rw [← decide_eq_true (show ((y1, 0) : Nd) = (y1, 0) from rfl)]; exact run_eql24 (y1, 0) (y1, 0) W
        clear hw
        have HFE := Lib.hid (bel_step HBv.out HR22.out)
        go_wp2_with fail
        go_ret
        exact ⟨rfl, HFE.out⟩
      have qu : (ku == 2) = false := by simpa using hku
      clear HB hku
      have HFE := Lib.hid (bel_step HBv.out HR21.out)
      go_wp2_with fail
      go_ret
      exact ⟨rfl, HFE.out⟩
    have qw : (ky == 4) = false := by simpa using hw
    rw [if_neg hw] at hr
    simp only [Prod.mk.injEq] at hr
    obtain ⟨⟨rfl, rfl⟩, rfl⟩ := hr
    have hq : ∀ W, (binOp .neq 24 (.agg #[.int .i64 0, .int .i64 x2]) (.agg #[.int .i64 0, .int .i64 x2])).run Tryz.prog W = .ok (.bool false) W := fun W => by rw [show (false : Bool) = !decide (((0, x2) : Nd) = (0, x2)) by simp]; exact run_neq24 (0, x2) (0, x2) W
    clear hw
    clear HKl HA
    obtain ⟨-, c0, c1, -, -⟩ := HTX.out _ HR16.out
    go_wp2_with fail
    refine (HGU.out _ HR16.out).mono ?_
    rintro _ w17 ⟨rfl, hb17⟩
    have HR17 := Lib.hid (bel_step HR16.out hb17)
    clear hb17
    clear c0 c1 HGU
    go_wp2_with fail
    refine (HR2.out _ HR17.out).mono ?_
    rintro _ w18 ⟨rfl, hb18⟩
    have HR18 := Lib.hid (bel_step HR17.out hb18)
    clear hb18
    go_wp2_with fail
    refine (HG2.out _ HR18.out).mono ?_
    rintro _ w19 ⟨rfl, hb19⟩
    have HR19 := Lib.hid (bel_step HR18.out hb19)
    clear hb19
    clear HR2 HG2
    obtain ⟨w20, hw20⟩ : ∃ w20, w19.alloc (.cells #[.int .i64 y1, .int .i64 y2] 24) = w20 := ⟨_, rfl⟩
    have hb20 : Below w19.heap.size w19 w20 := by rw [← hw20]; exact bel_alloc _ _
    have HR20 := Lib.hid (bel_step HR19.out hb20)
    have HZ20 := Lib.hid (show Nb w20 w19.heap.size (y1, y2) by rw [← hw20]; exact Nb.new w19 y1 y2)
    obtain ⟨gHZ, hgHZ⟩ : ∃ g, w19.heap.size = g := ⟨_, rfl⟩
    rw [hgHZ] at HZ20
    clear hb20
    obtain ⟨-, c0, c1, -, -⟩ := HTX.out _ HR20.out
    go_wp2_with fail
    refine (HKU.out _ HR20.out).mono ?_
    rintro _ w21 ⟨rfl, hb21⟩
    have HR21 := Lib.hid (bel_step HR20.out hb21)
    have HZ21 := Lib.hid (HZ20.out.below hb21)
    clear hb21
    clear c0 c1 HKU
    by_cases hku : ku = 2
    · have hr := HB.out hku
      subst hku
      clear HB
      obtain ⟨-, c0, c1, -, -⟩ := HTX.out _ HR21.out
      go_wp2_with fail
      refine (HKu.out _ HR21.out).mono ?_
      rintro _ w22 ⟨rfl, hb22⟩
      have HR22 := Lib.hid (bel_step HR21.out hb22)
      have HZ22 := Lib.hid (HZ21.out.below hb22)
      clear hb22
      clear c0 c1
      obtain ⟨z0, z1⟩ := HZ22.out
      dsimp only at z0 z1
      by_cases hw : kx = 4
      · subst hw
        rw [if_pos rfl] at hr
        simp only [Prod.mk.injEq] at hr
        obtain ⟨-, rfl⟩ := hr
        have HFE := Lib.hid (bel_step HBv.out HR22.out)
        go_wp2_with fail
        go_ret
        exact ⟨rfl, HFE.out⟩
      have qw : (kx == 4) = false := by simpa using hw
      rw [if_neg hw] at hr
      simp only [Prod.mk.injEq] at hr
      obtain ⟨⟨rfl, rfl⟩, rfl⟩ := hr
      have hq : ∀ W, (binOp .eql 24 (.agg #[.int .i64 y1, .int .i64 0]) (.agg #[.int .i64 y1, .int .i64 0])).run Tryz.prog W = .ok (.bool true) W := fun W => by rw [← decide_eq_true (show ((y1, 0) : Nd) = (y1, 0) from rfl)]; exact run_eql24 (y1, 0) (y1, 0) W
      clear hw
      have HFE := Lib.hid (bel_step HBv.out HR22.out)
      go_wp2_with fail
      go_ret
      exact ⟨rfl, HFE.out⟩
    have qu : (ku == 2) = false := by simpa using hku
    clear HB hku
    have HFE := Lib.hid (bel_step HBv.out HR21.out)
    go_wp2_with fail
    go_ret
    exact ⟨rfl, HFE.out⟩
  have ql : (kl == 2) = false := by simpa using hkl
  clear hkl
  clear HKl HA
  obtain ⟨-, c0, c1, -, -⟩ := HTX.out _ HR15.out
  go_wp2_with fail
  refine (HGU.out _ HR15.out).mono ?_
  rintro _ w16 ⟨rfl, hb16⟩
  have HR16 := Lib.hid (bel_step HR15.out hb16)
  clear hb16
  clear c0 c1 HGU
  go_wp2_with fail
  refine (HR2.out _ HR16.out).mono ?_
  rintro _ w17 ⟨rfl, hb17⟩
  have HR17 := Lib.hid (bel_step HR16.out hb17)
  clear hb17
  go_wp2_with fail
  refine (HG2.out _ HR17.out).mono ?_
  rintro _ w18 ⟨rfl, hb18⟩
  have HR18 := Lib.hid (bel_step HR17.out hb18)
  clear hb18
  clear HR2 HG2
  obtain ⟨w19, hw19⟩ : ∃ w19, w18.alloc (.cells #[.int .i64 y1, .int .i64 y2] 24) = w19 := ⟨_, rfl⟩
  have hb19 : Below w18.heap.size w18 w19 := by rw [← hw19]; exact bel_alloc _ _
  have HR19 := Lib.hid (bel_step HR18.out hb19)
  have HZ19 := Lib.hid (show Nb w19 w18.heap.size (y1, y2) by rw [← hw19]; exact Nb.new w18 y1 y2)
  obtain ⟨gHZ, hgHZ⟩ : ∃ g, w18.heap.size = g := ⟨_, rfl⟩
  rw [hgHZ] at HZ19
  clear hb19
  obtain ⟨-, c0, c1, -, -⟩ := HTX.out _ HR19.out
  go_wp2_with fail
  refine (HKU.out _ HR19.out).mono ?_
  rintro _ w20 ⟨rfl, hb20⟩
  have HR20 := Lib.hid (bel_step HR19.out hb20)
  have HZ20 := Lib.hid (HZ19.out.below hb20)
  clear hb20
  clear c0 c1 HKU
  by_cases hku : ku = 2
  · have hr := HB.out hku
    subst hku
    clear HB
    obtain ⟨-, c0, c1, -, -⟩ := HTX.out _ HR20.out
    go_wp2_with fail
    refine (HKu.out _ HR20.out).mono ?_
    rintro _ w21 ⟨rfl, hb21⟩
    have HR21 := Lib.hid (bel_step HR20.out hb21)
    have HZ21 := Lib.hid (HZ20.out.below hb21)
    clear hb21
    clear c0 c1
    obtain ⟨z0, z1⟩ := HZ21.out
    dsimp only at z0 z1
    by_cases hw : kx = 4
    · subst hw
      rw [if_pos rfl] at hr
      simp only [Prod.mk.injEq] at hr
      obtain ⟨-, rfl⟩ := hr
      have HFE := Lib.hid (bel_step HBv.out HR21.out)
      go_wp2_with fail
      go_ret
      exact ⟨rfl, HFE.out⟩
    have qw : (kx == 4) = false := by simpa using hw
    rw [if_neg hw] at hr
    simp only [Prod.mk.injEq] at hr
    obtain ⟨⟨rfl, rfl⟩, rfl⟩ := hr
    have hq : ∀ W, (binOp .eql 24 (.agg #[.int .i64 y1, .int .i64 0]) (.agg #[.int .i64 y1, .int .i64 0])).run Tryz.prog W = .ok (.bool true) W := fun W => by rw [← decide_eq_true (show ((y1, 0) : Nd) = (y1, 0) from rfl)]; exact run_eql24 (y1, 0) (y1, 0) W
    clear hw
    have HFE := Lib.hid (bel_step HBv.out HR21.out)
    go_wp2_with fail
    go_ret
    exact ⟨rfl, HFE.out⟩
  have qu : (ku == 2) = false := by simpa using hku
  clear HB hku
  have HFE := Lib.hid (bel_step HBv.out HR20.out)
  go_wp2_with fail
  go_ret
  exact ⟨rfl, HFE.out⟩

set_option maxRecDepth 100000 in
theorem lifted (os : Os) (started : os.Started) (H : Type) (enc : TypeId × Value → H) :
    ReturnsInHanded {} Tryz.checked os 5 .any (Rows.mergeAloneSpec.pre6 enc Tryz.prog Tryz.f5 Rows.mergeAloneRow.domain false) (Rows.mergeAloneSpec.post enc Tryz.prog Tryz.f5 false true false false) := by
  refine returnsInHanded_of_change_sized (C := Tryz.checked) own started (by kernel_rfl) Tryz.func5
    (ChangeSpec.witness6 (enc := enc) (C := Tryz.checked) false ⟨#[], #[.slice none 0 0, .int .i64 0, .string ByteArray.empty], []⟩ 8 (by kernel_rfl) (by kernel_rfl) (by kernel_rfl) (by kernel_rfl)) ?_
  intro W base args ds gs before hval0 hW hcnd hsz _
  have hval : ∀ (j : Nat) t v, Tryz.f5.params[j]? = some t → args[j]? = some v → Value.okWide Tryz.prog W .any base t v := hval0
  have hW' := hW
  obtain ⟨p, q, hA0, hV, rfl, hfz, hnd⟩ := hW
  have hA : DataW.TrodAll enc Tryz.prog W 0 (fun _ => true) true Tryz.f5.params.toList args.toList ds p := hA0
  rw [Tryz.params5] at hA hval
  obtain ⟨v0, vs0, d0, ds0, p0, q0, hargs, rfl, rfl, h0, r0⟩ := trodAll_cons hA
  obtain ⟨v1, vs1, d1, ds1, p1, q1, rfl, rfl, rfl, h1, r1⟩ := trodAll_cons r0
  obtain ⟨v2, vs2, d2, ds2, p2, q2, rfl, rfl, rfl, h2, r2⟩ := trodAll_cons r1
  obtain ⟨rfl, rfl, rfl⟩ := trodAll_nil r2
  obtain rfl : args = #[v0, v1, v2] := by cases args; simp_all
  obtain ⟨rfl, rfl⟩ := trodVars_none hV
  have hlt := fun x hx => hW'.lt x hx
  have t0 := h0
  obtain ⟨A0, n0, c0, x0, rfl, e0, s0⟩ := cb.open_acts (hval 0 22 v0 rfl rfl) h0
  obtain ⟨a1, rfl, rfl, rfl, w1⟩ := open_int Tryz.underlying3 (hval 1 3 v1 rfl rfl) h1
  obtain ⟨a2, rfl, rfl, rfl, w2⟩ := open_string Tryz.underlying9 (hval 2 9 v2 rfl rfl) h2
  have b2 : a2.size ≤ 140737488351232 := by
    have := sized_string hsz (j := 2) (t := 9) rfl rfl
    simpa [reachBytes] using this
  clear hA0 hval0
  refine (walk A0 n0 c0 x0 a1 a2 W e0 s0 b2).mono fun e W' ⟨he, hg⟩ => ?_
  subst he
  exact ⟨_, rfl, cb.law_post (pv := []) hW' (fun _ _ _ => (trodAll_cons_mk (shut_bool Tryz.underlying4 _) trodAll_mk0)) (fun sp hsp => (trodAll_cons_mk (cb.arg_stays t0 hg (by simp +contextual) hlt hsp laid) (trodAll_cons_mk (shut_int Tryz.underlying3 w1) (trodAll_cons_mk (shut_string Tryz.underlying9 w2) trodAll_mk0)))) (fun _ _ => rfl) (by simp)
    hg (ok_one (by kernel_rfl) rfl (okWide_bool_mk Tryz.underlying4 _))⟩

theorem over : Rows.mergeAloneRow.holds Tryz.pinned (OpenSpec.ofChange Rows.mergeAloneSpec) :=
  OpenClaim.holds_of_wide 5 Tryz.f5 rfl rfl rfl rfl rfl rfl rfl ⟨rfl, rfl, rfl, rfl, rfl⟩ rfl rfl rfl rfl rfl (by kernel_rfl) Tryz.func5 (by kernel_rfl)
    (of_decide_eq_true (by kernel_rfl)) (by unfold Func.isWrapper; first | (rw [if_pos (by decide +kernel)]; kernel_rfl) | (rw [if_neg (by decide +kernel)]; exact ⟨rfl, rfl⟩))
    (fun os started H enc _ => lifted os started H enc)

/-- The statement. -/
theorem proved : Rows.MergeAloneSaid :=
  over
end Go.Proofs.YtkbdmjcdhkdanaaGreat.mergeAlone
