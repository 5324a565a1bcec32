/- For every list of calls, every descriptor, place, origin and number the law TreeSeeks returns true, and what is handed in reads as it did; there are no conditions. -/
import Derived.Test.YtpmpbmjjlccbbaaGreatZ56
import Derived.Test.YtpmpbmjjlccbbaaGreatZ54
import Derived.Test.YtpmpbmjjlccbbaaGreatRows
import Derived.Deep.RegionWith
import Derived.Deep.QuietTactic
import Derived.BigQuiet
import Derived.ProofKit
import Derived.OpenShut
import Derived.ShutString
import Derived.Deep.LoopGhost
import Derived.StillTailTactics
namespace Go.Proofs.YtpmpbmjjlccbbaaGreat.treeSeeks
open Go.ChangeShapes Go.WideShapes Go.ChangeAt Go.RowKit
open Go.ChangeMaps (open_string shut_string)
open Go.Proofs.YtpmpbmjjlccbbaaGreat.tr
set_option linter.unusedVariables false
set_option linter.unusedSimpArgs false

theorem own : ownKnob Tryz.prog.godebug = none := by kernel_rfl
theorem laid : laidOutB Tryz.prog = true := by kernel_rfl

open Go.Proofs.YtpmpbmjjlccbbaaGreat.br (BS Inv Ino fresh)
open Go.Proofs.YtpmpbmjjlccbbaaGreat.bl (Pq)
open Go.Proofs.YtpmpbmjjlccbbaaGreat.cb (toldS)
open Go.Proofs.YtpmpbmjjlccbbaaGreat.ds (De Tb em getV setT allT full IntsE)
open Go.Proofs.YtpmpbmjjlccbbaaGreat.wk (e0)
set_option maxRecDepth 100000 in
set_option maxHeartbeats 8000000 in
theorem walk (A : Option Addr) (n c : Nat) (F : Nat → Cal) (fd off flag sn : Int) (w : World) (k1 : n ≤ c ∧ c ≤ maxLen) (hF : Cls w w.heap.size A n F) :
    Calls Tryz.prog 7 #[.slice A n c, .int .i64 fd, .int .i64 off, .int .i64 flag, .int .i64 sn] w (AwakeE w) := by
  have hnm : n ≤ 9223372036854775807 := Nat.le_trans k1.1 k1.2
  have HA := Lib.hid hF
  have HAW := Lib.hid (awake_any w)
  unfold AwakeE at HAW
  have HEND := Lib.hid (fun W (h : Below w.heap.size w W) => (show AwakeE w (.returned (.bool true)) W from ⟨rfl, h⟩))
  have HN := Lib.hid (fun w1 (hb : Below w.heap.size w w1) => cb.x_new (w0 := w) (w := w1) 65536 (by decide) hb)
  clear k1 hF
  go_enter Tryz.func7, Tryz.ntmps7
  go_wp2_with fail
  refine HAW.out.mono ?_
  rintro e w1 ⟨rfl, hb1⟩
  have HN1 := Lib.hid (HN.out w1 hb1)
  clear hb1 HN HAW
  go_wp2_with fail
  refine HN1.out.mono ?_
  rintro e w2 ⟨B, rfl, h2, -, -⟩
  have HT2 := Lib.hid (t_new h2)
  clear h2 HN1
  go_wp2_with fail
  refine HT2.out.mono ?_
  rintro e w3 ⟨P, Q, rfl, h3, -⟩
  have H3 := Lib.hid (h3.weaken (Y := fun _ => False) fun _ h => h.elim)
  have HD3 := Lib.hid (hd_fresh 65536)
  have HL3 := Lib.hid (show Lim (⟨fresh, em⟩ : Sy).T from lim_em)
  clear h3 HT2
  go_wp2_with fail
  go_loopg [12] 100 (fun g s12 wr => ∃ (k : Nat) (y : Sy), g + k = 100 ∧ k ≤ n ∧ s12 = .int .i64 k ∧ Hid (SyX w wr P B Q (fun _ => False) y 65536 (3 * k)) ∧ Hid (Hd 65536 y) ∧ Hid (Lim y.T))
  case atStart => exact ⟨0, _, by omega, by omega, rfl, H3, HD3, HL3⟩
  case round =>
    clear H3 HD3 HL3
    obtain ⟨k, y, hgk, hk, rfl, HS, HD, HL⟩ := hrel
    by_cases hgo : k < n ∧ k < 100
    · obtain ⟨hkn, hk2⟩ := hgo
      obtain ⟨b, off, hA0, hbl, f0, f1, f2, f3, f4, f5, f6, sa, sb⟩ := HA.out k hkn
      subst hA0
      have HFC := Lib.hid (fun W (hb : Below w.heap.size w W) => And.intro ((hb.cell (p := ⟨b, off + k * 7, none⟩) hbl).trans f0) (And.intro ((hb.cell (p := ⟨b, off + k * 7 + 1, none⟩) hbl).trans f1) (And.intro ((hb.cell (p := ⟨b, off + k * 7 + 2, none⟩) hbl).trans f2) (And.intro ((hb.cell (p := ⟨b, off + k * 7 + 3, none⟩) hbl).trans f3) (And.intro ((hb.cell (p := ⟨b, off + k * 7 + 4, none⟩) hbl).trans f4) (And.intro ((hb.cell (p := ⟨b, off + k * 7 + 5, none⟩) hbl).trans f5) ((hb.cell (p := ⟨b, off + k * 7 + 6, none⟩) hbl).trans f6)))))))
      have HLG := Lib.hid (fun W => large_any (F k) W sa sb)
      clear f0 f1 f2 f3 f4 f5 f6 sa sb
      obtain ⟨x, hx⟩ : ∃ x, F k = x := ⟨_, rfl⟩
      rw [hx] at HFC HLG
      clear hx
      obtain ⟨xo, xf, xl, xn, xx, xa, xb⟩ := x
      unfold CVal at HLG
      dsimp only at HFC HLG
      obtain ⟨lg, hlg⟩ : ∃ lg, largeB ⟨xo, xf, xl, xn, xx, xa, xb⟩ = lg := ⟨_, rfl⟩
      rw [hlg] at HLG
      obtain ⟨f0, f1, f2, f3, f4, f5, f6⟩ := HFC.out _ HS.out.bel
      have hblr : b < wr.heap.size := Nat.lt_of_lt_of_le hbl HS.out.bel.size
      go_wp2_with fail
      refine (HLG.out _).mono ?_
      rintro e w4 ⟨rfl, hb4⟩
      have H4 := Lib.hid (HS.out.below hb4)
      clear hb4 HLG hblr f0 f1 f2 f3 f4 f5 f6
      cases lg with
      | true =>
        have HB4 := Lib.hid H4.out.bel
        go_wp2_with fail
        try rw [Exit.noGoto_ret]
        go_ret
        exact HEND.out _ HB4.out
      | false =>
        obtain ⟨ha4, hb4⟩ := large_no hlg
        have HDO := Lib.hid (Do_any H4.out (by omega) HD.out HL.out ⟨xo, xf, xl, xn, xx, xa, xb⟩ ha4 hb4)
        unfold ME CV at HDO
        dsimp only at HDO
        have hblr : b < w4.heap.size := Nat.lt_of_lt_of_le hbl H4.out.bel.size
        clear hlg
        obtain ⟨f0, f1, f2, f3, f4, f5, f6⟩ := HFC.out _ H4.out.bel
        go_wp2_with fail
        refine HDO.out.mono ?_
        rintro e w7 ⟨r, y', rfl, hd, s1, -⟩
        have HD7 := Lib.hid (does_held HD.out hd)
        have HL7 := Lib.hid (does_lim HD.out HL.out hd)
        have H7 := Lib.hid s1
        clear hd HDO hblr f0 f1 f2 f3 f4 f5 f6 s1
        go_wp2_with fail
        go_roundg (100 - (k + 1))
        case measure => omega
        case rel => exact ⟨k + 1, y', by omega, by omega, by go_num, Lib.hid (H7.out.up (by omega)), HD7, HL7⟩
    · have hk100 : k ≤ 100 := by omega
      have hways : (k < n ∧ ¬ ((k : Int) < 100)) ∨ ¬ ((k : Int) < (n : Int)) := by omega
      rcases hways with ⟨hw1, hw2⟩ | hw2
      all_goals
        clear hgo HA
        obtain ⟨X0, hX0⟩ : ∃ X0 : Nat → Prop, X0 = fun _ => False := ⟨_, rfl⟩
        rw [← hX0] at HS
        clear hX0
        have HST := Lib.hid (seek_tells HD.out HL.out fd off flag sn)
        unfold e0 at HST
        have HC1 := Lib.hid (Do_gen HS.out (by omega) HD.out HL.out ⟨7, fd, flag, 0, off, ⟨#[]⟩, ⟨#[]⟩⟩ (by intro h; dsimp only at h; omega))
        unfold ME CV at HC1
        dsimp only at HC1
        go_wp2_with fail
        refine HC1.out.mono ?_
        rintro e u1 ⟨r1, y1, rfl, hd1, s1, s2⟩
        have HD1_ := Lib.hid (does_held HD.out hd1)
        have HL1_ := Lib.hid (does_lim HD.out HL.out hd1)
        clear HC1
        have hs := is_7 hd1 rfl
        rw [← hs] at HST
        dsimp only at HST
        clear hs hd1
        obtain ⟨e1, n1, b1, k1, zn1, l1⟩ := r1
        unfold RVr RV
        dsimp only
        obtain ⟨z1, hz1⟩ : ∃ z : Int, (zn1 : Int) = z := ⟨_, rfl⟩
        rw [hz1]
        have HZ1 := Lib.hid hz1
        clear hz1
        go_upto_region 13 with fail
        obtain ⟨v1, G1, hv1, hG1, t1, t2, t3, t4⟩ := box_on s1 (.int .i64 e1) (.int .i64 n1) (.string b1) (.int .i64 k1) (.int .i64 z1) (.int .i64 l1)
        obtain ⟨X1, hX1⟩ : ∃ X' : Nat → Prop, X' = Ov X0 u1 v1 := ⟨_, rfl⟩
        rw [← hX1] at t1 t3 t4
        have H1_ := Lib.hid t1
        have HP1 := Lib.hid t3
        have HB1 := Lib.hid t2
        clear s1 s2 t1 t2 t3 t4 hX1
        rw [hv1, hG1]
        clear hv1 hG1
        obtain ⟨x0, x1, x2, x3, x4, x5⟩ := HB1.out.six
        by_cases he : e1 = 0
        case neg =>
          have hB := H1_.out.bel
          rcases HST.out.1 he with h | h
          · subst h
            go_wp2_with fail
            try rw [Exit.noGoto_ret]
            go_ret
            exact HEND.out _ hB
          · subst h
            go_wp2_with fail
            try rw [Exit.noGoto_ret]
            go_ret
            exact HEND.out _ hB
        subst he
        obtain ⟨⟨hr0, hr1⟩, hr2, qq, hp, hq, hq0, hq1, hx⟩ := HST.out.2 rfl
        dsimp only at hr0 hr1 hr2 hp hq hq0 hq1 hx
        clear HST
        have HHP := Lib.hid hp
        have HHQ := Lib.hid hq
        have HHX := Lib.hid hx
        have hr3 : ¬ (n1 < 0) := by omega
        have hr4 : ¬ (n1 > 1099511627776) := by omega
        clear hp hq hx
        have hfl : (flag = 0 ∧ n1 = off) ∨ (flag == 0) = false := by
          by_cases h : flag = 0
          · exact .inl ⟨h, hr2 h⟩
          · exact .inr (by simpa using h)
        clear hr2
        rcases hfl with ⟨hfl, hno⟩ | hfl
        all_goals
          first | (subst hfl; subst hno) | skip
          have HC2 := Lib.hid (Do_gen H1_.out (by omega) HD1_.out HL1_.out ⟨5, fd, 0, sn, n1, ⟨#[]⟩, ⟨#[]⟩⟩ (by intro h; dsimp only at h; omega))
          unfold ME CV at HC2
          dsimp only at HC2
          go_wp2_with fail
          refine HC2.out.mono ?_
          rintro e u2 ⟨r2, y2, rfl, hd2, s1, s2⟩
          have HD2_ := Lib.hid (does_held HD1_.out hd2)
          have HL2_ := Lib.hid (does_lim HD1_.out HL1_.out hd2)
          clear HC2
          have hs := is_5 hd2 rfl
          try unfold e0 at HHP
          rw [HHP.out] at hs
          injection hs with hs1 hs2
          subst hs1 hs2
          clear hd2
          obtain ⟨e2, n2, b2, k2, zn2, l2⟩ := r2
          unfold RVr RV
          dsimp only
          obtain ⟨z2, hz2⟩ : ∃ z : Int, (zn2 : Int) = z := ⟨_, rfl⟩
          rw [hz2]
          have HZ2 := Lib.hid hz2
          clear hz2
          go_upto_region 18 with fail
          obtain ⟨v2, G2, hv2, hG2, t1, t2, t3, t4⟩ := box_on s1 (.int .i64 e2) (.int .i64 n2) (.string b2) (.int .i64 k2) (.int .i64 z2) (.int .i64 l2)
          obtain ⟨X2, hX2⟩ : ∃ X' : Nat → Prop, X' = Ov X1 u2 v2 := ⟨_, rfl⟩
          rw [← hX2] at t1 t3 t4
          have H2_ := Lib.hid t1
          have HP2 := Lib.hid t3
          have HB2 := Lib.hid t2
          have HB1 := Lib.hid (HB1.out.same ((t4 G1 HP1.out).2.trans (s2 G1 HP1.out)) (t1.lt (t4 G1 HP1.out).1))
          have HP1 := Lib.hid (t4 G1 HP1.out).1
          clear s1 s2 t1 t2 t3 t4 hX2
          rw [hv2, hG2]
          clear hv2 hG2
          dsimp only at hq0 hq1
          clear x0 x1 x2 x3 x4 x5
          have HC3 := Lib.hid (Do_gen H2_.out (by omega) HD2_.out HL2_.out ⟨3, fd, 0, sn, 0, ⟨#[]⟩, ⟨#[]⟩⟩ (by intro h; dsimp only at h; omega))
          unfold ME CV at HC3
          dsimp only at HC3
          go_wp2_with fail
          refine HC3.out.mono ?_
          rintro e u3 ⟨r3, y3, rfl, hd3, s1, s2⟩
          have HD3_ := Lib.hid (does_held HD2_.out hd3)
          have HL3_ := Lib.hid (does_lim HD2_.out HL2_.out hd3)
          clear HC3
          have hs := is_3 hd3 rfl
          try unfold e0 at HHQ
          try unfold e0 at HHX
          rw [← hs] at HHQ HHX
          dsimp only at HHQ HHX
          have h3 := HHQ.out
          subst h3
          clear hd3 hs HHQ
          unfold RVr RV
          dsimp only
          rw [HZ2.out]
          go_upto_region 19 with fail
          obtain ⟨v3, G3, hv3, hG3, t1, t2, t3, t4⟩ := box_on s1 (.int .i64 e2) (.int .i64 n2) (.string b2) (.int .i64 k2) (.int .i64 z2) (.int .i64 l2)
          obtain ⟨X3, hX3⟩ : ∃ X' : Nat → Prop, X' = Ov X2 u3 v3 := ⟨_, rfl⟩
          rw [← hX3] at t1 t3 t4
          have H3_ := Lib.hid t1
          have HP3 := Lib.hid t3
          have HB3 := Lib.hid t2
          have HB1 := Lib.hid (HB1.out.same ((t4 G1 HP1.out).2.trans (s2 G1 HP1.out)) (t1.lt (t4 G1 HP1.out).1))
          have HP1 := Lib.hid (t4 G1 HP1.out).1
          have HB2 := Lib.hid (HB2.out.same ((t4 G2 HP2.out).2.trans (s2 G2 HP2.out)) (t1.lt (t4 G2 HP2.out).1))
          have HP2 := Lib.hid (t4 G2 HP2.out).1
          clear s1 s2 t1 t2 t3 t4 hX3
          rw [hv3, hG3]
          clear hv3 hG3
          obtain ⟨x0, x1, x2, x3, x4, x5⟩ := HB1.out.six
          obtain ⟨p0, p1, p2, p3, p4, p5⟩ := HB2.out.six
          obtain ⟨q0, q1, q2, q3, q4, q5⟩ := HB3.out.six
          have hne := neq39 e2 n2 b2 k2 z2 l2
          have hgu := guard39
          have HC4 := Lib.hid (Do_gen H3_.out (by omega) HD3_.out HL3_.out ⟨7, fd, 1, 0, 0, ⟨#[]⟩, ⟨#[]⟩⟩ (by intro h; dsimp only at h; omega))
          unfold ME CV at HC4
          dsimp only at HC4
          go_wp2_with fail
          refine HC4.out.mono ?_
          rintro e u4 ⟨r4, y4, rfl, hd4, s1, s2⟩
          have HD4_ := Lib.hid (does_held HD3_.out hd4)
          have HL4_ := Lib.hid (does_lim HD3_.out HL3_.out hd4)
          clear HC4
          have hs := is_7 hd4 rfl
          rw [← hs] at HHX
          dsimp only at HHX
          have h4 := HHX.out
          subst h4
          clear hd4 hs HHX
          unfold RVr RV
          dsimp only
          go_upto_region 22 with fail
          obtain ⟨v4, G4, hv4, hG4, t1, t2, t3, t4⟩ := box_on s1 (.int .i64 0) (.int .i64 (n1 + n2)) (.string ⟨#[]⟩) (.int .i64 0) (.int .i64 0) (.int .i64 0)
          obtain ⟨X4, hX4⟩ : ∃ X' : Nat → Prop, X' = Ov X3 u4 v4 := ⟨_, rfl⟩
          rw [← hX4] at t1 t3 t4
          have H4_ := Lib.hid t1
          have HP4 := Lib.hid t3
          have HB4 := Lib.hid t2
          have HB1 := Lib.hid (HB1.out.same ((t4 G1 HP1.out).2.trans (s2 G1 HP1.out)) (t1.lt (t4 G1 HP1.out).1))
          have HP1 := Lib.hid (t4 G1 HP1.out).1
          have HB2 := Lib.hid (HB2.out.same ((t4 G2 HP2.out).2.trans (s2 G2 HP2.out)) (t1.lt (t4 G2 HP2.out).1))
          have HP2 := Lib.hid (t4 G2 HP2.out).1
          have HB3 := Lib.hid (HB3.out.same ((t4 G3 HP3.out).2.trans (s2 G3 HP3.out)) (t1.lt (t4 G3 HP3.out).1))
          have HP3 := Lib.hid (t4 G3 HP3.out).1
          clear s1 s2 t1 t2 t3 t4 hX4
          rw [hv4, hG4]
          clear hv4 hG4
          clear x0 x1 x2 x3 x4 x5 p0 p1 p2 p3 p4 p5 q0 q1 q2 q3 q4 q5 hne hgu
          obtain ⟨x0, x1, x2, x3, x4, x5⟩ := HB1.out.six
          obtain ⟨q0, q1, q2, q3, q4, q5⟩ := HB3.out.six
          obtain ⟨p0, p1, p2, p3, p4, p5⟩ := HB4.out.six
          have hB := H4_.out.bel
          go_wp2_with fail
          try rw [Exit.noGoto_ret]
          go_ret
          exact HEND.out _ hB

set_option maxRecDepth 100000 in
theorem lifted (os : Os) (started : os.Started) (H : Type) (enc : TypeId × Value → H) :
    ReturnsInHanded {} Tryz.checked os 7 .any (Rows.treeSeeksSpec.pre6 enc Tryz.prog Tryz.f7 Rows.treeSeeksRow.domain false) (Rows.treeSeeksSpec.post enc Tryz.prog Tryz.f7 false true false false) := by
  refine returnsInHanded_of_change (C := Tryz.checked) own started (by kernel_rfl) Tryz.func7
    (ChangeSpec.witness6 (enc := enc) (C := Tryz.checked) false ⟨#[], #[.slice none 0 0, .int .i64 0, .int .i64 0, .int .i64 0, .int .i64 0], []⟩ 8 (by kernel_rfl) (by kernel_rfl) (by kernel_rfl) (by kernel_rfl)) ?_
  intro W base args ds gs before hval0 hW hcnd _
  have hval : ∀ (j : Nat) t v, Tryz.f7.params[j]? = some t → args[j]? = some v → Value.okWide Tryz.prog W .any base t v := hval0
  have hW' := hW
  obtain ⟨p, q, hA0, hV, rfl, hfz, hnd⟩ := hW
  have hA : DataW.TrodAll enc Tryz.prog W 0 (fun _ => true) true Tryz.f7.params.toList args.toList ds p := hA0
  rw [Tryz.params7] at hA hval
  obtain ⟨v0, vs0, d0, ds0, p0, q0, hargs, rfl, rfl, h0, r0⟩ := trodAll_cons hA
  obtain ⟨v1, vs1, d1, ds1, p1, q1, rfl, rfl, rfl, h1, r1⟩ := trodAll_cons r0
  obtain ⟨v2, vs2, d2, ds2, p2, q2, rfl, rfl, rfl, h2, r2⟩ := trodAll_cons r1
  obtain ⟨v3, vs3, d3, ds3, p3, q3, rfl, rfl, rfl, h3, r3⟩ := trodAll_cons r2
  obtain ⟨v4, vs4, d4, ds4, p4, q4, rfl, rfl, rfl, h4, r4⟩ := trodAll_cons r3
  obtain ⟨rfl, rfl, rfl⟩ := trodAll_nil r4
  obtain rfl : args = #[v0, v1, v2, v3, v4] := by cases args; simp_all
  obtain ⟨rfl, rfl⟩ := trodVars_none hV
  have hlt := fun x hx => hW'.lt x hx
  have t0 := h0
  obtain ⟨A0, n0, c0, x0, rfl, e0, s0⟩ := open_calls (hval 0 22 v0 rfl rfl) h0
  obtain ⟨a1, rfl, rfl, rfl, w1⟩ := open_int Tryz.underlying3 (hval 1 3 v1 rfl rfl) h1
  obtain ⟨a2, rfl, rfl, rfl, w2⟩ := open_int Tryz.underlying2 (hval 2 2 v2 rfl rfl) h2
  obtain ⟨a3, rfl, rfl, rfl, w3⟩ := open_int Tryz.underlying3 (hval 3 3 v3 rfl rfl) h3
  obtain ⟨a4, rfl, rfl, rfl, w4⟩ := open_int Tryz.underlying2 (hval 4 2 v4 rfl rfl) h4
  clear hA0 hval0
  refine (walk A0 n0 c0 x0 a1 a2 a3 a4 W e0 s0).mono fun e W' ⟨he, hg⟩ => ?_
  subst he
  exact ⟨_, rfl, law_post (pv := []) hW' (fun _ _ _ => (trodAll_cons_mk (shut_bool Tryz.underlying4 _) trodAll_mk0)) (fun sp hsp => (trodAll_cons_mk (arg_stays t0 hg (by simp +contextual) hlt hsp laid) (trodAll_cons_mk (shut_int Tryz.underlying3 w1) (trodAll_cons_mk (shut_int Tryz.underlying2 w2) (trodAll_cons_mk (shut_int Tryz.underlying3 w3) (trodAll_cons_mk (shut_int Tryz.underlying2 w4) trodAll_mk0)))))) (fun _ _ => rfl) (by simp)
    hg (ok_one (by kernel_rfl) rfl (okWide_bool_mk Tryz.underlying4 _))⟩

theorem over : Rows.treeSeeksRow.holds Tryz.pinned (OpenSpec.ofChange Rows.treeSeeksSpec) :=
  OpenClaim.holds_of_wide 7 Tryz.f7 rfl rfl rfl rfl rfl rfl rfl ⟨rfl, rfl, rfl, rfl, rfl⟩ rfl rfl rfl rfl rfl (by kernel_rfl) Tryz.func7 (by kernel_rfl)
    (of_decide_eq_true (by kernel_rfl)) (by unfold Func.isWrapper; first | (rw [if_pos (by decide +kernel)]; kernel_rfl) | (rw [if_neg (by decide +kernel)]; exact ⟨rfl, rfl⟩))
    (fun os started H enc _ => lifted os started H enc)

/-- The statement. -/
theorem proved : Rows.TreeSeeksSaid :=
  over
end Go.Proofs.YtpmpbmjjlccbbaaGreat.treeSeeks
