/- For every list of calls and every two texts the law TreeMoves returns true, and what is handed in reads as it did; there are no conditions. -/
import Derived.Test.YtpmpbmjjlccbbaaGreatZ56
import Derived.Test.YtpmpbmjjlccbbaaGreatZ35
import Derived.Test.YtpmpbmjjlccbbaaGreatRows
import Derived.Deep.RegionWith
import Derived.Deep.QuietTactic
import Derived.BigQuiet
import Derived.ProofKit
import Derived.OpenShut
import Derived.ShutString
import Derived.Deep.LoopGhost
import Derived.StillTailTactics
namespace Go.Proofs.YtpmpbmjjlccbbaaGreat.treeMoves
open Go.ChangeShapes Go.WideShapes Go.ChangeAt Go.RowKit
open Go.ChangeMaps (open_string shut_string)
open Go.Proofs.YtpmpbmjjlccbbaaGreat.tr
set_option linter.unusedVariables false
set_option linter.unusedSimpArgs false

theorem own : ownKnob Tryz.prog.godebug = none := by kernel_rfl
theorem laid : laidOutB Tryz.prog = true := by kernel_rfl

open Go.Proofs.YtpmpbmjjlccbbaaGreat.br (BS Inv Ino fresh)
open Go.Proofs.YtpmpbmjjlccbbaaGreat.bl (Pq)
open Go.Proofs.YtpmpbmjjlccbbaaGreat.cb (toldS)
open Go.Proofs.YtpmpbmjjlccbbaaGreat.ds (De Tb em getV setT allT full IntsE)
open Go.Proofs.YtpmpbmjjlccbbaaGreat.wk (e0)
theorem stat_e {y : Sy} {c : Cal} {fol : Bool} (h : (doStat y c fol).e = 2) : (lead y.S c.a fol).2 = 2 := by
  unfold doStat at h
  dsimp only at h
  split at h
  · exact h
  · exact absurd h (show ¬ ((0 : Int) = 2) by decide)
set_option maxRecDepth 100000 in
set_option maxHeartbeats 8000000 in
theorem walk (A : Option Addr) (n c : Nat) (F : Nat → Cal) (a b : ByteArray) (w : World) (k1 : n ≤ c ∧ c ≤ maxLen) (hF : Cls w w.heap.size A n F) (wa : a.size ≤ maxLen) (wb : b.size ≤ maxLen) :
    Calls Tryz.prog 8 #[.slice A n c, .string a, .string b] w (AwakeE w) := by
  have hnm : n ≤ 9223372036854775807 := Nat.le_trans k1.1 k1.2
  have HA := Lib.hid hF
  have HAW := Lib.hid (awake_any w)
  unfold AwakeE at HAW
  have HEND := Lib.hid (fun W (h : Below w.heap.size w W) => (show AwakeE w (.returned (.bool true)) W from ⟨rfl, h⟩))
  have HN := Lib.hid (fun w1 (hb : Below w.heap.size w w1) => cb.x_new (w0 := w) (w := w1) 65536 (by decide) hb)
  clear k1 hF
  go_enter Tryz.func8, Tryz.ntmps8
  go_wp2_with fail
  refine HAW.out.mono ?_
  rintro e w1 ⟨rfl, hb1⟩
  have HN1 := Lib.hid (HN.out w1 hb1)
  clear hb1 HN HAW
  go_wp2_with fail
  refine HN1.out.mono ?_
  rintro e w2 ⟨B, rfl, h2, -, -⟩
  have HT2 := Lib.hid (t_new h2)
  clear h2 HN1
  go_wp2_with fail
  refine HT2.out.mono ?_
  rintro e w3 ⟨P, Q, rfl, h3, -⟩
  have H3 := Lib.hid (h3.weaken (Y := fun _ => False) fun _ h => h.elim)
  have HD3 := Lib.hid (hd_fresh 65536)
  have HL3 := Lib.hid (show Lim (⟨fresh, em⟩ : Sy).T from lim_em)
  clear h3 HT2
  have ha' : a.size ≤ 9223372036854775807 := wa
  have hb' : b.size ≤ 9223372036854775807 := wb
  by_cases hbig : wrap64 ((a.size : Int) + (b.size : Int)) > 4096
  · have HB := Lib.hid H3.out.bel
    go_wp2_with fail
    go_ret
    exact HEND.out _ HB.out
  go_wp2_with fail
  go_loopg [8] 100 (fun g s8 wr => ∃ (k : Nat) (y : Sy), g + k = 100 ∧ k ≤ n ∧ s8 = .int .i64 k ∧ Hid (SyX w wr P B Q (fun _ => False) y 65536 (3 * k)) ∧ Hid (Hd 65536 y) ∧ Hid (Lim y.T))
  case atStart => exact ⟨0, _, by omega, by omega, rfl, H3, HD3, HL3⟩
  case round =>
    clear H3 HD3 HL3
    obtain ⟨k, y, hgk, hk, rfl, HS, HD, HL⟩ := hrel
    by_cases hgo : k < n ∧ k < 100
    · obtain ⟨hkn, hk2⟩ := hgo
      obtain ⟨b, off, hA0, hbl, f0, f1, f2, f3, f4, f5, f6, sa, sb⟩ := HA.out k hkn
      subst hA0
      have HFC := Lib.hid (fun W (hb : Below w.heap.size w W) => And.intro ((hb.cell (p := ⟨b, off + k * 7, none⟩) hbl).trans f0) (And.intro ((hb.cell (p := ⟨b, off + k * 7 + 1, none⟩) hbl).trans f1) (And.intro ((hb.cell (p := ⟨b, off + k * 7 + 2, none⟩) hbl).trans f2) (And.intro ((hb.cell (p := ⟨b, off + k * 7 + 3, none⟩) hbl).trans f3) (And.intro ((hb.cell (p := ⟨b, off + k * 7 + 4, none⟩) hbl).trans f4) (And.intro ((hb.cell (p := ⟨b, off + k * 7 + 5, none⟩) hbl).trans f5) ((hb.cell (p := ⟨b, off + k * 7 + 6, none⟩) hbl).trans f6)))))))
      have HLG := Lib.hid (fun W => large_any (F k) W sa sb)
      clear f0 f1 f2 f3 f4 f5 f6 sa sb
      obtain ⟨x, hx⟩ : ∃ x, F k = x := ⟨_, rfl⟩
      rw [hx] at HFC HLG
      clear hx
      obtain ⟨xo, xf, xl, xn, xx, xa, xb⟩ := x
      unfold CVal at HLG
      dsimp only at HFC HLG
      obtain ⟨lg, hlg⟩ : ∃ lg, largeB ⟨xo, xf, xl, xn, xx, xa, xb⟩ = lg := ⟨_, rfl⟩
      rw [hlg] at HLG
      obtain ⟨f0, f1, f2, f3, f4, f5, f6⟩ := HFC.out _ HS.out.bel
      have hblr : b < wr.heap.size := Nat.lt_of_lt_of_le hbl HS.out.bel.size
      go_wp2_with fail
      refine (HLG.out _).mono ?_
      rintro e w4 ⟨rfl, hb4⟩
      have H4 := Lib.hid (HS.out.below hb4)
      clear hb4 HLG hblr f0 f1 f2 f3 f4 f5 f6
      cases lg with
      | true =>
        have HB4 := Lib.hid H4.out.bel
        go_wp2_with fail
        try rw [Exit.noGoto_ret]
        go_ret
        exact HEND.out _ HB4.out
      | false =>
        obtain ⟨ha4, hb4⟩ := large_no hlg
        have HDO := Lib.hid (Do_any H4.out (by omega) HD.out HL.out ⟨xo, xf, xl, xn, xx, xa, xb⟩ ha4 hb4)
        unfold ME CV at HDO
        dsimp only at HDO
        have hblr : b < w4.heap.size := Nat.lt_of_lt_of_le hbl H4.out.bel.size
        clear hlg
        obtain ⟨f0, f1, f2, f3, f4, f5, f6⟩ := HFC.out _ H4.out.bel
        go_wp2_with fail
        refine HDO.out.mono ?_
        rintro e w7 ⟨r, y', rfl, hd, s1, -⟩
        have HD7 := Lib.hid (does_held HD.out hd)
        have HL7 := Lib.hid (does_lim HD.out HL.out hd)
        have H7 := Lib.hid s1
        clear hd HDO hblr f0 f1 f2 f3 f4 f5 f6 s1
        go_wp2_with fail
        go_roundg (100 - (k + 1))
        case measure => omega
        case rel => exact ⟨k + 1, y', by omega, by omega, by go_num, Lib.hid (H7.out.up (by omega)), HD7, HL7⟩
    · have hk100 : k ≤ 100 := by omega
      have hways : (k < n ∧ ¬ ((k : Int) < 100)) ∨ ¬ ((k : Int) < (n : Int)) := by omega
      rcases hways with ⟨hw1, hw2⟩ | hw2
      all_goals
        clear hgo HA
        obtain ⟨X0, hX0⟩ : ∃ X0 : Nat → Prop, X0 = fun _ => False := ⟨_, rfl⟩
        rw [← hX0] at HS
        clear hX0
        have HBR := Lib.hid (t_branch HS.out)
        have HTL := Lib.hid (HS.out.asks fun _ h => cb.tell_any h)
        obtain ⟨ts, hts⟩ : ∃ ts, toldS y.S = ts := ⟨_, rfl⟩
        have HTS := Lib.hid hts
        rw [hts] at HTL
        clear hts
        go_wp2_with fail
        refine HBR.out.mono ?_
        rintro e w5 ⟨rfl, rfl⟩
        go_wp2_with fail
        refine HTL.out.mono ?_
        rintro e w5 ⟨rfl, hb5⟩
        have HS5 := Lib.hid (HS.out.below hb5)
        clear hb5 HTL HBR
        have HC1 := Lib.hid (Do_gen HS5.out (by omega) HD.out HL.out ⟨10, 0, 0, 0, 0, b, ⟨#[]⟩⟩ (by intro h; dsimp only at h; omega))
        unfold ME CV at HC1
        dsimp only at HC1
        go_wp2_with fail
        refine HC1.out.mono ?_
        rintro e u1 ⟨r1, y1, rfl, hd1, s1, s2⟩
        have HD1_ := Lib.hid (does_held HD.out hd1)
        have HL1_ := Lib.hid (does_lim HD.out HL.out hd1)
        clear HC1
        have hs := is_10 hd1 rfl
        obtain ⟨hs1, hs2⟩ := hs
        subst hs2
        have HLE := Lib.hid (fun (h : r1.e = 2) => stat_e (y := y1) (c := ⟨10, 0, 0, 0, 0, b, ⟨#[]⟩⟩) (fol := false) (by rw [← hs1]; exact h))
        dsimp only at HLE
        clear hs1 hd1
        obtain ⟨e1, n1, b1, k1, zn1, l1⟩ := r1
        unfold RVr RV
        dsimp only
        obtain ⟨z1, hz1⟩ : ∃ z : Int, (zn1 : Int) = z := ⟨_, rfl⟩
        rw [hz1]
        have HZ1 := Lib.hid hz1
        clear hz1
        go_upto_region 14 with fail
        obtain ⟨v1, G1, hv1, hG1, t1, t2, t3, t4⟩ := box_on s1 (.int .i64 e1) (.int .i64 n1) (.string b1) (.int .i64 k1) (.int .i64 z1) (.int .i64 l1)
        obtain ⟨X1, hX1⟩ : ∃ X' : Nat → Prop, X' = Ov X0 u1 v1 := ⟨_, rfl⟩
        rw [← hX1] at t1 t3 t4
        have H1_ := Lib.hid t1
        have HP1 := Lib.hid t3
        have HB1 := Lib.hid t2
        clear s1 s2 t1 t2 t3 t4 hX1
        rw [hv1, hG1]
        clear hv1 hG1
        have HC2 := Lib.hid (Do_gen H1_.out (by omega) HD1_.out HL1_.out ⟨17, 0, 0, 0, 0, a, b⟩ (by intro h; dsimp only at h; omega))
        unfold ME CV at HC2
        dsimp only at HC2
        go_wp2_with fail
        refine HC2.out.mono ?_
        rintro e u2 ⟨r2, y2, rfl, hd2, s1, s2⟩
        have HD2_ := Lib.hid (does_held HD1_.out hd2)
        have HL2_ := Lib.hid (does_lim HD1_.out HL1_.out hd2)
        clear HC2
        have HS2 := Lib.hid (is_17 hd2 rfl)
        have HER := Lib.hid (does_err HD1_.out.good hd2)
        clear hd2
        obtain ⟨e2, n2, b2, k2, zn2, l2⟩ := r2
        unfold RVr RV
        dsimp only at HER HS2 ⊢
        have hfe := fun W => field_e e2 n2 b2 k2 (zn2 : Int) l2 W
        have H2_ := Lib.hid s1
        have HB1 := Lib.hid (HB1.out.same (s2 G1 HP1.out) (s1.lt HP1.out))
        clear s1 s2
        obtain ⟨x0, x1, x2, x3, x4, x5⟩ := HB1.out.six
        by_cases he : e2 = 0
        case neg =>
          have qe : (e2 != 0) = true := by simpa using he
          have HBR := Lib.hid (t_branch H2_.out)
          have HTL := Lib.hid (H2_.out.asks fun _ h => cb.tell_any h)
          rw [(HER.out he).1, HTS.out] at HTL
          go_wp2_with fail
          refine HBR.out.mono ?_
          rintro e w9 ⟨rfl, rfl⟩
          go_wp2_with fail
          refine HTL.out.mono ?_
          rintro e w9 ⟨rfl, hb9⟩
          have HB := Lib.hid (H2_.out.below hb9).bel
          clear hb9
          go_wp2_with fail
          try rw [Exit.noGoto_ret]
          go_ret
          exact ⟨by simp, HB.out⟩
        subst he
        by_cases h1 : e1 = 2
        case neg =>
          have q1 : (e1 != 2) = true := by simpa using h1
          have HB := Lib.hid H2_.out.bel
          go_wp2_with fail
          try rw [Exit.noGoto_ret]
          go_ret
          exact HEND.out _ HB.out
        subst h1
        have HL2 := HLE.out rfl
        clear HLE HER
        have HC3 := Lib.hid (Do_gen H2_.out (by omega) HD2_.out HL2_.out ⟨17, 0, 0, 0, 0, b, a⟩ (by intro h; dsimp only at h; omega))
        unfold ME CV at HC3
        dsimp only at HC3
        go_wp2_with fail
        refine HC3.out.mono ?_
        rintro e u3 ⟨r3, y3, rfl, hd3, s1, s2⟩
        have HD3_ := Lib.hid (does_held HD2_.out hd3)
        have HL3_ := Lib.hid (does_lim HD2_.out HL2_.out hd3)
        clear HC3
        have HS3 := Lib.hid (is_17 hd3 rfl)
        clear hd3
        obtain ⟨e3, n3, b3, k3, zn3, l3⟩ := r3
        unfold RVr RV
        dsimp only at HS3 ⊢
        have hfe3 := fun W => field_e e3 n3 b3 k3 (zn3 : Int) l3 W
        have H3_ := Lib.hid s1
        have HB1 := Lib.hid (HB1.out.same (s2 G1 HP1.out) (s1.lt HP1.out))
        clear s1 s2
        by_cases h3 : e3 = 0
        case neg =>
          have q3 : (e3 != 0) = true := by simpa using h3
          have HB := Lib.hid H3_.out.bel
          go_wp2_with fail
          try rw [Exit.noGoto_ret]
          go_ret
          exact HEND.out _ HB.out
        subst h3
        have hy := moves_back HD1_.out HS2.out rfl HS3.out rfl rfl rfl HL2
        have HBR := Lib.hid (t_branch H3_.out)
        have HTL := Lib.hid (H3_.out.asks fun _ h => cb.tell_any h)
        rw [hy, HTS.out] at HTL
        go_wp2_with fail
        refine HBR.out.mono ?_
        rintro e w9 ⟨rfl, rfl⟩
        go_wp2_with fail
        refine HTL.out.mono ?_
        rintro e w9 ⟨rfl, hb9⟩
        have HB := Lib.hid (H3_.out.below hb9).bel
        clear hb9
        go_wp2_with fail
        try rw [Exit.noGoto_ret]
        go_ret
        exact ⟨by simp, HB.out⟩

set_option maxRecDepth 100000 in
theorem lifted (os : Os) (started : os.Started) (H : Type) (enc : TypeId × Value → H) :
    ReturnsInHanded {} Tryz.checked os 8 .any (Rows.treeMovesSpec.pre6 enc Tryz.prog Tryz.f8 Rows.treeMovesRow.domain false) (Rows.treeMovesSpec.post enc Tryz.prog Tryz.f8 false true false false) := by
  refine returnsInHanded_of_change (C := Tryz.checked) own started (by kernel_rfl) Tryz.func8
    (ChangeSpec.witness6 (enc := enc) (C := Tryz.checked) false ⟨#[], #[.slice none 0 0, .string ByteArray.empty, .string ByteArray.empty], []⟩ 8 (by kernel_rfl) (by kernel_rfl) (by kernel_rfl) (by kernel_rfl)) ?_
  intro W base args ds gs before hval0 hW hcnd _
  have hval : ∀ (j : Nat) t v, Tryz.f8.params[j]? = some t → args[j]? = some v → Value.okWide Tryz.prog W .any base t v := hval0
  have hW' := hW
  obtain ⟨p, q, hA0, hV, rfl, hfz, hnd⟩ := hW
  have hA : DataW.TrodAll enc Tryz.prog W 0 (fun _ => true) true Tryz.f8.params.toList args.toList ds p := hA0
  rw [Tryz.params8] at hA hval
  obtain ⟨v0, vs0, d0, ds0, p0, q0, hargs, rfl, rfl, h0, r0⟩ := trodAll_cons hA
  obtain ⟨v1, vs1, d1, ds1, p1, q1, rfl, rfl, rfl, h1, r1⟩ := trodAll_cons r0
  obtain ⟨v2, vs2, d2, ds2, p2, q2, rfl, rfl, rfl, h2, r2⟩ := trodAll_cons r1
  obtain ⟨rfl, rfl, rfl⟩ := trodAll_nil r2
  obtain rfl : args = #[v0, v1, v2] := by cases args; simp_all
  obtain ⟨rfl, rfl⟩ := trodVars_none hV
  have hlt := fun x hx => hW'.lt x hx
  have t0 := h0
  obtain ⟨A0, n0, c0, x0, rfl, e0, s0⟩ := open_calls (hval 0 22 v0 rfl rfl) h0
  obtain ⟨a1, rfl, rfl, rfl, w1⟩ := open_string Tryz.underlying9 (hval 1 9 v1 rfl rfl) h1
  obtain ⟨a2, rfl, rfl, rfl, w2⟩ := open_string Tryz.underlying9 (hval 2 9 v2 rfl rfl) h2
  clear hA0 hval0
  refine (walk A0 n0 c0 x0 a1 a2 W e0 s0 w1 w2).mono fun e W' ⟨he, hg⟩ => ?_
  subst he
  exact ⟨_, rfl, law_post (pv := []) hW' (fun _ _ _ => (trodAll_cons_mk (shut_bool Tryz.underlying4 _) trodAll_mk0)) (fun sp hsp => (trodAll_cons_mk (arg_stays t0 hg (by simp +contextual) hlt hsp laid) (trodAll_cons_mk (shut_string Tryz.underlying9 w1) (trodAll_cons_mk (shut_string Tryz.underlying9 w2) trodAll_mk0)))) (fun _ _ => rfl) (by simp)
    hg (ok_one (by kernel_rfl) rfl (okWide_bool_mk Tryz.underlying4 _))⟩

theorem over : Rows.treeMovesRow.holds Tryz.pinned (OpenSpec.ofChange Rows.treeMovesSpec) :=
  OpenClaim.holds_of_wide 8 Tryz.f8 rfl rfl rfl rfl rfl rfl rfl ⟨rfl, rfl, rfl, rfl, rfl⟩ rfl rfl rfl rfl rfl (by kernel_rfl) Tryz.func8 (by kernel_rfl)
    (of_decide_eq_true (by kernel_rfl)) (by unfold Func.isWrapper; first | (rw [if_pos (by decide +kernel)]; kernel_rfl) | (rw [if_neg (by decide +kernel)]; exact ⟨rfl, rfl⟩))
    (fun os started H enc _ => lifted os started H enc)

/-- The statement. -/
theorem proved : Rows.TreeMovesSaid :=
  over
end Go.Proofs.YtpmpbmjjlccbbaaGreat.treeMoves
