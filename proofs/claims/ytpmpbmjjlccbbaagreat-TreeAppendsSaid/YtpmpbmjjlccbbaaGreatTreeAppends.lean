/- For every list of calls and every three texts the law TreeAppends returns true, and what is handed in reads as it did. -/
import Derived.Test.YtpmpbmjjlccbbaaGreatZ53
import Derived.Test.YtpmpbmjjlccbbaaGreatZ38
import Derived.Test.YtpmpbmjjlccbbaaGreatTv
import Derived.Test.YtpmpbmjjlccbbaaGreatRows
import Derived.Deep.RegionWith
import Derived.Deep.QuietTactic
import Derived.BigQuiet
import Derived.ProofKit
import Derived.OpenShut
import Derived.ShutString
import Derived.Deep.LoopGhost
import Derived.StillTailTactics
namespace Go.Proofs.YtpmpbmjjlccbbaaGreat.treeAppends
open Go.ChangeShapes Go.WideShapes Go.ChangeAt Go.RowKit
open Go.ChangeMaps (open_string shut_string)
open Go.Proofs.YtpmpbmjjlccbbaaGreat.tr
set_option linter.unusedVariables false
set_option linter.unusedSimpArgs false

theorem own : ownKnob Tryz.prog.godebug = none := by kernel_rfl
theorem laid : laidOutB Tryz.prog = true := by kernel_rfl

open Go.Proofs.YtpmpbmjjlccbbaaGreat.br (BS Inv Ino fresh)
open Go.Proofs.YtpmpbmjjlccbbaaGreat.bl (Pq)
open Go.Proofs.YtpmpbmjjlccbbaaGreat.ds (De Tb em getV setT allT full IntsE)
open Go.Proofs.YtpmpbmjjlccbbaaGreat.wk (e0)
/-- What a write at the end leaves. -/
theorem wrote_end {y y' : Sy} {fd : Int} {bs : List UInt8} {r : Res} {x : ByteArray} (h : Apd y fd bs) (hu : y.S.used ≤ 61000) (hw : DoWrite 65536 y ⟨4, fd, 0, 0, 0, x, e0⟩ false r y') :
    ∃ b2, Apd y' fd b2 ∧ (r.e = 27 ∨ (r.e = 0 ∧ ∃ p : Nat, p ≤ x.size ∧ r.n = (p : Int) ∧ b2 = bs ++ x.data.toList.take p)) := by
  rcases apd_write h hu hw with ⟨h1, h2⟩ | ⟨h1, p, h2, h3, h4⟩
  · subst h2; exact ⟨bs, h, .inl h1⟩
  · exact ⟨_, h4, .inr ⟨h1, p, h2, h3, rfl⟩⟩
set_option maxRecDepth 100000 in
set_option maxHeartbeats 8000000 in
theorem walk (A : Option Addr) (n c : Nat) (F : Nat → Cal) (ta tx ty : ByteArray) (w : World) (k1 : n ≤ c ∧ c ≤ maxLen) (hF : Cls w w.heap.size A n F) (wta : ta.size ≤ 140737488351232) (wtx : tx.size ≤ 140737488351232) (wty : ty.size ≤ 140737488351232) :
    Calls Tryz.prog 10 #[.slice A n c, .string ta, .string tx, .string ty] w (AwakeE w) := by
  have hnm : n ≤ 9223372036854775807 := Nat.le_trans k1.1 k1.2
  have HA := Lib.hid hF
  have HAW := Lib.hid (awake_any w)
  unfold AwakeE at HAW
  have HEND := Lib.hid (fun W (h : Below w.heap.size w W) => (show AwakeE w (.returned (.bool true)) W from ⟨rfl, h⟩))
  have HN := Lib.hid (fun w1 (hb : Below w.heap.size w w1) => cb.x_new (w0 := w) (w := w1) 65536 (by decide) hb)
  clear k1 hF
  go_enter Tryz.func10, Tryz.ntmps10
  go_wp2_with fail
  refine HAW.out.mono ?_
  rintro e w1 ⟨rfl, hb1⟩
  have HN1 := Lib.hid (HN.out w1 hb1)
  clear hb1 HN HAW
  go_wp2_with fail
  refine HN1.out.mono ?_
  rintro e w2 ⟨B, rfl, h2, -, -⟩
  have HT2 := Lib.hid (t_new h2)
  clear h2 HN1
  go_wp2_with fail
  refine HT2.out.mono ?_
  rintro e w3 ⟨P, Q, rfl, h3, -⟩
  have H3 := Lib.hid (h3.weaken (Y := fun _ => False) fun _ h => h.elim)
  have HD3 := Lib.hid (hd_fresh 65536)
  have HL3 := Lib.hid (show Lim (⟨fresh, em⟩ : Sy).T from lim_em)
  clear h3 HT2
  by_cases hbig : 4096 < ta.size + tx.size + ty.size
  · have hbig2 : (4096 : Int) < (ta.size : Int) + (tx.size : Int) + (ty.size : Int) := by omega
    have HB := Lib.hid H3.out.bel
    go_wp2_with fail
    go_ret
    exact HEND.out _ HB.out
  have hbig2 : ¬ (4096 : Int) < (ta.size : Int) + (tx.size : Int) + (ty.size : Int) := by omega
  go_wp2_with fail
  go_loopg [10] 100 (fun g s10 wr => ∃ (k : Nat) (y : Sy), g + k = 100 ∧ k ≤ n ∧ s10 = .int .i64 k ∧ Hid (SyX w wr P B Q (fun _ => False) y 65536 (3 * k)) ∧ Hid (Hd 65536 y) ∧ Hid (Lim y.T) ∧ Hid (y.S.used ≤ 258 * k))
  case atStart => exact ⟨0, _, by omega, by omega, rfl, H3, HD3, HL3, Lib.hid (Nat.zero_le _)⟩
  case round =>
    clear H3 HD3 HL3
    obtain ⟨k, y, hgk, hk, rfl, HS, HD, HL, HU⟩ := hrel
    by_cases hgo : k < n ∧ k < 100
    · obtain ⟨hkn, hk2⟩ := hgo
      obtain ⟨b, off, hA0, hbl, f0, f1, f2, f3, f4, f5, f6, sa, sb⟩ := HA.out k hkn
      subst hA0
      have HFC := Lib.hid (fun W (hb : Below w.heap.size w W) => And.intro ((hb.cell (p := ⟨b, off + k * 7, none⟩) hbl).trans f0) (And.intro ((hb.cell (p := ⟨b, off + k * 7 + 1, none⟩) hbl).trans f1) (And.intro ((hb.cell (p := ⟨b, off + k * 7 + 2, none⟩) hbl).trans f2) (And.intro ((hb.cell (p := ⟨b, off + k * 7 + 3, none⟩) hbl).trans f3) (And.intro ((hb.cell (p := ⟨b, off + k * 7 + 4, none⟩) hbl).trans f4) (And.intro ((hb.cell (p := ⟨b, off + k * 7 + 5, none⟩) hbl).trans f5) ((hb.cell (p := ⟨b, off + k * 7 + 6, none⟩) hbl).trans f6)))))))
      have HLG := Lib.hid (fun W => large_any (F k) W sa sb)
      clear f0 f1 f2 f3 f4 f5 f6 sa sb
      obtain ⟨x, hx⟩ : ∃ x, F k = x := ⟨_, rfl⟩
      rw [hx] at HFC HLG
      clear hx
      obtain ⟨xo, xf, xl, xn, xx, xa, xb⟩ := x
      unfold CVal at HLG
      dsimp only at HFC HLG
      obtain ⟨lg, hlg⟩ : ∃ lg, largeB ⟨xo, xf, xl, xn, xx, xa, xb⟩ = lg := ⟨_, rfl⟩
      rw [hlg] at HLG
      obtain ⟨f0, f1, f2, f3, f4, f5, f6⟩ := HFC.out _ HS.out.bel
      have hblr : b < wr.heap.size := Nat.lt_of_lt_of_le hbl HS.out.bel.size
      go_wp2_with fail
      refine (HLG.out _).mono ?_
      rintro e w4 ⟨rfl, hb4⟩
      have H4 := Lib.hid (HS.out.below hb4)
      clear hb4 HLG hblr f0 f1 f2 f3 f4 f5 f6
      cases lg with
      | true =>
        have HB4 := Lib.hid H4.out.bel
        go_wp2_with fail
        try rw [Exit.noGoto_ret]
        go_ret
        exact HEND.out _ HB4.out
      | false =>
        obtain ⟨ha4, hb4⟩ := large_no hlg
        have HDO := Lib.hid (Do_any H4.out (by omega) HD.out HL.out ⟨xo, xf, xl, xn, xx, xa, xb⟩ ha4 hb4)
        unfold ME CV at HDO
        dsimp only at HDO
        have hblr : b < w4.heap.size := Nat.lt_of_lt_of_le hbl H4.out.bel.size
        clear hlg
        obtain ⟨f0, f1, f2, f3, f4, f5, f6⟩ := HFC.out _ H4.out.bel
        go_wp2_with fail
        refine HDO.out.mono ?_
        rintro e w7 ⟨r, y', rfl, hd, s1, -⟩
        have HD7 := Lib.hid (does_held HD.out hd)
        have HL7 := Lib.hid (does_lim HD.out HL.out hd)
        have HU7 := Lib.hid (show y'.S.used ≤ 258 * (k + 1) from by
          have h1 := does_used hd
          have h2 := HU.out
          have h3 : xa.size ≤ 4096 := ha4
          have h4 : xa.size / 16 ≤ 256 := by omega
          dsimp only at h1
          omega)
        have H7 := Lib.hid s1
        clear hd HDO hblr f0 f1 f2 f3 f4 f5 f6 s1
        go_wp2_with fail
        go_roundg (100 - (k + 1))
        case measure => omega
        case rel => exact ⟨k + 1, y', by omega, by omega, by go_num, Lib.hid (H7.out.up (by omega)), HD7, HL7, HU7⟩
    · have hk100 : k ≤ 100 := by omega
      have hways : (k < n ∧ ¬ ((k : Int) < 100)) ∨ ¬ ((k : Int) < (n : Int)) := by omega
      rcases hways with ⟨hw1, hw2⟩ | hw2
      all_goals
        clear hgo HA
        obtain ⟨X0, hX0⟩ : ∃ X0 : Nat → Prop, X0 = fun _ => False := ⟨_, rfl⟩
        rw [← hX0] at HS
        clear hX0
        have HC1 := Lib.hid (Do_gen HS.out (by omega) HD.out HL.out ⟨1, 0, 39, 0, 0, ta, ⟨#[]⟩⟩ (by intro h; dsimp only at h; omega))
        unfold ME CV at HC1
        dsimp only at HC1
        go_wp2_with fail
        refine HC1.out.mono ?_
        rintro e u1 ⟨r1, y1, rfl, hd1, s1, s2⟩
        have HD1_ := Lib.hid (does_held HD.out hd1)
        have HL1_ := Lib.hid (does_lim HD.out HL.out hd1)
        clear HC1
        have hs := is_1 hd1 rfl
        have HOP := Lib.hid hs
        have HU1 := Lib.hid (show y1.S.used ≤ 26100 from by
          have h1 := does_used hd1
          have h2 := HU.out
          dsimp only at h1
          omega)
        clear hs hd1
        obtain ⟨e1, n1, b1, k1, zn1, l1⟩ := r1
        unfold RVr RV
        dsimp only
        obtain ⟨z1, hz1⟩ : ∃ z : Int, (zn1 : Int) = z := ⟨_, rfl⟩
        rw [hz1]
        have HZ1 := Lib.hid hz1
        clear hz1
        go_upto_region 13 with fail
        obtain ⟨v1, G1, hv1, hG1, t1, t2, t3, t4⟩ := box_on s1 (.int .i64 e1) (.int .i64 n1) (.string b1) (.int .i64 k1) (.int .i64 z1) (.int .i64 l1)
        obtain ⟨X1, hX1⟩ : ∃ X' : Nat → Prop, X' = Ov X0 u1 v1 := ⟨_, rfl⟩
        rw [← hX1] at t1 t3 t4
        have H1_ := Lib.hid t1
        have HP1 := Lib.hid t3
        have HB1 := Lib.hid t2
        clear s1 s2 t1 t2 t3 t4 hX1
        rw [hv1, hG1]
        clear hv1 hG1
        obtain ⟨x0, x1, x2, x3, x4, x5⟩ := HB1.out.six
        by_cases he : e1 = 0
        case neg =>
          have hB := H1_.out.bel
          have hne : (e1 != 0) = true := by simpa using he
          go_wp2_with fail
          try rw [Exit.noGoto_ret]
          go_ret
          exact HEND.out _ hB
        subst he
        obtain ⟨bs, hap⟩ := apd_open HOP.out rfl rfl HD1_.out
        dsimp only at hap
        have HAP := Lib.hid hap
        clear hap HOP
        have HC2 := Lib.hid (Do_gen H1_.out (by omega) HD1_.out HL1_.out ⟨5, n1, 0, 65536, 0, ⟨#[]⟩, ⟨#[]⟩⟩ (by intro h; dsimp only at h; omega))
        unfold ME CV at HC2
        dsimp only at HC2
        go_wp2_with fail
        refine HC2.out.mono ?_
        rintro e u2 ⟨r2, y2, rfl, hd2, s1, s2⟩
        have HD2_ := Lib.hid (does_held HD1_.out hd2)
        have HL2_ := Lib.hid (does_lim HD1_.out HL1_.out hd2)
        clear HC2
        have hs := is_5 hd2 rfl
        have hrd := apd_read HAP.out
        unfold e0 at hrd
        rw [hrd] at hs
        injection hs with hs1 hs2
        subst hs1 hs2
        clear hd2 hrd
        unfold RVr RV
        dsimp only
        go_upto_region 17 with fail
        obtain ⟨v2, G2, hv2, hG2, t1, t2, t3, t4⟩ := box_on s1 (.int .i64 0) (.int .i64 (bs.length : Int)) (.string ⟨bs.toArray⟩) (.int .i64 0) (.int .i64 0) (.int .i64 0)
        obtain ⟨X2, hX2⟩ : ∃ X' : Nat → Prop, X' = Ov X1 u2 v2 := ⟨_, rfl⟩
        rw [← hX2] at t1 t3 t4
        have H2_ := Lib.hid t1
        have HP2 := Lib.hid t3
        have HB2 := Lib.hid t2
        have HB1 := Lib.hid (HB1.out.same ((t4 G1 HP1.out).2.trans (s2 G1 HP1.out)) (t1.lt (t4 G1 HP1.out).1))
        have HP1 := Lib.hid (t4 G1 HP1.out).1
        clear s1 s2 t1 t2 t3 t4 hX2
        rw [hv2, hG2]
        clear hv2 hG2
        clear x0 x1 x2 x3 x4 x5
        have HC3 := Lib.hid (Do_gen H2_.out (by omega) HD2_.out HL2_.out ⟨4, n1, 0, 0, 0, tx, ⟨#[]⟩⟩ (fun _ => show tx.size ≤ 1000000 by omega))
        unfold ME CV at HC3
        dsimp only at HC3
        go_wp2_with fail
        refine HC3.out.mono ?_
        rintro e u3 ⟨r3, y3, rfl, hd3, s1, s2⟩
        have HD3_ := Lib.hid (does_held HD2_.out hd3)
        have HL3_ := Lib.hid (does_lim HD2_.out HL2_.out hd3)
        clear HC3
        have hs := is_4 hd3 rfl
        have hwe := wrote_end HAP.out (by have := HU1.out; omega) hs
        have HWE := Lib.hid hwe
        have HU3 := Lib.hid (show y3.S.used ≤ 26400 from by
          have h1 := does_used hd3
          have h2 := HU1.out
          dsimp only at h1
          omega)
        clear hs hd3 hwe
        obtain ⟨e3, n3, b3, k3, zn3, l3⟩ := r3
        unfold RVr RV
        dsimp only
        obtain ⟨z3, hz3⟩ : ∃ z : Int, (zn3 : Int) = z := ⟨_, rfl⟩
        rw [hz3]
        have HZ3 := Lib.hid hz3
        clear hz3
        go_upto_region 18 with fail
        obtain ⟨v3, G3, hv3, hG3, t1, t2, t3, t4⟩ := box_on s1 (.int .i64 e3) (.int .i64 n3) (.string b3) (.int .i64 k3) (.int .i64 z3) (.int .i64 l3)
        obtain ⟨X3, hX3⟩ : ∃ X' : Nat → Prop, X' = Ov X2 u3 v3 := ⟨_, rfl⟩
        rw [← hX3] at t1 t3 t4
        have H3_ := Lib.hid t1
        have HP3 := Lib.hid t3
        have HB3 := Lib.hid t2
        have HB1 := Lib.hid (HB1.out.same ((t4 G1 HP1.out).2.trans (s2 G1 HP1.out)) (t1.lt (t4 G1 HP1.out).1))
        have HP1 := Lib.hid (t4 G1 HP1.out).1
        have HB2 := Lib.hid (HB2.out.same ((t4 G2 HP2.out).2.trans (s2 G2 HP2.out)) (t1.lt (t4 G2 HP2.out).1))
        have HP2 := Lib.hid (t4 G2 HP2.out).1
        clear s1 s2 t1 t2 t3 t4 hX3
        rw [hv3, hG3]
        clear hv3 hG3
        obtain ⟨b3s, hap3, hwx⟩ := HWE.out
        dsimp only at hwx
        have HAP3 := Lib.hid hap3
        have HWX := Lib.hid hwx
        clear hap3 hwx HWE
        have HC4 := Lib.hid (Do_gen H3_.out (by omega) HD3_.out HL3_.out ⟨7, n1, 0, 0, 0, ⟨#[]⟩, ⟨#[]⟩⟩ (by intro h; dsimp only at h; omega))
        unfold ME CV at HC4
        dsimp only at HC4
        go_wp2_with fail
        refine HC4.out.mono ?_
        rintro e u4 ⟨r4, y4, rfl, hd4, s1, s2⟩
        have HD4_ := Lib.hid (does_held HD3_.out hd4)
        have HL4_ := Lib.hid (does_lim HD3_.out HL3_.out hd4)
        clear HC4
        have hs := is_7 hd4 rfl
        obtain ⟨z4, hz4, hz5, hz6, hz7⟩ := apd_seek HAP3.out
        unfold e0 at hz4
        rw [hz4] at hs
        have HAP4 := Lib.hid (show Apd y4 n1 b3s from by rw [show y4 = z4.2 from congrArg Prod.snd hs]; exact hz6)
        have HU4 := Lib.hid (show y4.S.used ≤ 26400 from by rw [show y4 = z4.2 from congrArg Prod.snd hs, hz7]; exact HU3.out)
        clear hs hd4 hz4 hz5 hz6 hz7
        have H4_ := Lib.hid s1
        have HB1 := Lib.hid (HB1.out.same (s2 G1 HP1.out) (s1.lt HP1.out))
        have HB2 := Lib.hid (HB2.out.same (s2 G2 HP2.out) (s1.lt HP2.out))
        have HB3 := Lib.hid (HB3.out.same (s2 G3 HP3.out) (s1.lt HP3.out))
        clear s1 s2
        have HC5 := Lib.hid (Do_gen H4_.out (by omega) HD4_.out HL4_.out ⟨4, n1, 0, 0, 0, ty, ⟨#[]⟩⟩ (fun _ => show ty.size ≤ 1000000 by omega))
        unfold ME CV at HC5
        dsimp only at HC5
        go_wp2_with fail
        refine HC5.out.mono ?_
        rintro e u5 ⟨r5, y5, rfl, hd5, s1, s2⟩
        have HD5_ := Lib.hid (does_held HD4_.out hd5)
        have HL5_ := Lib.hid (does_lim HD4_.out HL4_.out hd5)
        clear HC5
        have hs := is_4 hd5 rfl
        have hwe := wrote_end HAP4.out (by have := HU4.out; omega) hs
        have HWE := Lib.hid hwe
        clear hs hd5 hwe
        obtain ⟨e5, n5, b5, k5, zn5, l5⟩ := r5
        unfold RVr RV
        dsimp only
        obtain ⟨z5, hz5⟩ : ∃ z : Int, (zn5 : Int) = z := ⟨_, rfl⟩
        rw [hz5]
        have HZ5 := Lib.hid hz5
        clear hz5
        go_upto_region 20 with fail
        obtain ⟨v5, G5, hv5, hG5, t1, t2, t3, t4⟩ := box_on s1 (.int .i64 e5) (.int .i64 n5) (.string b5) (.int .i64 k5) (.int .i64 z5) (.int .i64 l5)
        obtain ⟨X5, hX5⟩ : ∃ X' : Nat → Prop, X' = Ov X3 u5 v5 := ⟨_, rfl⟩
        rw [← hX5] at t1 t3 t4
        have H5_ := Lib.hid t1
        have HP5 := Lib.hid t3
        have HB5 := Lib.hid t2
        have HB1 := Lib.hid (HB1.out.same ((t4 G1 HP1.out).2.trans (s2 G1 HP1.out)) (t1.lt (t4 G1 HP1.out).1))
        have HP1 := Lib.hid (t4 G1 HP1.out).1
        have HB2 := Lib.hid (HB2.out.same ((t4 G2 HP2.out).2.trans (s2 G2 HP2.out)) (t1.lt (t4 G2 HP2.out).1))
        have HP2 := Lib.hid (t4 G2 HP2.out).1
        have HB3 := Lib.hid (HB3.out.same ((t4 G3 HP3.out).2.trans (s2 G3 HP3.out)) (t1.lt (t4 G3 HP3.out).1))
        have HP3 := Lib.hid (t4 G3 HP3.out).1
        clear s1 s2 t1 t2 t3 t4 hX5
        rw [hv5, hG5]
        clear hv5 hG5
        obtain ⟨b5s, hap5, hwy⟩ := HWE.out
        dsimp only at hwy
        have HAP5 := Lib.hid hap5
        have HWY := Lib.hid hwy
        clear hap5 hwy HWE
        have HC6 := Lib.hid (Do_gen H5_.out (by omega) HD5_.out HL5_.out ⟨5, n1, 0, 65536, 0, ⟨#[]⟩, ⟨#[]⟩⟩ (by intro h; dsimp only at h; omega))
        unfold ME CV at HC6
        dsimp only at HC6
        go_wp2_with fail
        refine HC6.out.mono ?_
        rintro e u6 ⟨r6, y6, rfl, hd6, s1, s2⟩
        have HD6_ := Lib.hid (does_held HD5_.out hd6)
        have HL6_ := Lib.hid (does_lim HD5_.out HL5_.out hd6)
        clear HC6
        have hs := is_5 hd6 rfl
        have hrd := apd_read HAP5.out
        unfold e0 at hrd
        rw [hrd] at hs
        injection hs with hs1 hs2
        subst hs1 hs2
        clear hd6 hrd
        unfold RVr RV
        dsimp only
        go_upto_region 21 with fail
        obtain ⟨v6, G6, hv6, hG6, t1, t2, t3, t4⟩ := box_on s1 (.int .i64 0) (.int .i64 (b5s.length : Int)) (.string ⟨b5s.toArray⟩) (.int .i64 0) (.int .i64 0) (.int .i64 0)
        obtain ⟨X6, hX6⟩ : ∃ X' : Nat → Prop, X' = Ov X5 u6 v6 := ⟨_, rfl⟩
        rw [← hX6] at t1 t3 t4
        have H6_ := Lib.hid t1
        have HP6 := Lib.hid t3
        have HB6 := Lib.hid t2
        have HB1 := Lib.hid (HB1.out.same ((t4 G1 HP1.out).2.trans (s2 G1 HP1.out)) (t1.lt (t4 G1 HP1.out).1))
        have HP1 := Lib.hid (t4 G1 HP1.out).1
        have HB2 := Lib.hid (HB2.out.same ((t4 G2 HP2.out).2.trans (s2 G2 HP2.out)) (t1.lt (t4 G2 HP2.out).1))
        have HP2 := Lib.hid (t4 G2 HP2.out).1
        have HB3 := Lib.hid (HB3.out.same ((t4 G3 HP3.out).2.trans (s2 G3 HP3.out)) (t1.lt (t4 G3 HP3.out).1))
        have HP3 := Lib.hid (t4 G3 HP3.out).1
        have HB5 := Lib.hid (HB5.out.same ((t4 G5 HP5.out).2.trans (s2 G5 HP5.out)) (t1.lt (t4 G5 HP5.out).1))
        have HP5 := Lib.hid (t4 G5 HP5.out).1
        clear s1 s2 t1 t2 t3 t4 hX6
        rw [hv6, hG6]
        clear hv6 hG6
        obtain ⟨p0, p1, p2, p3, p4, p5⟩ := HB2.out.six
        obtain ⟨q0, q1, q2, q3, q4, q5⟩ := HB3.out.six
        obtain ⟨u0, u1, u2, u3, u4, u5⟩ := HB5.out.six
        obtain ⟨v0, v1, v2, v3, v4, v5⟩ := HB6.out.six
        have hB := H6_.out.bel
        rcases HWX.out with h3 | ⟨h3, p, hp1, hp2, hp3⟩
        · subst h3
          rcases HWY.out with h5 | ⟨h5, _⟩
          · subst h5
            go_wp2_with fail
            try rw [Exit.noGoto_ret]
            go_ret
            exact HEND.out _ hB
          · subst h5
            go_wp2_with fail
            try rw [Exit.noGoto_ret]
            go_ret
            exact HEND.out _ hB
        · subst h3
          rcases HWY.out with h5 | ⟨h5, r, hr1, hr2, hr3⟩
          · subst h5
            go_wp2_with fail
            try rw [Exit.noGoto_ret]
            go_ret
            exact HEND.out _ hB
          · subst h5
            subst hp2 hr2
            have hbl := apd_len HAP.out
            have qx := cut_run tx p hp1
            have qy := cut_run ty r hr1
            have lx := cut_len tx p
            have ly := cut_len ty r
            have hs0 : (⟨bs.toArray⟩ : ByteArray).size = bs.length := by show bs.toArray.size = _; simp
            have qa : ∀ W, (Op.stringOp .add ⟨bs.toArray⟩ (tx.extract 0 p)).run Tryz.prog W = .ok (.string (⟨bs.toArray⟩ ++ tx.extract 0 p)) W := fun W => run_string_add_sum W _ _ (by rw [hs0]; omega)
            have hj := joined bs tx ty p r
            rw [← hp3, ← hr3] at hj
            have qb : ∀ W, (Op.stringOp .add (⟨bs.toArray⟩ ++ tx.extract 0 p) (ty.extract 0 r)).run Tryz.prog W = .ok (.string ⟨b5s.toArray⟩) W := fun W => by
              rw [← hj]
              exact run_string_add_sum W _ _ (by rw [ByteArray.size_append, hs0]; omega)
            clear hbl lx ly hs0 hj hp3 hr3
            go_wp2_with fail
            go_quiet (fail)
            go_wp2_with fail
            go_ret
            exact HEND.out _ (dn.below_drewN hB _)

set_option maxRecDepth 100000 in
theorem lifted (os : Os) (started : os.Started) (H : Type) (enc : TypeId × Value → H) :
    ReturnsInHanded {} Tryz.checked os 10 .any (Rows.treeAppendsSpec.pre6 enc Tryz.prog Tryz.f10 Rows.treeAppendsRow.domain false) (Rows.treeAppendsSpec.post enc Tryz.prog Tryz.f10 false true false false) := by
  refine returnsInHanded_of_change_sized (C := Tryz.checked) own started (by kernel_rfl) Tryz.func10
    (ChangeSpec.witness6 (enc := enc) (C := Tryz.checked) false ⟨#[], #[.slice none 0 0, .string ByteArray.empty, .string ByteArray.empty, .string ByteArray.empty], []⟩ 8 (by kernel_rfl) (by kernel_rfl) (by kernel_rfl) (by kernel_rfl)) ?_
  intro W base args ds gs before hval0 hW hcnd hsz _
  have hval : ∀ (j : Nat) t v, Tryz.f10.params[j]? = some t → args[j]? = some v → Value.okWide Tryz.prog W .any base t v := hval0
  have hW' := hW
  obtain ⟨p, q, hA0, hV, rfl, hfz, hnd⟩ := hW
  have hA : DataW.TrodAll enc Tryz.prog W 0 (fun _ => true) true Tryz.f10.params.toList args.toList ds p := hA0
  rw [Tryz.params10] at hA hval
  obtain ⟨v0, vs0, d0, ds0, p0, q0, hargs, rfl, rfl, h0, r0⟩ := trodAll_cons hA
  obtain ⟨v1, vs1, d1, ds1, p1, q1, rfl, rfl, rfl, h1, r1⟩ := trodAll_cons r0
  obtain ⟨v2, vs2, d2, ds2, p2, q2, rfl, rfl, rfl, h2, r2⟩ := trodAll_cons r1
  obtain ⟨v3, vs3, d3, ds3, p3, q3, rfl, rfl, rfl, h3, r3⟩ := trodAll_cons r2
  obtain ⟨rfl, rfl, rfl⟩ := trodAll_nil r3
  obtain rfl : args = #[v0, v1, v2, v3] := by cases args; simp_all
  obtain ⟨rfl, rfl⟩ := trodVars_none hV
  have hlt := fun x hx => hW'.lt x hx
  have t0 := h0
  obtain ⟨A0, n0, c0, x0, rfl, e0, s0⟩ := open_calls (hval 0 22 v0 rfl rfl) h0
  obtain ⟨a1, rfl, rfl, rfl, w1⟩ := open_string Tryz.underlying9 (hval 1 9 v1 rfl rfl) h1
  have z1 : a1.size ≤ 140737488351232 := by
    have := List.all_eq_true.1 hsz a1.size (DataW.weights_mem_each (j := 1) (t := 9) (d := .lit (.string a1.data.toList)) rfl rfl _ (by simp [DataW.weights]))
    exact of_decide_eq_true this
  obtain ⟨a2, rfl, rfl, rfl, w2⟩ := open_string Tryz.underlying9 (hval 2 9 v2 rfl rfl) h2
  have z2 : a2.size ≤ 140737488351232 := by
    have := List.all_eq_true.1 hsz a2.size (DataW.weights_mem_each (j := 2) (t := 9) (d := .lit (.string a2.data.toList)) rfl rfl _ (by simp [DataW.weights]))
    exact of_decide_eq_true this
  obtain ⟨a3, rfl, rfl, rfl, w3⟩ := open_string Tryz.underlying9 (hval 3 9 v3 rfl rfl) h3
  have z3 : a3.size ≤ 140737488351232 := by
    have := List.all_eq_true.1 hsz a3.size (DataW.weights_mem_each (j := 3) (t := 9) (d := .lit (.string a3.data.toList)) rfl rfl _ (by simp [DataW.weights]))
    exact of_decide_eq_true this
  clear hA0 hval0
  refine (walk A0 n0 c0 x0 a1 a2 a3 W e0 s0 z1 z2 z3).mono fun e W' ⟨he, hg⟩ => ?_
  subst he
  exact ⟨_, rfl, law_post (pv := []) hW' (fun _ _ _ => (trodAll_cons_mk (shut_bool Tryz.underlying4 _) trodAll_mk0)) (fun sp hsp => (trodAll_cons_mk (arg_stays t0 hg (by simp +contextual) hlt hsp laid) (trodAll_cons_mk (shut_string Tryz.underlying9 w1) (trodAll_cons_mk (shut_string Tryz.underlying9 w2) (trodAll_cons_mk (shut_string Tryz.underlying9 w3) trodAll_mk0))))) (fun _ _ => rfl) (by simp)
    hg (ok_one (by kernel_rfl) rfl (okWide_bool_mk Tryz.underlying4 _))⟩

theorem over : Rows.treeAppendsRow.holds Tryz.pinned (OpenSpec.ofChange Rows.treeAppendsSpec) :=
  OpenClaim.holds_of_wide 10 Tryz.f10 rfl rfl rfl rfl rfl rfl rfl ⟨rfl, rfl, rfl, rfl, rfl⟩ rfl rfl rfl rfl rfl (by kernel_rfl) Tryz.func10 (by kernel_rfl)
    (of_decide_eq_true (by kernel_rfl)) (by unfold Func.isWrapper; first | (rw [if_pos (by decide +kernel)]; kernel_rfl) | (rw [if_neg (by decide +kernel)]; exact ⟨rfl, rfl⟩))
    (fun os started H enc _ => lifted os started H enc)

/-- The statement. -/
theorem proved : Rows.TreeAppendsSaid :=
  over
end Go.Proofs.YtpmpbmjjlccbbaaGreat.treeAppends
