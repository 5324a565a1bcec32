/- For every room, every list of acts, any two directories and any two names the law BranchMoves returns true, and what is handed in reads as it did; there are no conditions. -/
import Derived.Test.YtlelnpckbcpkkaaGreatZm
import Derived.Test.YtlelnpckbcpkkaaGreatZn
import Derived.Test.YtlelnpckbcpkkaaGreatZt
import Derived.Test.YtlelnpckbcpkkaaGreatMv
import Derived.Deep.RegionWith
import Derived.Deep.QuietTactic
import Derived.BigQuiet
import Derived.ProofKit
import Derived.OpenShut
import Derived.ShutString
namespace Go.Proofs.YtlelnpckbcpkkaaGreat.branchMoves
open Go.ChangeShapes Go.WideShapes Go.ChangeAt Go.RowKit
open Go.ChangeMaps (open_string shut_string)
open Go.Proofs.YtlelnpckbcpkkaaGreat.cb
set_option linter.unusedVariables false

theorem own : ownKnob Tryz.prog.godebug = none := by kernel_rfl
theorem laid : laidOutB Tryz.prog = true := by kernel_rfl

open Go.Proofs.YtlelnpckbcpkkaaGreat.br
open Go.Proofs.YtlelnpckbcpkkaaGreat.bl (Pq)
open Go.Proofs.YtlelnpckbcpkkaaGreat.dn (lget lset nerr dotB)

set_option maxHeartbeats 8000000 in
set_option maxRecDepth 100000 in
theorem walk (r : Int) (A : Option Addr) (n c : Nat) (F : Nat → Act7) (d : Int) (s : ByteArray) (t : Int) (u : ByteArray) (w : World) (k1 : n ≤ c ∧ c ≤ maxLen) (hF : Acts w w.heap.size A n F) (ws : s.size ≤ maxLen) (wu : u.size ≤ maxLen) :
    Calls Tryz.prog 7 #[.int .i64 r, .slice A n c, .int .i64 d, .string s, .int .i64 t, .string u] w (AwakeE w) := by
  have hnm : n ≤ maxLen := Nat.le_trans k1.1 k1.2
  have hs : s.size ≤ 9223372036854775807 := ws
  have hu : u.size ≤ 9223372036854775807 := wu
  have HAW := Lib.hid (awake_any w)
  have HPL := Lib.hid (fun w1 P room (S : BS) (hb : BrX w w1 P No S room 0) => play_any A n c F w w1 P room hnm hF hb)
  clear k1 hF hnm ws wu
  by_cases hr : r < 0 ∨ 65536 < r
  · have HN := Lib.hid (fun w1 => new_no r w1 hr)
    clear HPL hr
    go_enter Tryz.func7, Tryz.ntmps7
    go_wp2_with fail
    refine HAW.out.mono ?_
    rintro e w1 ⟨rfl, hb1⟩
    go_wp2_with fail
    refine (HN.out _).mono ?_
    rintro e w2 ⟨rfl, rfl⟩
    go_wp2_with fail
    go_ret
    exact ⟨rfl, hb1⟩
  · obtain ⟨room, rfl⟩ : ∃ room : Nat, r = (room : Int) := ⟨r.toNat, by omega⟩
    have HN := Lib.hid (fun w1 (hb : Below w.heap.size w w1) => x_new (w0 := w) (w := w1) room (by omega) hb)
    clear hr
    go_enter Tryz.func7, Tryz.ntmps7
    go_wp2_with fail
    refine HAW.out.mono ?_
    rintro e w1 ⟨rfl, hb1⟩
    have HN2 := Lib.hid (HN.out w1 hb1)
    clear HN hb1 HAW
    go_wp2_with fail
    refine HN2.out.mono ?_
    rintro e w2 ⟨P, rfl, h2, -, -⟩
    have HP2 := Lib.hid (HPL.out w2 P room fresh h2.forget)
    clear h2 HN2 HPL
    go_wp2_with fail
    refine HP2.out.mono ?_
    rintro e w3 ⟨b, S, rfl, h3⟩
    have H3 := Lib.hid h3
    have HT3 := Lib.hid (tell_any h3)
    obtain ⟨ts, hts⟩ : ∃ ts, toldS S = ts := ⟨_, rfl⟩
    have HTS := Lib.hid hts
    rw [hts] at HT3
    clear h3 HP2 hts
    cases b
    · clear HT3
      go_wp2_with fail
      go_ret
      exact ⟨rfl, H3.out.bel⟩
    · go_wp2_with fail
      refine HT3.out.mono ?_
      rintro _ w4 ⟨rfl, hb4⟩
      have H4 := Lib.hid (H3.out.below hb4)
      clear hb4 HT3 H3
      by_cases hm : (S.rename d s t u).1 = 0
      · obtain ⟨i, g1, g2, hcase⟩ := moves_of H4.out.good hm
        have HA := Lib.hid (fun w5 (h : BrX w w5 P No S room 80) => x_get h d s)
        have HB := Lib.hid (fun w5 (h : BrX w w5 P No S room 80) => x_get h t u)
        have HR := Lib.hid (fun w5 (h : BrX w w5 P No S room 80) => x_rename h (by omega) d s t u hu)
        rw [g1] at HA
        rw [hm] at HR
        dsimp only at HA
        clear hm
        rcases hcase with ⟨g3, g4⟩ | ⟨old, g3, g4, g5⟩ | ⟨g3, g4⟩
        · rw [g4] at HR
          rw [g3] at HB
          have HB2 := Lib.hid (fun w5 (h : BrX w w5 P No S room 81) => x_get h t u)
          have HA2 := Lib.hid (fun w5 (h : BrX w w5 P No S room 81) => x_get h d s)
          rw [g3] at HB2
          rw [g1] at HA2
          dsimp only at HB HB2 HA2
          clear g1 g2 g3 g4
          have HX4 := Lib.hid (HA.out _ H4.out)
          go_wp2_with fail
          refine HX4.out.mono ?_
          rintro _ w5 ⟨rfl, hb5⟩
          have H5 := Lib.hid (H4.out.below hb5)
          clear hb5 H4 HX4
          have HX5 := Lib.hid (HB.out _ H5.out)
          go_wp2_with fail
          refine HX5.out.mono ?_
          rintro _ w6 ⟨rfl, hb6⟩
          have H6 := Lib.hid (H5.out.below hb6)
          clear hb6 H5 HX5
          have HX6 := Lib.hid (HR.out _ H6.out)
          go_wp2_with fail
          refine HX6.out.mono ?_
          rintro _ w7 ⟨rfl, h7, -⟩
          have H7 := Lib.hid h7
          clear h7 H6 HX6
          have HX7 := Lib.hid (HB2.out _ H7.out)
          go_wp2_with fail
          refine HX7.out.mono ?_
          rintro _ w8 ⟨rfl, hb8⟩
          have H8 := Lib.hid (H7.out.below hb8)
          clear hb8 H7 HX7
          have HX8 := Lib.hid (HA2.out _ H8.out)
          go_wp2_with fail
          refine HX8.out.mono ?_
          rintro _ w9 ⟨rfl, hb9⟩
          have H9 := Lib.hid (H8.out.below hb9)
          clear hb9 H8 HX8
          have HT9 := Lib.hid (tell_any H9.out)
          rw [HTS.out] at HT9
          go_wp2_with fail
          refine HT9.out.mono ?_
          rintro _ w10 ⟨rfl, hb10⟩
          have H10 := Lib.hid (H9.out.below hb10)
          clear hb10 H9 HT9
          go_wp2_with fail
          go_ret
          exact ⟨by simp, H10.out.bel⟩
        · obtain ⟨S2, hS2⟩ : ∃ S2, (S.rename d s t u).2 = S2 := ⟨_, rfl⟩
          rw [hS2] at HR g2 g5
          rw [g3] at HB
          have HB2 := Lib.hid (fun w5 (h : BrX w w5 P No S2 room 81) => x_get h t u)
          have HA2 := Lib.hid (fun w5 (h : BrX w w5 P No S2 room 81) => x_get h d s)
          obtain ⟨y, hy⟩ : ∃ y, S2.get d s = (y, 2) := ⟨(S2.get d s).1, by rw [← g5]⟩
          rw [g2] at HB2
          rw [hy] at HA2
          dsimp only at HB HB2 HA2
          have qo : (old == i) = false := by simpa using g4
          have qn : (old != i) = true := by simpa using g4
          clear g1 g2 g3 g4 g5 hy hS2
          have HX4 := Lib.hid (HA.out _ H4.out)
          go_wp2_with fail
          refine HX4.out.mono ?_
          rintro _ w5 ⟨rfl, hb5⟩
          have H5 := Lib.hid (H4.out.below hb5)
          clear hb5 H4 HX4
          have HX5 := Lib.hid (HB.out _ H5.out)
          go_wp2_with fail
          refine HX5.out.mono ?_
          rintro _ w6 ⟨rfl, hb6⟩
          have H6 := Lib.hid (H5.out.below hb6)
          clear hb6 H5 HX5
          have HX6 := Lib.hid (HR.out _ H6.out)
          go_wp2_with fail
          refine HX6.out.mono ?_
          rintro _ w7 ⟨rfl, h7, -⟩
          have H7 := Lib.hid h7
          clear h7 H6 HX6
          have HX7 := Lib.hid (HB2.out _ H7.out)
          go_wp2_with fail
          refine HX7.out.mono ?_
          rintro _ w8 ⟨rfl, hb8⟩
          have H8 := Lib.hid (H7.out.below hb8)
          clear hb8 H7 HX7
          have HX8 := Lib.hid (HA2.out _ H8.out)
          go_wp2_with fail
          refine HX8.out.mono ?_
          rintro _ w9 ⟨rfl, hb9⟩
          have H9 := Lib.hid (H8.out.below hb9)
          clear hb9 H8 HX8
          go_wp2_with fail
          go_ret
          exact ⟨by simp, H9.out.bel⟩
        · obtain ⟨S2, hS2⟩ : ∃ S2, (S.rename d s t u).2 = S2 := ⟨_, rfl⟩
          rw [hS2] at HR g2 g4
          have HB2 := Lib.hid (fun w5 (h : BrX w w5 P No S2 room 81) => x_get h t u)
          have HR2 := Lib.hid (fun w5 (h : BrX w w5 P No S2 room 81) => x_rename h (by omega) t u d s hs)
          obtain ⟨o1, o2, ho⟩ : ∃ o1 o2, S.get t u = (o1, o2) := ⟨_, _, rfl⟩
          rw [ho] at g3 HB
          dsimp only at g3
          have qe : (o2 == 0) = false := by simpa using g3
          rw [g2] at HB2
          rw [g4] at HR2
          dsimp only at HB HB2 HR2
          clear g1 g2 g3 g4 ho hS2
          have HX4 := Lib.hid (HA.out _ H4.out)
          go_wp2_with fail
          refine HX4.out.mono ?_
          rintro _ w5 ⟨rfl, hb5⟩
          have H5 := Lib.hid (H4.out.below hb5)
          clear hb5 H4 HX4
          have HX5 := Lib.hid (HB.out _ H5.out)
          go_wp2_with fail
          refine HX5.out.mono ?_
          rintro _ w6 ⟨rfl, hb6⟩
          have H6 := Lib.hid (H5.out.below hb6)
          clear hb6 H5 HX5
          have HX6 := Lib.hid (HR.out _ H6.out)
          go_wp2_with fail
          refine HX6.out.mono ?_
          rintro _ w7 ⟨rfl, h7, -⟩
          have H7 := Lib.hid h7
          clear h7 H6 HX6
          have HX7 := Lib.hid (HB2.out _ H7.out)
          go_wp2_with fail
          refine HX7.out.mono ?_
          rintro _ w8 ⟨rfl, hb8⟩
          have H8 := Lib.hid (H7.out.below hb8)
          clear hb8 H7 HX7
          have HX8 := Lib.hid (HR2.out _ H8.out)
          go_wp2_with fail
          refine HX8.out.mono ?_
          rintro _ w9 ⟨rfl, h9, -⟩
          have H9 := Lib.hid h9
          clear h9 H8 HX8
          have HT9 := Lib.hid (tell_any H9.out)
          rw [HTS.out] at HT9
          go_wp2_with fail
          refine HT9.out.mono ?_
          rintro _ w10 ⟨rfl, hb10⟩
          have H10 := Lib.hid (H9.out.below hb10)
          clear hb10 H9 HT9
          go_wp2_with fail
          go_ret
          exact ⟨by simp, H10.out.bel⟩
      · have HE := Lib.hid (rename_err hm)
        have HA := Lib.hid (fun w5 (h : BrX w w5 P No S room 80) => x_get h d s)
        have HB := Lib.hid (fun w5 (h : BrX w w5 P No S room 80) => x_get h t u)
        have HR := Lib.hid (fun w5 (h : BrX w w5 P No S room 80) => x_rename h (by omega) d s t u hu)
        rw [HE.out] at HR
        obtain ⟨e0, he0⟩ : ∃ e0, (S.rename d s t u).1 = e0 := ⟨_, rfl⟩
        rw [he0] at hm HR
        obtain ⟨o1, o2, ho⟩ : ∃ o1 o2, S.get t u = (o1, o2) := ⟨_, _, rfl⟩
        obtain ⟨o3, o4, ho3⟩ : ∃ o3 o4, S.get d s = (o3, o4) := ⟨_, _, rfl⟩
        rw [ho] at HB
        rw [ho3] at HA
        dsimp only at HA HB
        have q0 : (e0 != 0) = true := by simpa using hm
        clear HE hm ho ho3 he0
        have HX4 := Lib.hid (HA.out _ H4.out)
        go_wp2_with fail
        refine HX4.out.mono ?_
        rintro _ w5 ⟨rfl, hb5⟩
        have H5 := Lib.hid (H4.out.below hb5)
        clear hb5 H4 HX4
        have HX5 := Lib.hid (HB.out _ H5.out)
        go_wp2_with fail
        refine HX5.out.mono ?_
        rintro _ w6 ⟨rfl, hb6⟩
        have H6 := Lib.hid (H5.out.below hb6)
        clear hb6 H5 HX5
        have HX6 := Lib.hid (HR.out _ H6.out)
        go_wp2_with fail
        refine HX6.out.mono ?_
        rintro _ w7 ⟨rfl, h7, -⟩
        have H7 := Lib.hid h7
        clear h7 H6 HX6
        have HT7 := Lib.hid (tell_any H7.out)
        rw [HTS.out] at HT7
        go_wp2_with fail
        refine HT7.out.mono ?_
        rintro _ w8 ⟨rfl, hb8⟩
        have H8 := Lib.hid (H7.out.below hb8)
        clear hb8 H7 HT7
        go_wp2_with fail
        go_ret
        exact ⟨by simp, H8.out.bel⟩

set_option maxRecDepth 100000 in
theorem lifted (os : Os) (started : os.Started) (H : Type) (enc : TypeId × Value → H) :
    ReturnsInHanded {} Tryz.checked os 7 .any (Rows.branchMovesSpec.pre6 enc Tryz.prog Tryz.f7 Rows.branchMovesRow.domain false) (Rows.branchMovesSpec.post enc Tryz.prog Tryz.f7 false true false false) := by
  refine returnsInHanded_of_change (C := Tryz.checked) own started (by kernel_rfl) Tryz.func7
    (ChangeSpec.witness6 (enc := enc) (C := Tryz.checked) false ⟨#[], #[.int .i64 0, .slice none 0 0, .int .i64 0, .string ByteArray.empty, .int .i64 0, .string ByteArray.empty], []⟩ 8 (by kernel_rfl) (by kernel_rfl) (by kernel_rfl) (by kernel_rfl)) ?_
  intro W base args ds gs before hval0 hW hcnd _
  have hval : ∀ (j : Nat) t v, Tryz.f7.params[j]? = some t → args[j]? = some v → Value.okWide Tryz.prog W .any base t v := hval0
  have hW' := hW
  obtain ⟨p, q, hA0, hV, rfl, hfz, hnd⟩ := hW
  have hA : DataW.TrodAll enc Tryz.prog W 0 (fun _ => true) true Tryz.f7.params.toList args.toList ds p := hA0
  rw [Tryz.params7] at hA hval
  obtain ⟨v0, vs0, d0, ds0, p0, q0, hargs, rfl, rfl, h0, r0⟩ := trodAll_cons hA
  obtain ⟨v1, vs1, d1, ds1, p1, q1, rfl, rfl, rfl, h1, r1⟩ := trodAll_cons r0
  obtain ⟨v2, vs2, d2, ds2, p2, q2, rfl, rfl, rfl, h2, r2⟩ := trodAll_cons r1
  obtain ⟨v3, vs3, d3, ds3, p3, q3, rfl, rfl, rfl, h3, r3⟩ := trodAll_cons r2
  obtain ⟨v4, vs4, d4, ds4, p4, q4, rfl, rfl, rfl, h4, r4⟩ := trodAll_cons r3
  obtain ⟨v5, vs5, d5, ds5, p5, q5, rfl, rfl, rfl, h5, r5⟩ := trodAll_cons r4
  obtain ⟨rfl, rfl, rfl⟩ := trodAll_nil r5
  obtain rfl : args = #[v0, v1, v2, v3, v4, v5] := by cases args; simp_all
  obtain ⟨rfl, rfl⟩ := trodVars_none hV
  have hlt := fun x hx => hW'.lt x hx
  obtain ⟨a0, rfl, rfl, rfl, w0⟩ := open_int Tryz.underlying3 (hval 0 3 v0 rfl rfl) h0
  have t1 := h1
  obtain ⟨A1, n1, c1, x1, rfl, e1, s1⟩ := open_acts (hval 1 22 v1 rfl rfl) h1
  obtain ⟨a2, rfl, rfl, rfl, w2⟩ := open_int Tryz.underlying3 (hval 2 3 v2 rfl rfl) h2
  obtain ⟨a3, rfl, rfl, rfl, w3⟩ := open_string Tryz.underlying9 (hval 3 9 v3 rfl rfl) h3
  obtain ⟨a4, rfl, rfl, rfl, w4⟩ := open_int Tryz.underlying3 (hval 4 3 v4 rfl rfl) h4
  obtain ⟨a5, rfl, rfl, rfl, w5⟩ := open_string Tryz.underlying9 (hval 5 9 v5 rfl rfl) h5
  clear hA0 hval0
  refine (walk a0 A1 n1 c1 x1 a2 a3 a4 a5 W e1 s1 w3 w5).mono fun e W' ⟨he, hg⟩ => ?_
  subst he
  exact ⟨_, rfl, law_post (pv := []) hW' (fun _ _ _ => (trodAll_cons_mk (shut_bool Tryz.underlying4 _) trodAll_mk0)) (fun sp hsp => (trodAll_cons_mk (shut_int Tryz.underlying3 w0) (trodAll_cons_mk (arg_stays t1 hg (by simp +contextual) hlt hsp laid) (trodAll_cons_mk (shut_int Tryz.underlying3 w2) (trodAll_cons_mk (shut_string Tryz.underlying9 w3) (trodAll_cons_mk (shut_int Tryz.underlying3 w4) (trodAll_cons_mk (shut_string Tryz.underlying9 w5) trodAll_mk0))))))) (fun _ _ => rfl) (by simp)
    hg (ok_one (by kernel_rfl) rfl (okWide_bool_mk Tryz.underlying4 _))⟩

theorem over : Rows.branchMovesRow.holds Tryz.pinned (OpenSpec.ofChange Rows.branchMovesSpec) :=
  OpenClaim.holds_of_wide 7 Tryz.f7 rfl rfl rfl rfl rfl rfl rfl ⟨rfl, rfl, rfl, rfl, rfl⟩ rfl rfl rfl rfl rfl (by kernel_rfl) Tryz.func7 (by kernel_rfl)
    (of_decide_eq_true (by kernel_rfl)) (by unfold Func.isWrapper; first | (rw [if_pos (by decide +kernel)]; kernel_rfl) | (rw [if_neg (by decide +kernel)]; exact ⟨rfl, rfl⟩))
    (fun os started H enc _ => lifted os started H enc)

/-- The statement. -/
theorem proved : Rows.BranchMovesSaid :=
  over
end Go.Proofs.YtlelnpckbcpkkaaGreat.branchMoves
