/- For every room, every list of acts, any two directories, any two names and every text the law BranchNames returns true, and what is handed in reads as it did; there are no conditions. -/
import Derived.Test.YtlelnpckbcpkkaaGreatZm
import Derived.Test.YtlelnpckbcpkkaaGreatZn
import Derived.Test.YtlelnpckbcpkkaaGreatZt
import Derived.Test.YtlelnpckbcpkkaaGreatNm
import Derived.Deep.RegionWith
import Derived.Deep.QuietTactic
import Derived.BigQuiet
import Derived.ProofKit
import Derived.OpenShut
import Derived.ShutString
namespace Go.Proofs.YtlelnpckbcpkkaaGreat.branchNames
open Go.ChangeShapes Go.WideShapes Go.ChangeAt Go.RowKit
open Go.ChangeMaps (open_string shut_string)
open Go.Proofs.YtlelnpckbcpkkaaGreat.cb
set_option linter.unusedVariables false

theorem own : ownKnob Tryz.prog.godebug = none := by kernel_rfl
theorem laid : laidOutB Tryz.prog = true := by kernel_rfl

open Go.Proofs.YtlelnpckbcpkkaaGreat.br
open Go.Proofs.YtlelnpckbcpkkaaGreat.bl (Pq)
open Go.Proofs.YtlelnpckbcpkkaaGreat.dn (lget lset nerr dotB)

set_option maxHeartbeats 2000000 in
set_option maxRecDepth 100000 in
theorem walk (r : Int) (A : Option Addr) (n c : Nat) (F : Nat → Act7) (d : Int) (s : ByteArray) (t : Int) (u dt : ByteArray) (w : World) (k1 : n ≤ c ∧ c ≤ maxLen) (hF : Acts w w.heap.size A n F) (ws : s.size ≤ maxLen) (wu : u.size ≤ maxLen) (wd : dt.size ≤ maxLen) :
    Calls Tryz.prog 10 #[.int .i64 r, .slice A n c, .int .i64 d, .string s, .int .i64 t, .string u, .string dt] w (AwakeE w) := by
  have hnm : n ≤ maxLen := Nat.le_trans k1.1 k1.2
  have hs : s.size ≤ 9223372036854775807 := ws
  have hu : u.size ≤ 9223372036854775807 := wu
  have hdl : (dt.size : Int) ≤ 9223372036854775807 := by unfold maxLen at wd; omega
  have HAW := Lib.hid (awake_any w)
  have HPL := Lib.hid (fun w1 P room (S : BS) (hb : BrX w w1 P No S room 0) => play_any A n c F w w1 P room hnm hF hb)
  clear k1 hF hnm ws wu wd
  by_cases hr : r < 0 ∨ 65536 < r
  · have HN := Lib.hid (fun w1 => new_no r w1 hr)
    clear HPL hr
    go_enter Tryz.func10, Tryz.ntmps10
    go_wp2_with fail
    refine HAW.out.mono ?_
    rintro e w1 ⟨rfl, hb1⟩
    go_wp2_with fail
    refine (HN.out _).mono ?_
    rintro e w2 ⟨rfl, rfl⟩
    go_wp2_with fail
    go_ret
    exact ⟨rfl, hb1⟩
  · obtain ⟨room, rfl⟩ : ∃ room : Nat, r = (room : Int) := ⟨r.toNat, by omega⟩
    have HN := Lib.hid (fun w1 (hb : Below w.heap.size w w1) => x_new (w0 := w) (w := w1) room (by omega) hb)
    clear hr
    go_enter Tryz.func10, Tryz.ntmps10
    go_wp2_with fail
    refine HAW.out.mono ?_
    rintro e w1 ⟨rfl, hb1⟩
    have HN2 := Lib.hid (HN.out w1 hb1)
    clear HN hb1 HAW
    go_wp2_with fail
    refine HN2.out.mono ?_
    rintro e w2 ⟨P, rfl, h2, -, -⟩
    have HP2 := Lib.hid (HPL.out w2 P room fresh h2.forget)
    clear h2 HN2 HPL
    go_wp2_with fail
    refine HP2.out.mono ?_
    rintro e w3 ⟨b, S, rfl, h3⟩
    have H3 := Lib.hid h3
    clear h3 HP2
    cases b
    · go_wp2_with fail
      go_ret
      exact ⟨rfl, H3.out.bel⟩
    · by_cases hd : (4096 : Int) < (dt.size : Int)
      · go_wp2_with fail
        go_ret
        exact ⟨rfl, H3.out.bel⟩
      · have HG := Lib.hid (x_get H3.out d s)
        obtain ⟨i, e0, he⟩ : ∃ i e0, S.get d s = (i, e0) := ⟨_, _, rfl⟩
        rw [he] at HG
        dsimp only at HG
        clear he
        go_wp2_with fail
        refine HG.out.mono ?_
        rintro _ w4 ⟨rfl, hb4⟩
        have H4 := Lib.hid (H3.out.below hb4)
        clear hb4 HG H3
        have HS := Lib.hid (x_stat H4.out i)
        unfold RetW statV at HS
        by_cases hq : e0 = 0
        · subst hq
          by_cases hl : (S.link t u i).1 = 0
          · obtain ⟨I, rfl, i1, i2, j1, j2, j4, l1, l2, hI, hgt⟩ := names_of H4.out.good hl
            have hk0 : (S.ino I).kind ≠ 0 := by omega
            rw [stat_of i1 i2 hk0] at HS
            dsimp only at HS
            obtain ⟨S1, hS1⟩ : ∃ S1, (S.link t u (I : Int)).2 = S1 := ⟨_, rfl⟩
            have HLK := Lib.hid (fun X w5 (h : BrX w w5 P X S room 80) => x_link h t u (I : Int) hu)
            rw [hl, hS1] at HLK
            rw [hS1] at hI hgt
            have HG2 := Lib.hid (fun X w5 (h : BrX w w5 P X S1 room 81) => x_get h t u)
            rw [hgt] at HG2
            dsimp only at HG2
            have hIk : (S1.ino I).kind = (S.ino I).kind := by rw [hI]
            have hIl : (S1.ino I).links = (S.ino I).links + 1 := by rw [hI]
            have HS2 := Lib.hid (fun X w5 (h : BrX w w5 P X S1 room 81) => x_stat h (I : Int))
            unfold RetW statV at HS2
            rw [stat_of i1 i2 (by rw [hIk]; exact hk0)] at HS2
            dsimp only at HS2
            rw [hIk, hIl] at HS2
            have HWR := Lib.hid (fun len p f err S2 (h : WrI S1 room (I : Int) 0 len f p err S2) (h1 : (S.ino I).kind = 1) => wrote_read i1 i2 (hIk.trans h1) h)
            have HWN := Lib.hid (fun len p f err S2 (h : WrI S1 room (I : Int) 0 len f p err S2) (h1 : (S.ino I).kind ≠ 1) => write_no i1 i2 (fun e => h1 (hIk.symm.trans e)) (by rw [hIk]; exact hk0) (by rw [hIk]; exact j2) h)
            generalize (S.ino I).kind = kd at *
            generalize (S.ino I).links = lk at *
            generalize ((S.ino I).sizeOf : Int) = z1 at *
            generalize ((S1.ino I).sizeOf : Int) = z2 at *
            have q2 : (kd == 2) = false := by simpa using j2
            clear hl hS1 hI hgt hIk hIl hk0 j1 j4 i1 i2
            go_wp2_with fail
            refine HS.out.mono ?_
            rintro _ w5 ⟨rfl, hb5⟩
            have H5 := Lib.hid (H4.out.below hb5)
            clear hb5 HS H4
            have B5 := Lib.hid (Bx3.new w5 (.int .i64 kd) (.int .i64 z1) (.int .i64 lk) 61)
            have HLK5 := Lib.hid (HLK.out (fun b => b = w5.heap.size) _ (H5.out.beside (dn.below_alloc w5 (.cells #[.int .i64 kd, .int .i64 z1, .int .i64 lk] 61)) (fun b hb => .inr (by rw [World.size_alloc]; omega))))
            clear H5 HLK
            go_wp2_with fail
            refine HLK5.out.mono ?_
            rintro _ w6 ⟨rfl, h6, hs6⟩
            have B6 := Lib.hid (B5.out.same hs6 rfl)
            have H6 := Lib.hid h6
            have HG6 := Lib.hid (HG2.out _ _ h6)
            generalize w5.heap.size = b1 at *
            clear h6 hs6 HLK5 B5 HG2
            go_wp2_with fail
            refine HG6.out.mono ?_
            rintro _ w7 ⟨rfl, hb7⟩
            have B7 := Lib.hid (B6.out.below hb7)
            have H7 := Lib.hid (H6.out.below hb7)
            have HS7 := Lib.hid (HS2.out _ _ H7.out)
            clear hb7 HG6 H6 B6 HS2
            go_wp2_with fail
            refine HS7.out.mono ?_
            rintro _ w8 ⟨rfl, hb8⟩
            have B8 := B7.out.below hb8
            have H8 := Lib.hid (H7.out.below hb8)
            have hlt8 := B8.lt
            clear hb8 HS7 H7 B7
            obtain ⟨c0, c1, c2⟩ := B8
            have B9 := Lib.hid ((⟨c0, c1, c2⟩ : Bx3 w8 b1 _ _ _).below (dn.below_alloc w8 (.cells #[.int .i64 kd, .int .i64 z2, .int .i64 (lk + 1)] 61)))
            have H9 := Lib.hid (H8.out.beside (Y := fun b => b = b1) (dn.below_alloc w8 (.cells #[.int .i64 kd, .int .i64 z2, .int .i64 (lk + 1)] 61)) (fun b hb => .inl hb))
            have hw1 : (4294967296 : Int) * 0 = 0 := rfl
            clear H8 hw1
            obtain ⟨c5, w10, hcv, hc1, hc2, hb10, hlt10, hf10⟩ := conv_bytes (w8.alloc (.cells #[.int .i64 kd, .int .i64 z2, .int .i64 (lk + 1)] 61)) dt (by omega)
            have B10 := Lib.hid (B9.out.below hb10)
            have HX := Lib.hid (x_dataX H9.out hc1 hc2 hb10 hlt10 hf10 (I : Int) 0)
            rw [World.size_alloc] at HX
            clear H9 B9 hc1 hc2 hb10 hlt10 hf10
            go_wp2_with fail
            refine HX.out.mono ?_
            rintro _ w11 ⟨p, err, S2, hw, rfl, h11, hs11⟩
            have B11 := Lib.hid (B10.out.same hs11 rfl)
            have H11 := Lib.hid h11
            have HR := Lib.hid (x_read h11 (I : Int) 0 (p : Int))
            unfold ReadI at HR
            clear h11 hs11 HX B10 hcv
            by_cases hk1 : kd = 1
            · obtain ⟨p1, p2, p3, p4⟩ := HWR.out _ _ _ _ _ hw hk1
              rw [p3] at HR
              dsimp only at HR
              have HP4 := Lib.hid p4
              clear HWR HWN hw p3 p4
              subst hk1
              go_wp2_with fail
              refine HR.out.mono ?_
              rintro _ w12 ⟨A12, c12, rfl, hr12, hb12⟩
              obtain ⟨d0, d1, d2⟩ := B11.out.below hb12
              have H12 := Lib.hid (H11.out.below hb12)
              have hcv := fun nq => bl.Row.conv (w := w12.drewN nq) hr12
              have hsub := sub_str dt p p1 _ HP4.out
              rw [hsub] at hcv
              clear hr12 hb12 HR H11 B11 hsub HP4 c0 c1 c2
              rcases p2 with rfl | rfl
              · go_wp2_with fail
                go_quiet (fail)
                go_wp2_with fail
                go_ret
                exact ⟨by simp, dn.below_drewN H12.out.bel _⟩
              · go_wp2_with fail
                go_quiet (fail)
                go_wp2_with fail
                go_ret
                exact ⟨by simp, dn.below_drewN H12.out.bel _⟩
            · obtain ⟨p1, p2⟩ := HWN.out _ _ _ _ _ hw hk1
              subst p1
              subst p2
              have q1 : (kd != 1) = true := by simpa using hk1
              generalize (readI S2 (I : Int) 0 ((0 : Nat) : Int)).1 = e5 at *
              generalize (readI S2 (I : Int) 0 ((0 : Nat) : Int)).2 = n5 at *
              clear HWR HWN hw hk1
              go_wp2_with fail
              refine HR.out.mono ?_
              rintro _ w12 ⟨A12, c12, rfl, hr12, hb12⟩
              obtain ⟨d0, d1, d2⟩ := B11.out.below hb12
              have H12 := Lib.hid (H11.out.below hb12)
              clear hr12 hb12 HR H11 B11 c0 c1 c2
              go_wp2_with fail
              go_quiet (fail)
              go_wp2_with fail
              go_ret
              exact ⟨by simp, dn.below_drewN H12.out.bel _⟩
          · have HLK := Lib.hid (fun w5 (h : BrX w w5 P No S room 80) => x_link h t u i hu)
            rw [link_err hl] at HLK
            generalize (S.link t u i).1 = e2 at *
            have q2 : (e2 != 0) = true := by simpa using hl
            generalize (S.stat i).1.1 = a1 at *
            generalize ((S.stat i).1.2.1 : Int) = a2 at *
            generalize (S.stat i).1.2.2 = a3 at *
            generalize (S.stat i).2 = a4 at *
            clear hl
            go_wp2_with fail
            refine HS.out.mono ?_
            rintro _ w5 ⟨rfl, hb5⟩
            have H5 := Lib.hid (fun ob => (H4.out.below hb5).below (dn.below_alloc w5 ob))
            have HL5 := Lib.hid (fun ob => HLK.out _ (H5.out ob))
            clear hb5 HS H4 HLK H5
            go_wp2_with fail
            refine (HL5.out _).mono ?_
            rintro _ w6 ⟨rfl, h6, -⟩
            have H6 := Lib.hid h6
            clear h6 HL5
            go_wp2_with fail
            go_ret
            exact ⟨by simp, H6.out.bel⟩
        · have q0 : (e0 != 0) = true := by simpa using hq
          generalize (S.stat i).1.1 = a1 at *
          generalize ((S.stat i).1.2.1 : Int) = a2 at *
          generalize (S.stat i).1.2.2 = a3 at *
          generalize (S.stat i).2 = a4 at *
          clear hq
          go_wp2_with fail
          refine HS.out.mono ?_
          rintro _ w5 ⟨rfl, hb5⟩
          have H5 := Lib.hid (fun ob => (H4.out.below hb5).below (dn.below_alloc w5 ob))
          clear hb5 HS H4
          go_wp2_with fail
          go_ret
          exact ⟨by simp, (H5.out _).bel⟩

set_option maxRecDepth 100000 in
theorem lifted (os : Os) (started : os.Started) (H : Type) (enc : TypeId × Value → H) :
    ReturnsInHanded {} Tryz.checked os 10 .any (Rows.branchNamesSpec.pre6 enc Tryz.prog Tryz.f10 Rows.branchNamesRow.domain false) (Rows.branchNamesSpec.post enc Tryz.prog Tryz.f10 false true false false) := by
  refine returnsInHanded_of_change (C := Tryz.checked) own started (by kernel_rfl) Tryz.func10
    (ChangeSpec.witness6 (enc := enc) (C := Tryz.checked) false ⟨#[], #[.int .i64 0, .slice none 0 0, .int .i64 0, .string ByteArray.empty, .int .i64 0, .string ByteArray.empty, .string ByteArray.empty], []⟩ 8 (by kernel_rfl) (by kernel_rfl) (by kernel_rfl) (by kernel_rfl)) ?_
  intro W base args ds gs before hval0 hW hcnd _
  have hval : ∀ (j : Nat) t v, Tryz.f10.params[j]? = some t → args[j]? = some v → Value.okWide Tryz.prog W .any base t v := hval0
  have hW' := hW
  obtain ⟨p, q, hA0, hV, rfl, hfz, hnd⟩ := hW
  have hA : DataW.TrodAll enc Tryz.prog W 0 (fun _ => true) true Tryz.f10.params.toList args.toList ds p := hA0
  rw [Tryz.params10] at hA hval
  obtain ⟨v0, vs0, d0, ds0, p0, q0, hargs, rfl, rfl, h0, r0⟩ := trodAll_cons hA
  obtain ⟨v1, vs1, d1, ds1, p1, q1, rfl, rfl, rfl, h1, r1⟩ := trodAll_cons r0
  obtain ⟨v2, vs2, d2, ds2, p2, q2, rfl, rfl, rfl, h2, r2⟩ := trodAll_cons r1
  obtain ⟨v3, vs3, d3, ds3, p3, q3, rfl, rfl, rfl, h3, r3⟩ := trodAll_cons r2
  obtain ⟨v4, vs4, d4, ds4, p4, q4, rfl, rfl, rfl, h4, r4⟩ := trodAll_cons r3
  obtain ⟨v5, vs5, d5, ds5, p5, q5, rfl, rfl, rfl, h5, r5⟩ := trodAll_cons r4
  obtain ⟨v6, vs6, d6, ds6, p6, q6, rfl, rfl, rfl, h6, r6⟩ := trodAll_cons r5
  obtain ⟨rfl, rfl, rfl⟩ := trodAll_nil r6
  obtain rfl : args = #[v0, v1, v2, v3, v4, v5, v6] := by cases args; simp_all
  obtain ⟨rfl, rfl⟩ := trodVars_none hV
  have hlt := fun x hx => hW'.lt x hx
  obtain ⟨a0, rfl, rfl, rfl, w0⟩ := open_int Tryz.underlying3 (hval 0 3 v0 rfl rfl) h0
  have t1 := h1
  obtain ⟨A1, n1, c1, x1, rfl, e1, s1⟩ := open_acts (hval 1 22 v1 rfl rfl) h1
  obtain ⟨a2, rfl, rfl, rfl, w2⟩ := open_int Tryz.underlying3 (hval 2 3 v2 rfl rfl) h2
  obtain ⟨a3, rfl, rfl, rfl, w3⟩ := open_string Tryz.underlying9 (hval 3 9 v3 rfl rfl) h3
  obtain ⟨a4, rfl, rfl, rfl, w4⟩ := open_int Tryz.underlying3 (hval 4 3 v4 rfl rfl) h4
  obtain ⟨a5, rfl, rfl, rfl, w5⟩ := open_string Tryz.underlying9 (hval 5 9 v5 rfl rfl) h5
  obtain ⟨a6, rfl, rfl, rfl, w6⟩ := open_string Tryz.underlying9 (hval 6 9 v6 rfl rfl) h6
  clear hA0 hval0
  refine (walk a0 A1 n1 c1 x1 a2 a3 a4 a5 a6 W e1 s1 w3 w5 w6).mono fun e W' ⟨he, hg⟩ => ?_
  subst he
  exact ⟨_, rfl, law_post (pv := []) hW' (fun _ _ _ => (trodAll_cons_mk (shut_bool Tryz.underlying4 _) trodAll_mk0)) (fun sp hsp => (trodAll_cons_mk (shut_int Tryz.underlying3 w0) (trodAll_cons_mk (arg_stays t1 hg (by simp +contextual) hlt hsp laid) (trodAll_cons_mk (shut_int Tryz.underlying3 w2) (trodAll_cons_mk (shut_string Tryz.underlying9 w3) (trodAll_cons_mk (shut_int Tryz.underlying3 w4) (trodAll_cons_mk (shut_string Tryz.underlying9 w5) (trodAll_cons_mk (shut_string Tryz.underlying9 w6) trodAll_mk0)))))))) (fun _ _ => rfl) (by simp)
    hg (ok_one (by kernel_rfl) rfl (okWide_bool_mk Tryz.underlying4 _))⟩

theorem over : Rows.branchNamesRow.holds Tryz.pinned (OpenSpec.ofChange Rows.branchNamesSpec) :=
  OpenClaim.holds_of_wide 10 Tryz.f10 rfl rfl rfl rfl rfl rfl rfl ⟨rfl, rfl, rfl, rfl, rfl⟩ rfl rfl rfl rfl rfl (by kernel_rfl) Tryz.func10 (by kernel_rfl)
    (of_decide_eq_true (by kernel_rfl)) (by unfold Func.isWrapper; first | (rw [if_pos (by decide +kernel)]; kernel_rfl) | (rw [if_neg (by decide +kernel)]; exact ⟨rfl, rfl⟩))
    (fun os started H enc _ => lifted os started H enc)

/-- The statement. -/
theorem proved : Rows.BranchNamesSaid :=
  over
end Go.Proofs.YtlelnpckbcpkkaaGreat.branchNames
