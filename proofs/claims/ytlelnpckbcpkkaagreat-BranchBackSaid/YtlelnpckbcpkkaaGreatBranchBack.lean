/- For every room, every list of acts, every directory, name, kind and text the law BranchBack returns true, and what is handed in reads as it did; there are no conditions. -/
import Derived.Test.YtlelnpckbcpkkaaGreatZm
import Derived.Test.YtlelnpckbcpkkaaGreatZn
import Derived.Test.YtlelnpckbcpkkaaGreatZt
import Derived.Deep.RegionWith
import Derived.Deep.QuietTactic
import Derived.BigQuiet
import Derived.ProofKit
import Derived.OpenShut
import Derived.ShutString
namespace Go.Proofs.YtlelnpckbcpkkaaGreat.branchBack
open Go.ChangeShapes Go.WideShapes Go.ChangeAt Go.RowKit
open Go.ChangeMaps (open_string shut_string)
open Go.Proofs.YtlelnpckbcpkkaaGreat.cb
set_option linter.unusedVariables false

theorem own : ownKnob Tryz.prog.godebug = none := by kernel_rfl
theorem laid : laidOutB Tryz.prog = true := by kernel_rfl

open Go.Proofs.YtlelnpckbcpkkaaGreat.br
open Go.Proofs.YtlelnpckbcpkkaaGreat.bl (Pq)
open Go.Proofs.YtlelnpckbcpkkaaGreat.dn (lget lset nerr dotB)

theorem make_err {S : BS} {d : Int} {s t : ByteArray} {kd : Int} (h : (S.make d s kd t).1.2 ≠ 0) : (S.make d s kd t).2 = S := by
  unfold BS.make at h ⊢
  split
  · rfl
  · split
    · rfl
    · rename_i h1 h2
      rw [if_neg h1, if_neg h2] at h
      dsimp only at h ⊢
      split
      · rfl
      · rename_i h3
        rw [if_neg h3] at h
        exact absurd rfl h
/-- What is made and written. -/
theorem wr_made {S S1 S2 : BS} {room D n : Nat} {s : ByteArray} {kd : Int} {len p : Nat} {f : Nat → UInt8} {err : Int} (h : MadeI S S1 D n s kd) (hb : (S1.ino n).body = abE) (hw : WrI S1 room (n : Int) 0 len f p err S2) : MadeI S S2 D n s kd := by
  rcases hw with ⟨_, _, _, rfl⟩ | ⟨_, _, _, _, rfl⟩
  · exact h
  · exact h.wrote hb 0 p f
theorem back_made {S S2 : BS} {room : Nat} (hG : br.Good S room) {D n : Nat} {s : ByteArray} {kd : Int} (h : MadeI S S2 D n s kd) : (kd = 2 → S2.rmdir (D : Int) s = (0, S)) ∧ (kd ≠ 2 → S2.unlink (D : Int) s = (0, S)) := ⟨fun e => by subst e; exact back_dir hG h, fun e => back_file hG h e⟩

set_option maxHeartbeats 8000000 in
set_option maxRecDepth 100000 in
theorem walk (r : Int) (A : Option Addr) (n c : Nat) (F : Nat → Act7) (d : Int) (s : ByteArray) (kd : Int) (dt : ByteArray) (w : World) (k1 : n ≤ c ∧ c ≤ maxLen) (hF : Acts w w.heap.size A n F) (ws : s.size ≤ maxLen) (wd : dt.size ≤ maxLen) :
    Calls Tryz.prog 9 #[.int .i64 r, .slice A n c, .int .i64 d, .string s, .int .i64 kd, .string dt] w (AwakeE w) := by
  have hnm : n ≤ maxLen := Nat.le_trans k1.1 k1.2
  have hs : s.size ≤ 9223372036854775807 := ws
  have hdl : (dt.size : Int) ≤ 9223372036854775807 := by unfold maxLen at wd; omega
  have HAW := Lib.hid (awake_any w)
  have HPL := Lib.hid (fun w1 P room (S : BS) (hb : BrX w w1 P No S room 0) => play_any A n c F w w1 P room hnm hF hb)
  clear k1 hF ws hnm wd
  by_cases hr : r < 0 ∨ 65536 < r
  · have HN := Lib.hid (fun w1 => new_no r w1 hr)
    clear HPL hr
    go_enter Tryz.func9, Tryz.ntmps9
    go_wp2_with fail
    refine HAW.out.mono ?_
    rintro e w1 ⟨rfl, hb1⟩
    go_wp2_with fail
    refine (HN.out _).mono ?_
    rintro e w2 ⟨rfl, rfl⟩
    go_wp2_with fail
    go_ret
    exact ⟨rfl, hb1⟩
  · obtain ⟨room, rfl⟩ : ∃ room : Nat, r = (room : Int) := ⟨r.toNat, by omega⟩
    have HN := Lib.hid (fun w1 (hb : Below w.heap.size w w1) => x_new (w0 := w) (w := w1) room (by omega) hb)
    clear hr
    go_enter Tryz.func9, Tryz.ntmps9
    go_wp2_with fail
    refine HAW.out.mono ?_
    rintro e w1 ⟨rfl, hb1⟩
    have HN2 := Lib.hid (HN.out w1 hb1)
    clear HN hb1 HAW
    go_wp2_with fail
    refine HN2.out.mono ?_
    rintro e w2 ⟨P, rfl, h2, -, -⟩
    have HP2 := Lib.hid (HPL.out w2 P room fresh h2.forget)
    clear h2 HN2 HPL
    go_wp2_with fail
    refine HP2.out.mono ?_
    rintro e w3 ⟨b, S, rfl, h3⟩
    have H3 := Lib.hid h3
    have HT3 := Lib.hid (tell_any h3)
    obtain ⟨ts, hts⟩ : ∃ ts, toldS S = ts := ⟨_, rfl⟩
    have HTS := Lib.hid hts
    rw [hts] at HT3
    clear h3 HP2 hts
    cases b
    · clear HT3
      go_wp2_with fail
      go_ret
      exact ⟨rfl, H3.out.bel⟩
    · by_cases hd : (4096 : Int) < (dt.size : Int)
      · clear HT3
        go_wp2_with fail
        go_ret
        exact ⟨rfl, H3.out.bel⟩
      · go_wp2_with fail
        refine HT3.out.mono ?_
        rintro _ w4 ⟨rfl, hb4⟩
        have H4 := Lib.hid (H3.out.below hb4)
        clear hb4 HT3 H3
        by_cases k3 : kd = 3
        · subst k3
          have HM := Lib.hid (x_make H4.out (by omega) d s 3 ⟨#[116]⟩ hs (by decide))
          by_cases hm : (S.make d s 3 ⟨#[116]⟩).1.2 = 0
          · obtain ⟨D, n0, rfl, e1, hMI, hbo⟩ := made_of H4.out.good hm
            have HMI := Lib.hid hMI
            have HBO := Lib.hid hbo
            have HG := Lib.hid H4.out.good
            rw [e1, hm] at HM
            generalize (S.make (D : Int) s 3 ⟨#[116]⟩).2 = S1 at *
            clear hm e1 hMI hbo H4
            go_wp2_with fail
            refine HM.out.mono ?_
            rintro _ w5 ⟨rfl, h5, -⟩
            obtain ⟨c5, w6, hcv, hc1, hc2, hb6, hlt6, hf6⟩ := conv_bytes w5 dt (by omega)
            have HX := Lib.hid (x_data h5 hc1 hc2 hb6 hlt6 hf6 (n0 : Int) 0)
            clear h5 HM hc1 hc2 hb6 hlt6 hf6
            go_wp2_with fail
            refine HX.out.mono ?_
            rintro _ w7 ⟨p, err, S2, hw, rfl, h7⟩
            have HB := Lib.hid (back_made HG.out (wr_made HMI.out HBO.out hw))
            have H7 := Lib.hid h7
            have HR := Lib.hid (x_rmdir h7 (by omega) (D : Int) s)
            have HU := Lib.hid (x_unlink h7 (by omega) (D : Int) s)
            clear h7 HX hw HMI HBO HG hcv
            have HZ := Lib.hid HU.out
            rw [HB.out.2 (by omega)] at HZ
            clear HR HU HB H7
            go_wp2_with fail
            refine HZ.out.mono ?_
            rintro _ w8 ⟨rfl, h8, -⟩
            have HT8 := Lib.hid (tell_any h8)
            rw [HTS.out] at HT8
            have H8 := Lib.hid h8
            clear h8 HZ
            go_wp2_with fail
            refine HT8.out.mono ?_
            rintro _ w9 ⟨rfl, hb9⟩
            have H9 := Lib.hid (H8.out.below hb9)
            clear hb9 H8 HT8
            go_wp2_with fail
            go_ret
            exact ⟨by simp, H9.out.bel⟩
          · have HE := Lib.hid (make_err hm)
            rw [HE.out] at HM
            generalize (S.make d s 3 ⟨#[116]⟩).1.1 = i0 at *
            generalize (S.make d s 3 ⟨#[116]⟩).1.2 = e0 at *
            have q0 : (e0 != 0) = true := by simpa using hm
            clear HE hm H4
            go_wp2_with fail
            refine HM.out.mono ?_
            rintro _ w5 ⟨rfl, h5, -⟩
            have HT5 := Lib.hid (tell_any h5)
            rw [HTS.out] at HT5
            have H5 := Lib.hid h5
            clear h5 HM
            go_wp2_with fail
            refine HT5.out.mono ?_
            rintro _ w6 ⟨rfl, hb6⟩
            have H6 := Lib.hid (H5.out.below hb6)
            clear hb6 H5 HT5
            go_wp2_with fail
            go_ret
            exact ⟨by simp, H6.out.bel⟩
        · have q3 : (kd == 3) = false := by simpa using k3
          have HM := Lib.hid (x_make H4.out (by omega) d s kd ⟨#[]⟩ hs (by decide))
          by_cases hm : (S.make d s kd ⟨#[]⟩).1.2 = 0
          · obtain ⟨D, n0, rfl, e1, hMI, hbo⟩ := made_of H4.out.good hm
            have HMI := Lib.hid hMI
            have HBO := Lib.hid hbo
            have HG := Lib.hid H4.out.good
            rw [e1, hm] at HM
            generalize (S.make (D : Int) s kd ⟨#[]⟩).2 = S1 at *
            clear hm e1 hMI hbo H4
            go_wp2_with fail
            refine HM.out.mono ?_
            rintro _ w5 ⟨rfl, h5, -⟩
            obtain ⟨c5, w6, hcv, hc1, hc2, hb6, hlt6, hf6⟩ := conv_bytes w5 dt (by omega)
            have HX := Lib.hid (x_data h5 hc1 hc2 hb6 hlt6 hf6 (n0 : Int) 0)
            clear h5 HM hc1 hc2 hb6 hlt6 hf6
            go_wp2_with fail
            refine HX.out.mono ?_
            rintro _ w7 ⟨p, err, S2, hw, rfl, h7⟩
            have HB := Lib.hid (back_made HG.out (wr_made HMI.out HBO.out hw))
            have H7 := Lib.hid h7
            have HR := Lib.hid (x_rmdir h7 (by omega) (D : Int) s)
            have HU := Lib.hid (x_unlink h7 (by omega) (D : Int) s)
            clear h7 HX hw HMI HBO HG hcv
            by_cases k2 : kd = 2
            · subst k2
              have HZ := Lib.hid HR.out
              rw [HB.out.1 (by rfl)] at HZ
              clear HR HU HB H7
              go_wp2_with fail
              refine HZ.out.mono ?_
              rintro _ w8 ⟨rfl, h8, -⟩
              have HT8 := Lib.hid (tell_any h8)
              rw [HTS.out] at HT8
              have H8 := Lib.hid h8
              clear h8 HZ
              go_wp2_with fail
              refine HT8.out.mono ?_
              rintro _ w9 ⟨rfl, hb9⟩
              have H9 := Lib.hid (H8.out.below hb9)
              clear hb9 H8 HT8
              go_wp2_with fail
              go_ret
              exact ⟨by simp, H9.out.bel⟩
            · have q2 : (kd == 2) = false := by simpa using k2
              have HZ := Lib.hid HU.out
              rw [HB.out.2 (by omega)] at HZ
              clear HR HU HB H7
              go_wp2_with fail
              refine HZ.out.mono ?_
              rintro _ w8 ⟨rfl, h8, -⟩
              have HT8 := Lib.hid (tell_any h8)
              rw [HTS.out] at HT8
              have H8 := Lib.hid h8
              clear h8 HZ
              go_wp2_with fail
              refine HT8.out.mono ?_
              rintro _ w9 ⟨rfl, hb9⟩
              have H9 := Lib.hid (H8.out.below hb9)
              clear hb9 H8 HT8
              go_wp2_with fail
              go_ret
              exact ⟨by simp, H9.out.bel⟩
          · have HE := Lib.hid (make_err hm)
            rw [HE.out] at HM
            generalize (S.make d s kd ⟨#[]⟩).1.1 = i0 at *
            generalize (S.make d s kd ⟨#[]⟩).1.2 = e0 at *
            have q0 : (e0 != 0) = true := by simpa using hm
            clear HE hm H4
            go_wp2_with fail
            refine HM.out.mono ?_
            rintro _ w5 ⟨rfl, h5, -⟩
            have HT5 := Lib.hid (tell_any h5)
            rw [HTS.out] at HT5
            have H5 := Lib.hid h5
            clear h5 HM
            go_wp2_with fail
            refine HT5.out.mono ?_
            rintro _ w6 ⟨rfl, hb6⟩
            have H6 := Lib.hid (H5.out.below hb6)
            clear hb6 H5 HT5
            go_wp2_with fail
            go_ret
            exact ⟨by simp, H6.out.bel⟩

set_option maxRecDepth 100000 in
theorem lifted (os : Os) (started : os.Started) (H : Type) (enc : TypeId × Value → H) :
    ReturnsInHanded {} Tryz.checked os 9 .any (Rows.branchBackSpec.pre6 enc Tryz.prog Tryz.f9 Rows.branchBackRow.domain false) (Rows.branchBackSpec.post enc Tryz.prog Tryz.f9 false true false false) := by
  refine returnsInHanded_of_change (C := Tryz.checked) own started (by kernel_rfl) Tryz.func9
    (ChangeSpec.witness6 (enc := enc) (C := Tryz.checked) false ⟨#[], #[.int .i64 0, .slice none 0 0, .int .i64 0, .string ByteArray.empty, .int .i64 0, .string ByteArray.empty], []⟩ 8 (by kernel_rfl) (by kernel_rfl) (by kernel_rfl) (by kernel_rfl)) ?_
  intro W base args ds gs before hval0 hW hcnd _
  have hval : ∀ (j : Nat) t v, Tryz.f9.params[j]? = some t → args[j]? = some v → Value.okWide Tryz.prog W .any base t v := hval0
  have hW' := hW
  obtain ⟨p, q, hA0, hV, rfl, hfz, hnd⟩ := hW
  have hA : DataW.TrodAll enc Tryz.prog W 0 (fun _ => true) true Tryz.f9.params.toList args.toList ds p := hA0
  rw [Tryz.params9] at hA hval
  obtain ⟨v0, vs0, d0, ds0, p0, q0, hargs, rfl, rfl, h0, r0⟩ := trodAll_cons hA
  obtain ⟨v1, vs1, d1, ds1, p1, q1, rfl, rfl, rfl, h1, r1⟩ := trodAll_cons r0
  obtain ⟨v2, vs2, d2, ds2, p2, q2, rfl, rfl, rfl, h2, r2⟩ := trodAll_cons r1
  obtain ⟨v3, vs3, d3, ds3, p3, q3, rfl, rfl, rfl, h3, r3⟩ := trodAll_cons r2
  obtain ⟨v4, vs4, d4, ds4, p4, q4, rfl, rfl, rfl, h4, r4⟩ := trodAll_cons r3
  obtain ⟨v5, vs5, d5, ds5, p5, q5, rfl, rfl, rfl, h5, r5⟩ := trodAll_cons r4
  obtain ⟨rfl, rfl, rfl⟩ := trodAll_nil r5
  obtain rfl : args = #[v0, v1, v2, v3, v4, v5] := by cases args; simp_all
  obtain ⟨rfl, rfl⟩ := trodVars_none hV
  have hlt := fun x hx => hW'.lt x hx
  obtain ⟨a0, rfl, rfl, rfl, w0⟩ := open_int Tryz.underlying3 (hval 0 3 v0 rfl rfl) h0
  have t1 := h1
  obtain ⟨A1, n1, c1, x1, rfl, e1, s1⟩ := open_acts (hval 1 22 v1 rfl rfl) h1
  obtain ⟨a2, rfl, rfl, rfl, w2⟩ := open_int Tryz.underlying3 (hval 2 3 v2 rfl rfl) h2
  obtain ⟨a3, rfl, rfl, rfl, w3⟩ := open_string Tryz.underlying9 (hval 3 9 v3 rfl rfl) h3
  obtain ⟨a4, rfl, rfl, rfl, w4⟩ := open_int Tryz.underlying3 (hval 4 3 v4 rfl rfl) h4
  obtain ⟨a5, rfl, rfl, rfl, w5⟩ := open_string Tryz.underlying9 (hval 5 9 v5 rfl rfl) h5
  clear hA0 hval0
  refine (walk a0 A1 n1 c1 x1 a2 a3 a4 a5 W e1 s1 w3 w5).mono fun e W' ⟨he, hg⟩ => ?_
  subst he
  exact ⟨_, rfl, law_post (pv := []) hW' (fun _ _ _ => (trodAll_cons_mk (shut_bool Tryz.underlying4 _) trodAll_mk0)) (fun sp hsp => (trodAll_cons_mk (shut_int Tryz.underlying3 w0) (trodAll_cons_mk (arg_stays t1 hg (by simp +contextual) hlt hsp laid) (trodAll_cons_mk (shut_int Tryz.underlying3 w2) (trodAll_cons_mk (shut_string Tryz.underlying9 w3) (trodAll_cons_mk (shut_int Tryz.underlying3 w4) (trodAll_cons_mk (shut_string Tryz.underlying9 w5) trodAll_mk0))))))) (fun _ _ => rfl) (by simp)
    hg (ok_one (by kernel_rfl) rfl (okWide_bool_mk Tryz.underlying4 _))⟩

theorem over : Rows.branchBackRow.holds Tryz.pinned (OpenSpec.ofChange Rows.branchBackSpec) :=
  OpenClaim.holds_of_wide 9 Tryz.f9 rfl rfl rfl rfl rfl rfl rfl ⟨rfl, rfl, rfl, rfl, rfl⟩ rfl rfl rfl rfl rfl (by kernel_rfl) Tryz.func9 (by kernel_rfl)
    (of_decide_eq_true (by kernel_rfl)) (by unfold Func.isWrapper; first | (rw [if_pos (by decide +kernel)]; kernel_rfl) | (rw [if_neg (by decide +kernel)]; exact ⟨rfl, rfl⟩))
    (fun os started H enc _ => lifted os started H enc)

/-- The statement. -/
theorem proved : Rows.BranchBackSaid :=
  over
end Go.Proofs.YtlelnpckbcpkkaaGreat.branchBack
