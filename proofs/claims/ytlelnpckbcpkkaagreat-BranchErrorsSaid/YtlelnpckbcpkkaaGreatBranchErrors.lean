/- For every room, every list of acts and every act the law BranchErrors returns true, and what is handed in reads as it did; there are no conditions. -/
import Derived.Test.YtlelnpckbcpkkaaGreatZm
import Derived.Test.YtlelnpckbcpkkaaGreatZn
import Derived.Test.YtlelnpckbcpkkaaGreatZt
import Derived.Test.YtlelnpckbcpkkaaGreatEr
import Derived.Test.YtlelnpckbcpkkaaGreatAv
import Derived.Deep.RegionWith
import Derived.Deep.QuietTactic
import Derived.BigQuiet
import Derived.ProofKit
import Derived.OpenShut
import Derived.ShutString
namespace Go.Proofs.YtlelnpckbcpkkaaGreat.branchErrors
open Go.ChangeShapes Go.WideShapes Go.ChangeAt Go.RowKit
open Go.ChangeMaps (open_string shut_string)
open Go.Proofs.YtlelnpckbcpkkaaGreat.cb
set_option linter.unusedVariables false

theorem own : ownKnob Tryz.prog.godebug = none := by kernel_rfl
theorem laid : laidOutB Tryz.prog = true := by kernel_rfl

open Go.Proofs.YtlelnpckbcpkkaaGreat.br
open Go.Proofs.YtlelnpckbcpkkaaGreat.bl (Pq)
open Go.Proofs.YtlelnpckbcpkkaaGreat.dn (lget lset nerr dotB)

theorem make_err {S : BS} {d : Int} {s t : ByteArray} {kd : Int} (h : (S.make d s kd t).1.2 ≠ 0) : (S.make d s kd t).2 = S := by
  unfold BS.make at h ⊢
  split
  · rfl
  · split
    · rfl
    · rename_i h1 h2
      rw [if_neg h1, if_neg h2] at h
      dsimp only at h ⊢
      split
      · rfl
      · rename_i h3
        rw [if_neg h3] at h
        exact absurd rfl h
set_option maxHeartbeats 8000000 in
set_option maxRecDepth 100000 in
theorem walk (r : Int) (A : Option Addr) (n c : Nat) (F : Nat → Act7) (x : Act7) (w : World) (k1 : n ≤ c ∧ c ≤ maxLen) (hF : Acts w w.heap.size A n F) (wa : x.a.size ≤ maxLen) (wb : x.b.size ≤ maxLen) :
    Calls Tryz.prog 5 #[.int .i64 r, .slice A n c, ActV x] w (AwakeE w) := by
  have hnm : n ≤ maxLen := Nat.le_trans k1.1 k1.2
  have hxa : x.a.size ≤ 9223372036854775807 := wa
  have hxb : x.b.size ≤ 9223372036854775807 := wb
  obtain ⟨w0, hw0⟩ : ∃ w0, w.alloc (.cells #[.int .i64 x.kind, .int .i64 x.d, .int .i64 x.t, .int .i64 x.n, .string x.a, .string x.b, .int .i64 x.off] 29) = w0 := ⟨_, rfl⟩
  have hb0 : Below w.heap.size w w0 := by rw [← hw0]; exact dn.below_alloc w _
  have hz0 : w0.heap.size = w.heap.size + 1 := by rw [← hw0]; exact World.size_alloc _ _
  have hF0 : Acts w0 w0.heap.size A n F := (hF.below hb0).upto (by omega)
  have HBX := Lib.hid (fun w' (h : Below w0.heap.size w0 w') => box7 w w' _ _ _ _ _ _ _ _ (by rw [hw0]; exact h))
  have HB0 := Lib.hid hb0
  have HZ0 := Lib.hid hz0
  have HEND := Lib.hid (fun w' (h : Below w0.heap.size w0 w') => hb0.trans (h.mono (by omega)))
  have HAW := Lib.hid (awake_any w0)
  have HPL := Lib.hid (fun w1 P room (S : BS) (hb : BrX w0 w1 P No S room 0) => play_any A n c F w0 w1 P room hnm hF0 hb)
  have HL := Lib.hid (fun w => large_any x w wb)
  have hlb : largeB x = false → x.b.size ≤ 4096 := fun h => by
    unfold largeB at h
    simp at h
    exact h.1
  generalize hlg : largeB x = lg at *
  obtain ⟨xk, xd, xt, xn, xa, xb, xo⟩ := x
  dsimp only at hxa hxb HL hlb hw0 HBX
  clear k1 hF hF0 hnm wa wb hb0 hz0 hlg
  by_cases hr : r < 0 ∨ 65536 < r
  · have HN := Lib.hid (fun w1 => new_no r w1 hr)
    clear HPL hr HL HBX hlb
    go_enter Tryz.func5, Tryz.ntmps5
    go_wp2_with fail
    refine HAW.out.mono ?_
    rintro e w1 ⟨rfl, hb1⟩
    go_wp2_with fail
    refine (HN.out _).mono ?_
    rintro e w2 ⟨rfl, rfl⟩
    go_wp2_with fail
    go_ret
    exact ⟨rfl, HEND.out _ hb1⟩
  · obtain ⟨room, rfl⟩ : ∃ room : Nat, r = (room : Int) := ⟨r.toNat, by omega⟩
    have HN := Lib.hid (fun w1 (hb : Below w0.heap.size w0 w1) => x_new (w0 := w0) (w := w1) room (by omega) hb)
    clear hr
    go_enter Tryz.func5, Tryz.ntmps5
    go_wp2_with fail
    refine HAW.out.mono ?_
    rintro e w1 ⟨rfl, hb1⟩
    have HN2 := Lib.hid (HN.out w1 hb1)
    clear HN hb1 HAW hw0
    go_wp2_with fail
    refine HN2.out.mono ?_
    rintro e w2 ⟨P, rfl, h2, -, -⟩
    have HP2 := Lib.hid (HPL.out w2 P room fresh h2.forget)
    clear h2 HN2 HPL
    go_wp2_with fail
    refine HP2.out.mono ?_
    rintro e w3 ⟨b, S, rfl, h3⟩
    have H3 := Lib.hid h3
    clear h3 HP2
    cases b
    · clear HL HBX hlb
      go_wp2_with fail
      go_ret
      exact ⟨rfl, HEND.out _ H3.out.bel⟩
    · obtain ⟨b0, b1, b2, b3, b4, b5, b6⟩ := HBX.out _ H3.out.bel
      go_wp2_with fail
      refine (HL.out _).mono ?_
      rintro e w4 ⟨rfl, hb4⟩
      have H4 := Lib.hid (H3.out.below hb4)
      clear hb4 HL H3 b0 b1 b2 b3 b4 b5 b6
      cases lg with
      | true =>
        clear HBX hlb
        go_wp2_with fail
        go_ret
        exact ⟨rfl, HEND.out _ H4.out.bel⟩
      | false =>
        have hx4 := hlb rfl
        clear hlb
        have HT4 := Lib.hid (tell_any H4.out)
        obtain ⟨ts, hts⟩ : ∃ ts, toldS S = ts := ⟨_, rfl⟩
        have HTS := Lib.hid hts
        rw [hts] at HT4
        clear hts
        go_wp2_with fail
        refine HT4.out.mono ?_
        rintro _ w5 ⟨rfl, hb5⟩
        have H5 := Lib.hid (H4.out.below hb5)
        clear hb5 HT4 H4
        obtain ⟨b0, b1, b2, b3, b4, b5, b6⟩ := HBX.out _ H5.out.bel
        clear HBX
        by_cases e0 : xk = 0
        · as_aux_lemma =>
            subst e0
            have HX := Lib.hid (x_make H5.out (by omega) xd xa xn xb hxa hxb)
            by_cases hm : (S.make xd xa xn xb).1.2 = 0
            · rw [hm] at HX
              generalize (S.make xd xa xn xb).1.1 = i0 at *
              generalize (S.make xd xa xn xb).2 = S2 at *
              clear H5 hm
              go_wp2_with fail
              refine HX.out.mono ?_
              rintro _ w6 ⟨rfl, h6, -⟩
              have H6 := Lib.hid h6
              clear h6 HX b0 b1 b2 b3 b4 b5 b6
              go_wp2_with fail
              go_ret
              exact ⟨by simp, HEND.out _ H6.out.bel⟩
            · rw [make_err hm] at HX
              generalize (S.make xd xa xn xb).1.1 = i0 at *
              generalize (S.make xd xa xn xb).1.2 = e0 at *
              have q0 : (e0 == 0) = false := by simpa using hm
              clear H5 hm
              go_wp2_with fail
              refine HX.out.mono ?_
              rintro _ w6 ⟨rfl, h6, -⟩
              have H6 := Lib.hid h6
              clear h6 HX b0 b1 b2 b3 b4 b5 b6
              have HT6 := Lib.hid (tell_any H6.out)
              rw [HTS.out] at HT6
              go_wp2_with fail
              refine HT6.out.mono ?_
              rintro _ w7 ⟨rfl, hb7⟩
              have H7 := Lib.hid (H6.out.below hb7)
              clear hb7 H6 HT6
              go_wp2_with fail
              go_ret
              exact ⟨by simp, HEND.out _ H7.out.bel⟩
        by_cases e1 : xk = 1
        · as_aux_lemma =>
            subst e1
            have HX := Lib.hid (x_link H5.out xd xa xt hxa)
            by_cases hm : (S.link xd xa xt).1 = 0
            · rw [hm] at HX
              skip
              generalize (S.link xd xa xt).2 = S2 at *
              clear H5 hm
              go_wp2_with fail
              refine HX.out.mono ?_
              rintro _ w6 ⟨rfl, h6, -⟩
              have H6 := Lib.hid h6
              clear h6 HX b0 b1 b2 b3 b4 b5 b6
              go_wp2_with fail
              go_ret
              exact ⟨by simp, HEND.out _ H6.out.bel⟩
            · rw [link_err hm] at HX
              skip
              generalize (S.link xd xa xt).1 = e0 at *
              have q0 : (e0 == 0) = false := by simpa using hm
              clear H5 hm
              go_wp2_with fail
              refine HX.out.mono ?_
              rintro _ w6 ⟨rfl, h6, -⟩
              have H6 := Lib.hid h6
              clear h6 HX b0 b1 b2 b3 b4 b5 b6
              have HT6 := Lib.hid (tell_any H6.out)
              rw [HTS.out] at HT6
              go_wp2_with fail
              refine HT6.out.mono ?_
              rintro _ w7 ⟨rfl, hb7⟩
              have H7 := Lib.hid (H6.out.below hb7)
              clear hb7 H6 HT6
              go_wp2_with fail
              go_ret
              exact ⟨by simp, HEND.out _ H7.out.bel⟩
        by_cases e2 : xk = 2
        · as_aux_lemma =>
            subst e2
            have HX := Lib.hid (x_unlink H5.out (by omega) xd xa)
            by_cases hm : (S.unlink xd xa).1 = 0
            · rw [hm] at HX
              skip
              generalize (S.unlink xd xa).2 = S2 at *
              clear H5 hm
              go_wp2_with fail
              refine HX.out.mono ?_
              rintro _ w6 ⟨rfl, h6, -⟩
              have H6 := Lib.hid h6
              clear h6 HX b0 b1 b2 b3 b4 b5 b6
              go_wp2_with fail
              go_ret
              exact ⟨by simp, HEND.out _ H6.out.bel⟩
            · rw [unlink_err hm] at HX
              skip
              generalize (S.unlink xd xa).1 = e0 at *
              have q0 : (e0 == 0) = false := by simpa using hm
              clear H5 hm
              go_wp2_with fail
              refine HX.out.mono ?_
              rintro _ w6 ⟨rfl, h6, -⟩
              have H6 := Lib.hid h6
              clear h6 HX b0 b1 b2 b3 b4 b5 b6
              have HT6 := Lib.hid (tell_any H6.out)
              rw [HTS.out] at HT6
              go_wp2_with fail
              refine HT6.out.mono ?_
              rintro _ w7 ⟨rfl, hb7⟩
              have H7 := Lib.hid (H6.out.below hb7)
              clear hb7 H6 HT6
              go_wp2_with fail
              go_ret
              exact ⟨by simp, HEND.out _ H7.out.bel⟩
        by_cases e3 : xk = 3
        · as_aux_lemma =>
            subst e3
            have HX := Lib.hid (x_rmdir H5.out (by omega) xd xa)
            by_cases hm : (S.rmdir xd xa).1 = 0
            · rw [hm] at HX
              skip
              generalize (S.rmdir xd xa).2 = S2 at *
              clear H5 hm
              go_wp2_with fail
              refine HX.out.mono ?_
              rintro _ w6 ⟨rfl, h6, -⟩
              have H6 := Lib.hid h6
              clear h6 HX b0 b1 b2 b3 b4 b5 b6
              go_wp2_with fail
              go_ret
              exact ⟨by simp, HEND.out _ H6.out.bel⟩
            · rw [rmdir_err hm] at HX
              skip
              generalize (S.rmdir xd xa).1 = e0 at *
              have q0 : (e0 == 0) = false := by simpa using hm
              clear H5 hm
              go_wp2_with fail
              refine HX.out.mono ?_
              rintro _ w6 ⟨rfl, h6, -⟩
              have H6 := Lib.hid h6
              clear h6 HX b0 b1 b2 b3 b4 b5 b6
              have HT6 := Lib.hid (tell_any H6.out)
              rw [HTS.out] at HT6
              go_wp2_with fail
              refine HT6.out.mono ?_
              rintro _ w7 ⟨rfl, hb7⟩
              have H7 := Lib.hid (H6.out.below hb7)
              clear hb7 H6 HT6
              go_wp2_with fail
              go_ret
              exact ⟨by simp, HEND.out _ H7.out.bel⟩
        by_cases e4 : xk = 4
        · as_aux_lemma =>
            subst e4
            have HX := Lib.hid (x_rename H5.out (by omega) xd xa xt xb hxb)
            by_cases hm : (S.rename xd xa xt xb).1 = 0
            · rw [hm] at HX
              skip
              generalize (S.rename xd xa xt xb).2 = S2 at *
              clear H5 hm
              go_wp2_with fail
              refine HX.out.mono ?_
              rintro _ w6 ⟨rfl, h6, -⟩
              have H6 := Lib.hid h6
              clear h6 HX b0 b1 b2 b3 b4 b5 b6
              go_wp2_with fail
              go_ret
              exact ⟨by simp, HEND.out _ H6.out.bel⟩
            · rw [rename_err hm] at HX
              skip
              generalize (S.rename xd xa xt xb).1 = e0 at *
              have q0 : (e0 == 0) = false := by simpa using hm
              clear H5 hm
              go_wp2_with fail
              refine HX.out.mono ?_
              rintro _ w6 ⟨rfl, h6, -⟩
              have H6 := Lib.hid h6
              clear h6 HX b0 b1 b2 b3 b4 b5 b6
              have HT6 := Lib.hid (tell_any H6.out)
              rw [HTS.out] at HT6
              go_wp2_with fail
              refine HT6.out.mono ?_
              rintro _ w7 ⟨rfl, hb7⟩
              have H7 := Lib.hid (H6.out.below hb7)
              clear hb7 H6 HT6
              go_wp2_with fail
              go_ret
              exact ⟨by simp, HEND.out _ H7.out.bel⟩
        by_cases e7 : xk = 7
        · as_aux_lemma =>
            subst e7
            have HX := Lib.hid (x_cut H5.out xd xo)
            by_cases hm : (S.cutI xd xo).1 = 0
            · rw [hm] at HX
              skip
              generalize (S.cutI xd xo).2 = S2 at *
              clear H5 hm
              go_wp2_with fail
              refine HX.out.mono ?_
              rintro _ w6 ⟨rfl, h6, -⟩
              have H6 := Lib.hid h6
              clear h6 HX b0 b1 b2 b3 b4 b5 b6
              go_wp2_with fail
              go_ret
              exact ⟨by simp, HEND.out _ H6.out.bel⟩
            · rw [cut_err hm] at HX
              skip
              generalize (S.cutI xd xo).1 = e0 at *
              have q0 : (e0 == 0) = false := by simpa using hm
              clear H5 hm
              go_wp2_with fail
              refine HX.out.mono ?_
              rintro _ w6 ⟨rfl, h6, -⟩
              have H6 := Lib.hid h6
              clear h6 HX b0 b1 b2 b3 b4 b5 b6
              have HT6 := Lib.hid (tell_any H6.out)
              rw [HTS.out] at HT6
              go_wp2_with fail
              refine HT6.out.mono ?_
              rintro _ w7 ⟨rfl, hb7⟩
              have H7 := Lib.hid (H6.out.below hb7)
              clear hb7 H6 HT6
              go_wp2_with fail
              go_ret
              exact ⟨by simp, HEND.out _ H7.out.bel⟩
        by_cases e8 : xk = 8
        · as_aux_lemma =>
            subst e8
            have HX := Lib.hid (x_hold H5.out (by omega) xd)
            by_cases hm : (S.hold xd).1 = 0
            · rw [hm] at HX
              skip
              generalize (S.hold xd).2 = S2 at *
              clear H5 hm
              go_wp2_with fail
              refine HX.out.mono ?_
              rintro _ w6 ⟨rfl, h6, -⟩
              have H6 := Lib.hid h6
              clear h6 HX b0 b1 b2 b3 b4 b5 b6
              go_wp2_with fail
              go_ret
              exact ⟨by simp, HEND.out _ H6.out.bel⟩
            · rw [hold_err hm] at HX
              skip
              generalize (S.hold xd).1 = e0 at *
              have q0 : (e0 == 0) = false := by simpa using hm
              clear H5 hm
              go_wp2_with fail
              refine HX.out.mono ?_
              rintro _ w6 ⟨rfl, h6, -⟩
              have H6 := Lib.hid h6
              clear h6 HX b0 b1 b2 b3 b4 b5 b6
              have HT6 := Lib.hid (tell_any H6.out)
              rw [HTS.out] at HT6
              go_wp2_with fail
              refine HT6.out.mono ?_
              rintro _ w7 ⟨rfl, hb7⟩
              have H7 := Lib.hid (H6.out.below hb7)
              clear hb7 H6 HT6
              go_wp2_with fail
              go_ret
              exact ⟨by simp, HEND.out _ H7.out.bel⟩
        by_cases e9 : xk = 9
        · as_aux_lemma =>
            subst e9
            have HX := Lib.hid (x_release H5.out (by omega) xd)
            by_cases hm : (S.release xd).1 = 0
            · rw [hm] at HX
              skip
              generalize (S.release xd).2 = S2 at *
              clear H5 hm
              go_wp2_with fail
              refine HX.out.mono ?_
              rintro _ w6 ⟨rfl, h6, -⟩
              have H6 := Lib.hid h6
              clear h6 HX b0 b1 b2 b3 b4 b5 b6
              go_wp2_with fail
              go_ret
              exact ⟨by simp, HEND.out _ H6.out.bel⟩
            · rw [release_err hm] at HX
              skip
              generalize (S.release xd).1 = e0 at *
              have q0 : (e0 == 0) = false := by simpa using hm
              clear H5 hm
              go_wp2_with fail
              refine HX.out.mono ?_
              rintro _ w6 ⟨rfl, h6, -⟩
              have H6 := Lib.hid h6
              clear h6 HX b0 b1 b2 b3 b4 b5 b6
              have HT6 := Lib.hid (tell_any H6.out)
              rw [HTS.out] at HT6
              go_wp2_with fail
              refine HT6.out.mono ?_
              rintro _ w7 ⟨rfl, hb7⟩
              have H7 := Lib.hid (H6.out.below hb7)
              clear hb7 H6 HT6
              go_wp2_with fail
              go_ret
              exact ⟨by simp, HEND.out _ H7.out.bel⟩
        by_cases e10 : xk = 10
        · as_aux_lemma =>
            subst e10
            have HX := Lib.hid (x_mark H5.out xd xn)
            by_cases hm : (S.mark xd xn).1 = 0
            · rw [hm] at HX
              skip
              generalize (S.mark xd xn).2 = S2 at *
              clear H5 hm
              go_wp2_with fail
              refine HX.out.mono ?_
              rintro _ w6 ⟨rfl, h6, -⟩
              have H6 := Lib.hid h6
              clear h6 HX b0 b1 b2 b3 b4 b5 b6
              go_wp2_with fail
              go_ret
              exact ⟨by simp, HEND.out _ H6.out.bel⟩
            · rw [mark_err hm] at HX
              skip
              generalize (S.mark xd xn).1 = e0 at *
              have q0 : (e0 == 0) = false := by simpa using hm
              clear H5 hm
              go_wp2_with fail
              refine HX.out.mono ?_
              rintro _ w6 ⟨rfl, h6, -⟩
              have H6 := Lib.hid h6
              clear h6 HX b0 b1 b2 b3 b4 b5 b6
              have HT6 := Lib.hid (tell_any H6.out)
              rw [HTS.out] at HT6
              go_wp2_with fail
              refine HT6.out.mono ?_
              rintro _ w7 ⟨rfl, hb7⟩
              have H7 := Lib.hid (H6.out.below hb7)
              clear hb7 H6 HT6
              go_wp2_with fail
              go_ret
              exact ⟨by simp, HEND.out _ H7.out.bel⟩
        by_cases e5 : xk = 5
        · as_aux_lemma =>
            subst e5
            obtain ⟨c5, w5', hcv, hc1, hc2, hb5, hlt5, hf5⟩ := conv_bytes w5 xb (by omega)
            have HX := Lib.hid (x_data H5.out hc1 hc2 hb5 hlt5 hf5 xd xo)
            clear H5 hc1 hc2 hb5 hlt5 hf5
            go_wp2_with fail
            refine HX.out.mono ?_
            rintro _ w6 ⟨p, err, S', hw, rfl, h6⟩
            by_cases hm : err = 0
            · subst hm
              have H6 := Lib.hid h6
              clear h6 HX b0 b1 b2 b3 b4 b5 b6 hw
              go_wp2_with fail
              go_ret
              exact ⟨by simp, HEND.out _ H6.out.bel⟩
            · have hS := write_err hw hm
              subst hS
              have q0 : (err == 0) = false := by simpa using hm
              have H6 := Lib.hid h6
              clear h6 HX b0 b1 b2 b3 b4 b5 b6 hw hm
              have HT6 := Lib.hid (tell_any H6.out)
              rw [HTS.out] at HT6
              go_wp2_with fail
              refine HT6.out.mono ?_
              rintro _ w7 ⟨rfl, hb7⟩
              have H7 := Lib.hid (H6.out.below hb7)
              clear hb7 H6 HT6
              go_wp2_with fail
              go_ret
              exact ⟨by simp, HEND.out _ H7.out.bel⟩
        by_cases e6 : xk = 6
        · as_aux_lemma =>
            subst e6
            have HX := Lib.hid (x_read H5.out xd xo xn)
            unfold ReadI at HX
            go_wp2_with fail
            refine HX.out.mono ?_
            rintro _ w6 ⟨A6, c6, rfl, -, h6⟩
            have H6 := Lib.hid (H5.out.below h6)
            clear h6 HX b0 b1 b2 b3 b4 b5 b6 H5
            have HT6 := Lib.hid (tell_any H6.out)
            rw [HTS.out] at HT6
            go_wp2_with fail
            refine HT6.out.mono ?_
            rintro _ w7 ⟨rfl, hb7⟩
            have H7 := Lib.hid (H6.out.below hb7)
            clear hb7 H6 HT6
            go_wp2_with fail
            go_ret
            exact ⟨by simp, HEND.out _ H7.out.bel⟩
        have q0 : (xk == 0) = false := by simpa using e0
        have q1 : (xk == 1) = false := by simpa using e1
        have q2 : (xk == 2) = false := by simpa using e2
        have q3 : (xk == 3) = false := by simpa using e3
        have q4 : (xk == 4) = false := by simpa using e4
        have q5 : (xk == 5) = false := by simpa using e5
        have q6 : (xk == 6) = false := by simpa using e6
        have q7 : (xk == 7) = false := by simpa using e7
        have q8 : (xk == 8) = false := by simpa using e8
        have q9 : (xk == 9) = false := by simpa using e9
        have q10 : (xk == 10) = false := by simpa using e10
        clear e0 e1 e2 e3 e4 e5 e6 e7 e8 e9 e10
        go_wp2_with fail
        go_ret
        exact ⟨by simp, HEND.out _ H5.out.bel⟩

set_option maxRecDepth 100000 in
theorem lifted (os : Os) (started : os.Started) (H : Type) (enc : TypeId × Value → H) :
    ReturnsInHanded {} Tryz.checked os 5 .any (Rows.branchErrorsSpec.pre6 enc Tryz.prog Tryz.f5 Rows.branchErrorsRow.domain false) (Rows.branchErrorsSpec.post enc Tryz.prog Tryz.f5 false true false false) := by
  refine returnsInHanded_of_change (C := Tryz.checked) own started (by kernel_rfl) Tryz.func5
    (ChangeSpec.witness6 (enc := enc) (C := Tryz.checked) false ⟨#[], #[.int .i64 0, .slice none 0 0, .agg #[.int .i64 0, .int .i64 0, .int .i64 0, .int .i64 0, .string ByteArray.empty, .string ByteArray.empty, .int .i64 0]], []⟩ 8 (by kernel_rfl) (by kernel_rfl) (by kernel_rfl) (by kernel_rfl)) ?_
  intro W base args ds gs before hval0 hW hcnd _
  have hval : ∀ (j : Nat) t v, Tryz.f5.params[j]? = some t → args[j]? = some v → Value.okWide Tryz.prog W .any base t v := hval0
  have hW' := hW
  obtain ⟨p, q, hA0, hV, rfl, hfz, hnd⟩ := hW
  have hA : DataW.TrodAll enc Tryz.prog W 0 (fun _ => true) true Tryz.f5.params.toList args.toList ds p := hA0
  rw [Tryz.params5] at hA hval
  obtain ⟨v0, vs0, d0, ds0, p0, q0, hargs, rfl, rfl, h0, r0⟩ := trodAll_cons hA
  obtain ⟨v1, vs1, d1, ds1, p1, q1, rfl, rfl, rfl, h1, r1⟩ := trodAll_cons r0
  obtain ⟨v2, vs2, d2, ds2, p2, q2, rfl, rfl, rfl, h2, r2⟩ := trodAll_cons r1
  obtain ⟨rfl, rfl, rfl⟩ := trodAll_nil r2
  obtain rfl : args = #[v0, v1, v2] := by cases args; simp_all
  obtain ⟨rfl, rfl⟩ := trodVars_none hV
  have hlt := fun x hx => hW'.lt x hx
  obtain ⟨a0, rfl, rfl, rfl, w0⟩ := open_int Tryz.underlying3 (hval 0 3 v0 rfl rfl) h0
  have t1 := h1
  obtain ⟨A1, n1, c1, x1, rfl, e1, s1⟩ := open_acts (hval 1 22 v1 rfl rfl) h1
  have t2 := h2
  obtain ⟨x2, rfl, wa2, wb2⟩ := open_act (hval 2 29 v2 rfl rfl) h2
  clear hA0 hval0
  refine (walk a0 A1 n1 c1 x1 x2 W e1 s1 wa2 wb2).mono fun e W' ⟨he, hg⟩ => ?_
  subst he
  exact ⟨_, rfl, law_post (pv := []) hW' (fun _ _ _ => (trodAll_cons_mk (shut_bool Tryz.underlying4 _) trodAll_mk0)) (fun sp hsp => (trodAll_cons_mk (shut_int Tryz.underlying3 w0) (trodAll_cons_mk (arg_stays t1 hg (by simp +contextual) hlt hsp laid) (trodAll_cons_mk (act_stays t2 hg (by simp +contextual) hlt hsp laid) trodAll_mk0)))) (fun _ _ => rfl) (by simp)
    hg (ok_one (by kernel_rfl) rfl (okWide_bool_mk Tryz.underlying4 _))⟩

theorem over : Rows.branchErrorsRow.holds Tryz.pinned (OpenSpec.ofChange Rows.branchErrorsSpec) :=
  OpenClaim.holds_of_wide 5 Tryz.f5 rfl rfl rfl rfl rfl rfl rfl ⟨rfl, rfl, rfl, rfl, rfl⟩ rfl rfl rfl rfl rfl (by kernel_rfl) Tryz.func5 (by kernel_rfl)
    (of_decide_eq_true (by kernel_rfl)) (by unfold Func.isWrapper; first | (rw [if_pos (by decide +kernel)]; kernel_rfl) | (rw [if_neg (by decide +kernel)]; exact ⟨rfl, rfl⟩))
    (fun os started H enc _ => lifted os started H enc)

/-- The statement. -/
theorem proved : Rows.BranchErrorsSaid :=
  over
end Go.Proofs.YtlelnpckbcpkkaaGreat.branchErrors
