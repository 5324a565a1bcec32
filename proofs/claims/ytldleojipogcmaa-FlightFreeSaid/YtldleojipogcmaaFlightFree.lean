/- Who isn't busy may join, who is may not; where all has landed and been asked for nobody is busy; for any acts (of which 120 are played, by persons from 0 to 15), any key, any person. -/
import Derived.Test.YtldleojipogcmaaNt
import Derived.Test.YtldleojipogcmaaNr
import Derived.Deep.RegionWith
import Derived.Deep.QuietTactic
import Derived.BigQuiet
import Derived.Deep.CutRange
import Derived.Deep.CutBlock
import Derived.Deep.RegionHeld3
import Derived.ProofKit
import Derived.OpenShut
import Derived.Shelf.Abstract
namespace Go.Proofs.Ytldleojipogcmaa.flightFree
open Go.ChangeShapes Go.WideShapes Go.ChangeAt Go.RowKit
open Go.Proofs.Ytldleojipogcmaa.fl
set_option linter.unusedVariables false

theorem own : ownKnob Try.prog.godebug = none := by kernel_rfl
theorem laid : laidOutB Try.prog = true := by kernel_rfl

def Rg (who a : Int) : Prop := (0 ≤ a ∧ a ≤ 15) ∨ a = who
theorem eq_bool (b : Bool) : (!b == ((if b = true then (16 : Int) else 0) == 16)) = false := by cases b <;> rfl
set_option maxRecDepth 100000 in
set_option maxHeartbeats 16000000 in
theorem walk (A : Option Addr) (n c : Nat) (F : Nat → Ac) (kz az : Int) (w : World) (hc : n ≤ c ∧ c ≤ maxLen) (hF : Acts w w.heap.size A n F) (hk : (Lit.int .i64 kz).wf = true) (ha : (Lit.int .i64 az).wf = true) :
    Calls Try.prog 4 #[.slice A n c, .int .i64 kz, .int .i64 az] w (AwakeE w) := by
  have HAW := Lib.hid (awake_any w)
  have HFF := Lib.hid hF
  have HC := Lib.hid hc
  have HKZ := Lib.hid (show Wf kz from hk)
  have HAZ := Lib.hid (show Wf az from ha)
  clear hF hc hk ha
  go_enter Try.func4, Try.ntmps4
  go_wp2_with fail
  refine HAW.out.mono ?_
  rintro _ w1 ⟨rfl, hb1⟩
  have KN := Lib.hid (new_any hb1)
  unfold NewE at KN
  clear hb1 HAW
  go_wp2_with fail
  refine KN.out.mono ?_
  rintro _ w2 ⟨P, rfl, h2, -⟩
  have H2 := Lib.hid h2.forget
  clear h2 KN
  go_wp2_with fail
  go_loopg [8] n (fun gk s8 wx => ∃ (k : Nat) (s : Fs), s8 = .int .i64 k ∧ gk + k = n ∧ k ≤ 120 ∧ Hid (TY w wx P No s) ∧ Hid (s.N ≤ k ∧ s.K ≤ 300 * k) ∧ Hid (fl.Good (Rg az) s))
  case atStart => exact ⟨0, Fs.new, rfl, by omega, by omega, H2, Lib.hid ⟨Nat.le_refl _, Nat.le_refl _⟩, Lib.hid (fl.Good.new _)⟩
  case round =>
    clear H2
    obtain ⟨k, s, rfl, hg, hk120, HS, HN, HGD⟩ := hrel
    by_cases hlt : k < n ∧ k < 120
    · obtain ⟨hkn, hk1⟩ := hlt
      obtain ⟨gb, go, hA, hgb, c0, c1, c2, c3, hwk, hwf⟩ := (HFF.out.below HS.out.bel) k hkn
      subst hA
      obtain ⟨x, hx⟩ : ∃ x, F k = x := ⟨_, rfl⟩
      rw [hx] at c0 c1 c2 c3 hwf hwk
      obtain ⟨xk, xt, xn, xe⟩ := x
      dsimp only at c0 c1 c2 c3 hwf hwk
      obtain ⟨lj, hlj16, hlj⟩ := which16 xn
      have HWF := Lib.hid (show Wf (lj : Int) from wfs (by omega) (by omega))
      have HRG := Lib.hid (show Rg az (lj : Int) from .inl (by omega))
      have HWK := Lib.hid hwk
      have hbx := below_alloc wr (.cells #[.int .i64 xk, .int .i64 xt, .int .i64 xn, .int .i64 xe] 30)
      have HX := Lib.hid (HS.out.below hbx)
      clear hx hwf hwk hbx
      by_cases e0 : xk = 0
      · have KL := Lib.hid (y_join HX.out (k := xt) (who := (lj : Int)) (by have := HN.out; omega) HWK.out HWF.out)
        have HJN := Lib.hid (join_N s xt (lj : Int))
        have HG2 := Lib.hid (HGD.out.join xt HRG.out)
        unfold YJ at KL
        have q0 : (xk == 0) = true := by simpa using e0
        generalize s.join xt (lj : Int) = r at *
        obtain ⟨r1, r2, r3⟩ := r
        dsimp only at KL HJN HG2
        clear e0
        go_wp2_with fail
        refine KL.out.mono ?_
        rintro _ w3 ⟨rfl, h3, -⟩
        have H3 := Lib.hid h3
        clear h3
        go_wp2_with fail
        go_roundg (gk - 1)
        case measure => omega
        case rel => exact ⟨k + 1, r3, by go_num, by omega, by omega, H3, Lib.hid (by have := HJN.out; have := HN.out; omega), HG2⟩
      by_cases e1 : xk = 1
      · have KL := Lib.hid (y_land HX.out (k := xt) (who := (lj : Int)) (e := xe) (by have := HN.out; omega) (by have := HN.out; omega) HWK.out)
        have HJN := Lib.hid (land_N (HX.out.few xt) (lj : Int) xe)
        have HG2 := Lib.hid (HGD.out.land xt (lj : Int) xe)
        unfold YL at KL
        have q0 : (xk == 0) = false := by simpa using e0
        have q1 : (xk == 1) = true := by simpa using e1
        generalize s.land xt (lj : Int) xe = r at *
        obtain ⟨r1, r2, r3⟩ := r
        dsimp only at KL HJN HG2
        clear e0 e1
        go_wp2_with fail
        refine KL.out.mono ?_
        rintro _ w3 ⟨Q3, c3', rfl, -, h3, -⟩
        have H3 := Lib.hid h3.forget
        clear h3
        go_wp2_with fail
        go_roundg (gk - 1)
        case measure => omega
        case rel => exact ⟨k + 1, r3, by go_num, by omega, by omega, H3, Lib.hid (by have := HJN.out; have := HN.out; omega), HG2⟩
      by_cases e2 : xk = 2
      · have KL := Lib.hid (y_result HX.out HWF.out)
        have HJN := Lib.hid (result_N s (lj : Int))
        have HG2 := Lib.hid (HGD.out.result (lj : Int))
        unfold YR at KL
        have q0 : (xk == 0) = false := by simpa using e0
        have q1 : (xk == 1) = false := by simpa using e1
        have q2 : (xk == 2) = true := by simpa using e2
        generalize s.result (lj : Int) = r at *
        obtain ⟨r1, r2, r3⟩ := r
        dsimp only at KL HJN HG2
        clear e0 e1 e2
        go_wp2_with fail
        refine KL.out.mono ?_
        rintro _ w3 ⟨rfl, h3, -⟩
        have H3 := Lib.hid h3
        clear h3
        go_wp2_with fail
        go_roundg (gk - 1)
        case measure => omega
        case rel => exact ⟨k + 1, r3, by go_num, by omega, by omega, H3, Lib.hid (by have := HJN.out; have := HN.out; omega), HG2⟩
      have q0 : (xk == 0) = false := by simpa using e0
      have q1 : (xk == 1) = false := by simpa using e1
      have q2 : (xk == 2) = false := by simpa using e2
      clear e0 e1 e2
      go_wp2_with fail
      go_roundg (gk - 1)
      case measure => omega
      case rel => exact ⟨k + 1, s, by go_num, by omega, by omega, HX, Lib.hid (by have := HN.out; omega), HGD⟩
    · clear HFF HC
      have KB := Lib.hid (y_busy HS.out HAZ.out)
      unfold RetB at KB
      obtain ⟨b, hb⟩ : ∃ b, s.busy az = b := ⟨_, rfl⟩
      rw [hb] at KB
      have HB := Lib.hid hb
      have HN1 := Lib.hid (show s.N ≤ 120 ∧ s.K ≤ 36000 by have := HN.out; omega)
      clear hb HN
      go_wp2_with fail
      all_goals
        refine KB.out.mono ?_
        rintro _ w3 ⟨rfl, hb3⟩
        have H3 := Lib.hid (HS.out.below hb3)
        have KJ := Lib.hid (y_join H3.out (k := kz) (who := az) (by have := HN1.out; omega) HKZ.out HAZ.out)
        have HJ2 := Lib.hid (join_busy2 s kz az)
        have HJN := Lib.hid (join_N s kz az)
        have HG2 := Lib.hid (HGD.out.join kz (who := az) (.inr rfl))
        unfold YJ at KJ
        rw [HB.out] at HJ2
        generalize s.join kz az = r at *
        obtain ⟨r1, r2, s2⟩ := r
        dsimp only at KJ HJN HG2 HJ2
        rw [HJ2.out.1] at KJ
        have HN2 := Lib.hid (show s2.N ≤ 121 ∧ s2.K ≤ 36000 by have := HJN.out; have := HN1.out; omega)
        have hbe := eq_bool b
        obtain ⟨ev, hev⟩ : ∃ ev, (if b = true then (16 : Int) else 0) = ev := ⟨_, rfl⟩
        rw [hev] at KJ hbe
        clear hb3 hev
        go_wp2_with fail
        refine KJ.out.mono ?_
        rintro _ w4 ⟨rfl, h4, -⟩
        have H4 := Lib.hid h4
        have KB2 := Lib.hid (y_busy H4.out HAZ.out)
        rw [HJ2.out.2] at KB2
        unfold RetB at KB2
        clear h4
        go_wp2_with fail
        refine KB2.out.mono ?_
        rintro _ w5 ⟨rfl, hb5⟩
        have H5 := Lib.hid (H4.out.below hb5)
        have KK := Lib.hid (y_keys H5.out (by have := HN2.out; omega))
        unfold KeysE at KK
        clear hb5
        go_wp2_with fail
        refine KK.out.mono ?_
        rintro _ w6 ⟨v6, ks, rfl, hnd6, hm6, ho6, hb6⟩
        obtain ⟨Q6, c6, rfl⟩ := ho6.form
        have H6 := Lib.hid ((H5.out.over hb6).weaken (Y := fun b => w5.heap.size ≤ b ∧ b < w6.heap.size) fun b hb => .inr hb)
        have HO6 := Lib.hid ho6
        have HOE := Lib.hid (show ∀ g, (Value.slice Q6 ks.length c6).ownBlock = some g → g < w6.heap.size from fun g e => (ho6.olt e).2)
        have HND := Lib.hid hnd6
        have HM6 := Lib.hid hm6
        have HQN := Lib.hid (H5.out.keys_len hnd6 hm6)
        obtain ⟨q, hq⟩ : ∃ q, ks.length = q := ⟨_, rfl⟩
        rw [hq] at HO6 HQN HOE ⊢
        have HQ := Lib.hid hq
        clear ho6 hnd6 hm6 hb6 hq
        go_wp2_with fail
        have hq121 : q ≤ 121 := by have := HQN.out; have := HN2.out; omega
        go_loopg [89] q (fun gk i wx => ∃ (j : Nat) (s : Fs), j ≤ q ∧ gk + j = q ∧ i = .int .i64 j ∧ Hid (TY w wx P (fun b => w5.heap.size ≤ b ∧ b < w6.heap.size) s) ∧ Hid (OI wx w5.heap.size (.slice Q6 q c6) ks) ∧ Hid (s.N ≤ 121 ∧ s.K ≤ 36000 + 121 * j) ∧ Hid (fl.Good (Rg az) s) ∧ Hid (∀ y, (s.fl y).isSome = true ↔ y ∈ ks.drop j))
        case atStart => exact ⟨0, s2, by omega, by omega, rfl, H6, HO6, Lib.hid (by have := HN2.out; omega), HG2, Lib.hid fun y => by rw [List.drop_zero]; exact (HM6.out y).symm⟩
        case round =>
          clear H6 HO6
          obtain ⟨j, s, hj, hgj, rfl, HS7, HO7, HN7, HG7, HD7⟩ := hrel
          by_cases hlt2 : j < q
          · obtain ⟨gq, hgq, -, -, x7⟩ := HO7.out.cells.2 j hlt2
            subst hgq
            have HDC := Lib.hid (drop_cons' (r := ks) (j := j) (by rw [HQ.out]; exact hlt2))
            have HIN := Lib.hid (show (s.fl (ks.getD j 0)).isSome = true from (HD7.out _).2 (by rw [HDC.out]; simp))
            have HND7 := Lib.hid (show ks.getD j 0 ∉ ks.drop (j + 1) from by
              have := HND.out.sublist (List.drop_sublist j ks)
              rw [HDC.out] at this
              exact (List.nodup_cons.1 this).1)
            have HLL := Lib.hid (land_lead HIN.out 0)
            have HWK := Lib.hid (show Wf (ks.getD j 0) from by
              obtain ⟨p, hp⟩ := Option.isSome_iff_exists.1 HIN.out
              exact (HS7.out.wf (l := p.1) (xs := p.2) hp).1)
            generalize ks.getD j 0 = v at *
            have KL := Lib.hid (y_lead HS7.out HWK.out)
            have HWL := Lib.hid (lead_wf HS7.out v)
            obtain ⟨lv, hlv⟩ : ∃ lv, s.lead v = lv := ⟨_, rfl⟩
            rw [hlv] at KL HLL HWL
            obtain ⟨l1, l2⟩ := lv
            dsimp only at KL HLL HWL
            clear hlv
            go_wp2_with fail
            refine KL.out.mono ?_
            rintro _ w8 ⟨rfl, hb8⟩
            have HS8 := Lib.hid (HS7.out.below hb8)
            have HO8 := Lib.hid (HO7.out.below hb8)
            have KD := Lib.hid (y_land HS8.out (k := v) (who := l1) (e := 0) (by have := HN7.out; omega) (by have := HN7.out; omega) HWK.out)
            have HJN := Lib.hid (land_N (HS8.out.few v) l1 0)
            have HG8 := Lib.hid (HG7.out.land v l1 0)
            unfold YL at KD
            generalize s.land v l1 0 = r at *
            obtain ⟨r1, r2, r3⟩ := r
            dsimp only at KD HJN HG8 HLL
            rw [HLL.out.1] at KD
            clear hb8 x7
            go_wp2_with fail
            refine KD.out.mono ?_
            rintro _ w9 ⟨Q9, c9, rfl, -, h9, hs9⟩
            have H9 := Lib.hid (h9.weaken (Y := fun b => w5.heap.size ≤ b ∧ b < w6.heap.size) fun b hb => .inl hb)
            have HO9 := Lib.hid (HO8.out.keep fun g e => hs9 g ⟨(HO8.out.olt e).1, HOE.out g e⟩)
            clear h9 hs9
            go_wp2_with fail
            go_roundg (gk - 1)
            case measure => omega
            case rel => exact ⟨j + 1, r3, by omega, by omega, by go_num, H9, HO9, Lib.hid (by have := HJN.out; have := HN7.out; omega), HG8, Lib.hid fun y => by
              rw [HLL.out.2 y, HD7.out y, HDC.out, List.mem_cons]
              constructor
              · rintro ⟨h1 | h1, h2⟩
                · exact absurd h1 h2
                · exact h1
              · exact fun h1 => ⟨.inr h1, fun h2 => HND7.out (h2 ▸ h1)⟩⟩
          · obtain rfl : j = q := by omega
            have HFN := Lib.hid (show ∀ y, s.fl y = none from fun y => by
              cases e : s.fl y with
              | none => rfl
              | some p =>
                have := (HD7.out y).1 (by rw [e]; rfl)
                rw [← HQ.out, List.drop_length] at this
                cases this)
            have HN8 := Lib.hid (show s.N ≤ 1000000 by have := HN7.out; omega)
            have HS8 := Lib.hid HS7.out.forget
            clear HD7 HND HM6 HQ HQN HN7 HS7
            go_wp2_with fail
            go_loopg [19] 16 (fun gk i wx => ∃ (j : Nat) (s : Fs), j ≤ 16 ∧ gk + j = 16 ∧ i = .int .i64 j ∧ Hid (TY w wx P No s) ∧ Hid (s.N ≤ 1000000) ∧ Hid (fl.Good (Rg az) s) ∧ Hid (∀ y, s.fl y = none) ∧ Hid (∀ a : Int, 0 ≤ a → a < j → s.res a = none))
            case atStart => exact ⟨0, s, by omega, by omega, rfl, HS8, HN8, HG7, HFN, Lib.hid fun a h1 h2 => by omega⟩
            case round =>
              clear HS8 HG7 HFN HN8
              obtain ⟨j3, s3, hj3, hgj3, rfl, HS9, HN9, HG9, HF9, HR9⟩ := hrel
              by_cases hlt3 : j3 < 16
              · have KR := Lib.hid (y_result HS9.out (who := (j3 : Int)) (wfs (by omega) (by omega)))
                have HG10 := Lib.hid (HG9.out.result (j3 : Int))
                unfold YR at KR
                go_wp2_with fail
                refine KR.out.mono ?_
                rintro _ w10 ⟨rfl, h10, -⟩
                have H10 := Lib.hid h10
                clear h10
                go_wp2_with fail
                go_roundg (gk - 1)
                case measure => omega
                case rel => exact ⟨j3 + 1, _, by omega, by omega, by go_num, H10, HN9, HG10, HF9, Lib.hid fun a h1 h2 => by
                  show upf s3.res (j3 : Int) none a = none
                  by_cases e : a = (j3 : Int)
                  · rw [e, upf_self]
                  · rw [upf_ne e]; exact HR9.out a h1 (by omega)⟩
              · obtain rfl : j3 = 16 := by omega
                have KR := Lib.hid (y_result HS9.out HAZ.out)
                have HG10 := Lib.hid (HG9.out.result az)
                unfold YR at KR
                have HB1 := Lib.hid (show (s3.result az).2.2.busy az = false from by
                  unfold Fs.busy
                  rw [HG10.out.none HF9.out az]
                  show (upf s3.res az none az).isSome = false
                  rw [upf_self]; rfl)
                have HB3 := Lib.hid (show (s3.result az).2.2.busy 3 = false from by
                  unfold Fs.busy
                  rw [HG10.out.none HF9.out 3]
                  show (upf s3.res az none 3).isSome = false
                  by_cases e : (3 : Int) = az
                  · rw [← e, upf_self]; rfl
                  · rw [upf_ne e, HR9.out 3 (by omega) (by omega)]; rfl)
                have HF10 := Lib.hid (show ∀ y, (s3.result az).2.2.fl y = none from HF9.out)
                have HN10 := Lib.hid (show (s3.result az).2.2.N ≤ 1000000 from HN9.out)
                generalize s3.result az = r at *
                obtain ⟨r1, r2, s4⟩ := r
                dsimp only at KR HB1 HB3 HF10 HN10 HG10
                go_wp2_with fail
                refine KR.out.mono ?_
                rintro _ w10 ⟨rfl, h10, -⟩
                have H10 := Lib.hid h10
                have KK2 := Lib.hid (y_keys H10.out HN10.out)
                unfold KeysE at KK2
                clear h10
                go_wp2_with fail
                refine KK2.out.mono ?_
                rintro _ w11 ⟨v11, kk, rfl, -, hm11, ho11, hb11⟩
                obtain rfl : kk = [] := keys_nil (fun k => by rw [hm11 k, HF10.out k]; simp)
                obtain ⟨Q11, c11, rfl⟩ := ho11.form
                have H11 := Lib.hid (H10.out.below hb11)
                have KB3 := Lib.hid (y_busy H11.out HAZ.out)
                rw [HB1.out] at KB3
                unfold RetB at KB3
                simp only [List.length_nil]
                clear hm11 ho11 hb11
                go_wp2_with fail
                refine KB3.out.mono ?_
                rintro _ w12 ⟨rfl, hb12⟩
                have H12 := Lib.hid (H11.out.below hb12)
                have KB4 := Lib.hid (y_busy H12.out (who := 3) (wfs (by omega) (by omega)))
                rw [HB3.out] at KB4
                unfold RetB at KB4
                clear hb12
                go_wp2_with fail
                refine KB4.out.mono ?_
                rintro _ w13 ⟨rfl, hb13⟩
                have HF := Lib.hid (show AwakeE w (.returned (.bool true)) w13 from ⟨rfl, below_step H12.out.bel hb13⟩)
                clear hb13
                go_wp2_with fail
                go_ret
                exact HF.out

set_option maxRecDepth 100000 in
theorem lifted (os : Os) (started : os.Started) (H : Type) (enc : TypeId × Value → H) :
    ReturnsInHanded {} Try.checked os 4 .any (Rows.flightFreeSpec.pre6 enc Try.prog Try.f4 Rows.flightFreeRow.domain false) (Rows.flightFreeSpec.post enc Try.prog Try.f4 false true false false) := by
  refine returnsInHanded_of_change (C := Try.checked) own started (by kernel_rfl) Try.func4
    (ChangeSpec.witness6 (enc := enc) (C := Try.checked) false ⟨#[], #[.slice none 0 0, .int .i64 0, .int .i64 0], []⟩ 8 (by kernel_rfl) (by kernel_rfl) (by kernel_rfl) (by kernel_rfl)) ?_
  intro W base args ds gs before hval0 hW hcnd _
  have hval : ∀ (j : Nat) t v, Try.f4.params[j]? = some t → args[j]? = some v → Value.okWide Try.prog W .any base t v := hval0
  have hW' := hW
  obtain ⟨p, q, hA0, hV, rfl, hfz, hnd⟩ := hW
  have hA : DataW.TrodAll enc Try.prog W 0 (fun _ => true) true Try.f4.params.toList args.toList ds p := hA0
  rw [Try.params4] at hA hval
  obtain ⟨v0, vs0, d0, ds0, p0, q0, hargs, rfl, rfl, h0, r0⟩ := trodAll_cons hA
  obtain ⟨v1, vs1, d1, ds1, p1, q1, rfl, rfl, rfl, h1, r1⟩ := trodAll_cons r0
  obtain ⟨v2, vs2, d2, ds2, p2, q2, rfl, rfl, rfl, h2, r2⟩ := trodAll_cons r1
  obtain ⟨rfl, rfl, rfl⟩ := trodAll_nil r2
  obtain rfl : args = #[v0, v1, v2] := by cases args; simp_all
  obtain ⟨rfl, rfl⟩ := trodVars_none hV
  have hlt := fun x hx => hW'.lt x hx
  have t0 := h0
  obtain ⟨A0, n0, c0, x0, rfl, e0, s0⟩ := open_acts (hval 0 22 v0 rfl rfl) h0
  obtain ⟨a1, rfl, rfl, rfl, w1⟩ := open_int Try.underlying3 (hval 1 3 v1 rfl rfl) h1
  obtain ⟨a2, rfl, rfl, rfl, w2⟩ := open_int Try.underlying3 (hval 2 3 v2 rfl rfl) h2
  clear hA0 hval0
  refine (walk A0 n0 c0 x0 a1 a2 W e0 s0 w1 w2).mono fun e W' ⟨he, hg⟩ => ?_
  subst he
  exact ⟨_, rfl, law_post (pv := []) hW' (fun _ _ _ => (trodAll_cons_mk (shut_bool Try.underlying4 _) trodAll_mk0)) (fun sp hsp => (trodAll_cons_mk (arg_stays (by decide) t0 hg (by simp +contextual) hlt hsp laid) (trodAll_cons_mk (shut_int Try.underlying3 w1) (trodAll_cons_mk (shut_int Try.underlying3 w2) trodAll_mk0)))) (fun _ _ => rfl) (by simp)
    hg (ok_one (by kernel_rfl) rfl (okWide_bool_mk Try.underlying4 _))⟩

theorem over : Rows.flightFreeRow.holds Try.pinned (OpenSpec.ofChange Rows.flightFreeSpec) :=
  OpenClaim.holds_of_wide 4 Try.f4 rfl rfl rfl rfl rfl rfl rfl ⟨rfl, rfl, rfl, rfl, rfl⟩ rfl rfl rfl rfl rfl (by kernel_rfl) Try.func4 (by kernel_rfl)
    (of_decide_eq_true (by kernel_rfl)) (by unfold Func.isWrapper; first | (rw [if_pos (by decide +kernel)]; kernel_rfl) | (rw [if_neg (by decide +kernel)]; exact ⟨rfl, rfl⟩))
    (fun os started H enc _ => lifted os started H enc)

/-- The statement. -/
theorem proved : Rows.FlightFreeSaid :=
  over
end Go.Proofs.Ytldleojipogcmaa.flightFree
