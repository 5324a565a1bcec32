/- What is done with flights of other keys changes neither who leads the flight of a key nor who has joined it; for any acts ahead and behind (of which 120 each are played), any key. -/
import Derived.Test.YtldleojipogcmaaNq
import Derived.Deep.RegionWith
import Derived.Deep.QuietTactic
import Derived.BigQuiet
import Derived.Deep.CutRange
import Derived.Deep.CutBlock
import Derived.Deep.RegionHeld3
import Derived.ProofKit
import Derived.OpenShut
import Derived.Shelf.Abstract
namespace Go.Proofs.Ytldleojipogcmaa.flightApart
open Go.ChangeShapes Go.WideShapes Go.ChangeAt Go.RowKit
open Go.Proofs.Ytldleojipogcmaa.fl
set_option linter.unusedVariables false

theorem own : ownKnob Try.prog.godebug = none := by kernel_rfl
theorem laid : laidOutB Try.prog = true := by kernel_rfl

set_option maxRecDepth 100000 in
set_option maxHeartbeats 16000000 in
theorem walk (A : Option Addr) (n c : Nat) (F : Nat → Ac) (kz : Int) (A2 : Option Addr) (n2 c2 : Nat) (F2 : Nat → Ac) (w : World) (hc : n ≤ c ∧ c ≤ maxLen) (hF : Acts w w.heap.size A n F) (hk : (Lit.int .i64 kz).wf = true) (hc2 : n2 ≤ c2 ∧ c2 ≤ maxLen) (hF2 : Acts w w.heap.size A2 n2 F2) :
    Calls Try.prog 5 #[.slice A n c, .int .i64 kz, .slice A2 n2 c2] w (AwakeE w) := by
  have HAW := Lib.hid (awake_any w)
  have HFF := Lib.hid hF
  have HC := Lib.hid hc
  have HFF2 := Lib.hid hF2
  have HC2 := Lib.hid hc2
  have HKZ := Lib.hid (show Wf kz from hk)
  clear hF hc hF2 hc2 hk
  go_enter Try.func5, Try.ntmps5
  go_wp2_with fail
  refine HAW.out.mono ?_
  rintro _ w1 ⟨rfl, hb1⟩
  have KN := Lib.hid (new_any hb1)
  unfold NewE at KN
  clear hb1 HAW
  go_wp2_with fail
  refine KN.out.mono ?_
  rintro _ w2 ⟨P, rfl, h2, -⟩
  have H2 := Lib.hid h2.forget
  clear h2 KN
  go_wp2_with fail
  go_loopg [8] n (fun gk s8 wx => ∃ (k : Nat) (s : Fs), s8 = .int .i64 k ∧ gk + k = n ∧ k ≤ 120 ∧ Hid (TY w wx P No s) ∧ Hid (s.N ≤ k ∧ s.K ≤ 300 * k))
  case atStart => exact ⟨0, Fs.new, rfl, by omega, by omega, H2, Lib.hid ⟨Nat.le_refl _, Nat.le_refl _⟩⟩
  case round =>
    clear H2
    obtain ⟨k, s, rfl, hg, hk120, HS, HN⟩ := hrel
    by_cases hlt : k < n ∧ k < 120
    · obtain ⟨hkn, hk1⟩ := hlt
      obtain ⟨gb, go, hA, hgb, c0, c1, c2', c3, hwk, hwf⟩ := (HFF.out.below HS.out.bel) k hkn
      subst hA
      obtain ⟨x, hx⟩ : ∃ x, F k = x := ⟨_, rfl⟩
      rw [hx] at c0 c1 c2' c3 hwf hwk
      have HAN := Lib.hid (act_N (x := x) (HS.out.few x.key))
      obtain ⟨xk, xt, xn, xe⟩ := x
      dsimp only at c0 c1 c2' c3 hwf hwk
      have KP := Lib.hid (play_any HS.out (k := xk) (e := xe) (by have := HN.out; omega) (by have := HN.out; omega) hwk hwf)
      unfold PlayE at KP
      clear hx hwf hwk
      go_wp2_with fail
      refine KP.out.mono ?_
      rintro _ w3 ⟨rfl, h3, -⟩
      have H3 := Lib.hid h3
      clear h3
      go_wp2_with fail
      go_roundg (gk - 1)
      case measure => omega
      case rel => exact ⟨k + 1, _, by go_num, by omega, by omega, H3, Lib.hid (by have := HAN.out; have := HN.out; omega)⟩
    · clear HFF HC
      have KL := Lib.hid (y_lead HS.out HKZ.out)
      obtain ⟨lv, hlv⟩ : ∃ lv, s.lead kz = lv := ⟨_, rfl⟩
      rw [hlv] at KL
      have HLV := Lib.hid hlv
      obtain ⟨lz, lb⟩ := lv
      have HN1 := Lib.hid (show s.N ≤ 120 ∧ s.K ≤ 36000 by have := HN.out; omega)
      dsimp only at KL
      clear hlv HN
      go_wp2_with fail
      all_goals
        refine KL.out.mono ?_
        rintro _ w3 ⟨rfl, hb3⟩
        have H3 := Lib.hid (HS.out.below hb3)
        have KJ := Lib.hid (y_joined H3.out (by have := HN1.out; omega) HKZ.out)
        unfold RetI at KJ
        obtain ⟨ys, hys⟩ : ∃ ys, s.joined kz = ys := ⟨_, rfl⟩
        rw [hys] at KJ
        have HYS := Lib.hid hys
        have HYL := Lib.hid (show ys.length ≤ 120 by have := H3.out.few kz; rw [hys] at this; have := HN1.out; omega)
        obtain ⟨m, hm⟩ : ∃ m, ys.length = m := ⟨_, rfl⟩
        have HM := Lib.hid hm
        rw [hm] at KJ HYL
        clear hys hb3 HS hm
        go_wp2_with fail
        refine KJ.out.mono ?_
        rintro _ w4 ⟨QJ, cJ, rfl, ho4, hb4⟩
        have H4 := Lib.hid ((H3.out.over hb4).weaken (Y := fun b => w3.heap.size ≤ b ∧ b < w4.heap.size) fun b hb => .inr hb)
        have HO4 := Lib.hid ho4
        clear ho4 hb4 KJ KL
        go_wp2_with fail
        go_loopg [12] n2 (fun gk s12 wx => ∃ (k : Nat) (s' : Fs), s12 = .int .i64 k ∧ gk + k = n2 ∧ k ≤ 120 ∧ Hid (TY w wx P (fun b => w3.heap.size ≤ b ∧ b < w4.heap.size) s') ∧ Hid (s'.N ≤ 120 + k ∧ s'.K ≤ 36000 + 300 * k) ∧ Hid (s'.fl kz = s.fl kz) ∧ Hid (OI wx w3.heap.size (.slice QJ m cJ) ys))
        case atStart => exact ⟨0, s, rfl, by omega, by omega, H4, Lib.hid (by have := HN1.out; omega), Lib.hid rfl, HO4⟩
        case round =>
          obtain ⟨k2, s2, rfl, hg2, hk2, HS2, HN2, HFL, HOI⟩ := hrel
          by_cases hlt2 : k2 < n2 ∧ k2 < 120
          · obtain ⟨hkn, hk1⟩ := hlt2
            obtain ⟨gb, go, hA, hgb, c0, c1, c2', c3, hwk, hwf⟩ := (HFF2.out.below HS2.out.bel) k2 hkn
            subst hA
            obtain ⟨x, hx⟩ : ∃ x, F2 k2 = x := ⟨_, rfl⟩
            rw [hx] at c0 c1 c2' c3 hwf hwk
            have HAN := Lib.hid (act_N (x := x) (HS2.out.few x.key))
            have HAF := Lib.hid (fun h : x.key ≠ kz => act_fl s2 x h)
            obtain ⟨xk, xt, xn, xe⟩ := x
            dsimp only at c0 c1 c2' c3 hwf hwk HAF
            have KP := Lib.hid (play_any HS2.out (k := xk) (e := xe) (by have := HN2.out; omega) (by have := HN2.out; omega) hwk hwf)
            unfold PlayE at KP
            clear hx hwf hwk
            by_cases hxt : xt = kz
            · have q0 : (xt != kz) = false := by simp [hxt]
              have HXT := Lib.hid hxt
              clear hxt
              go_wp2_with fail
              go_roundg (gk - 1)
              case measure => omega
              case rel => exact ⟨k2 + 1, s2, by go_num, by omega, by omega, HS2, Lib.hid (by have := HN2.out; omega), HFL, HOI⟩
            · have q0 : (xt != kz) = true := by simp [hxt]
              have HXT := Lib.hid hxt
              clear hxt
              go_wp2_with fail
              refine KP.out.mono ?_
              rintro _ w5 ⟨rfl, h5, hs5⟩
              have H5 := Lib.hid h5
              have HO5 := Lib.hid (HOI.out.keep fun g e => hs5 g ⟨(HO4.out.olt e).1, (HO4.out.olt e).2⟩)
              clear h5 hs5
              go_wp2_with fail
              go_roundg (gk - 1)
              case measure => omega
              case rel => exact ⟨k2 + 1, _, by go_num, by omega, by omega, H5, Lib.hid (by have := HAN.out; have := HN2.out; omega), Lib.hid ((HAF.out HXT.out).trans HFL.out), HO5⟩
          · have HLE := Lib.hid (lead_fl HFL.out)
            have KL := Lib.hid (y_lead HS2.out HKZ.out)
            rw [HLE.out.1, HLV.out] at KL
            dsimp only at KL
            clear H4 HO4 HFF2 HC2
            go_wp2_with fail
            all_goals
              refine KL.out.mono ?_
              rintro _ w5 ⟨rfl, hb5⟩
              have H5 := Lib.hid (HS2.out.below hb5)
              have HO5 := Lib.hid (HOI.out.below hb5)
              have KJ := Lib.hid (y_joined H5.out (by have := HN2.out; omega) HKZ.out)
              unfold RetI at KJ
              rw [HLE.out.2, HYS.out, HM.out] at KJ
              clear hb5
              go_wp2_with fail
              refine KJ.out.mono ?_
              rintro _ w6 ⟨Q6, c6, rfl, ho6, hb6⟩
              have KS := Lib.hid (same_yes ho6.ir (HO5.out.below hb6).ir ho6.cap HO5.out.cap (by have := HYL.out; omega))
              have HB6 := Lib.hid (below_step H5.out.bel hb6)
              clear ho6 hb6
              go_wp2_with fail
              refine KS.out.mono ?_
              rintro _ w7 ⟨rfl, nq, rfl⟩
              have HF := Lib.hid (show AwakeE w (.returned (.bool true)) (w6.drewN nq) from ⟨rfl, below_drewN HB6.out nq⟩)
              go_wp2_with fail
              go_ret
              exact HF.out

set_option maxRecDepth 100000 in
theorem lifted (os : Os) (started : os.Started) (H : Type) (enc : TypeId × Value → H) :
    ReturnsInHanded {} Try.checked os 5 .any (Rows.flightApartSpec.pre6 enc Try.prog Try.f5 Rows.flightApartRow.domain false) (Rows.flightApartSpec.post enc Try.prog Try.f5 false true false false) := by
  refine returnsInHanded_of_change (C := Try.checked) own started (by kernel_rfl) Try.func5
    (ChangeSpec.witness6 (enc := enc) (C := Try.checked) false ⟨#[], #[.slice none 0 0, .int .i64 0, .slice none 0 0], []⟩ 8 (by kernel_rfl) (by kernel_rfl) (by kernel_rfl) (by kernel_rfl)) ?_
  intro W base args ds gs before hval0 hW hcnd _
  have hval : ∀ (j : Nat) t v, Try.f5.params[j]? = some t → args[j]? = some v → Value.okWide Try.prog W .any base t v := hval0
  have hW' := hW
  obtain ⟨p, q, hA0, hV, rfl, hfz, hnd⟩ := hW
  have hA : DataW.TrodAll enc Try.prog W 0 (fun _ => true) true Try.f5.params.toList args.toList ds p := hA0
  rw [Try.params5] at hA hval
  obtain ⟨v0, vs0, d0, ds0, p0, q0, hargs, rfl, rfl, h0, r0⟩ := trodAll_cons hA
  obtain ⟨v1, vs1, d1, ds1, p1, q1, rfl, rfl, rfl, h1, r1⟩ := trodAll_cons r0
  obtain ⟨v2, vs2, d2, ds2, p2, q2, rfl, rfl, rfl, h2, r2⟩ := trodAll_cons r1
  obtain ⟨rfl, rfl, rfl⟩ := trodAll_nil r2
  obtain rfl : args = #[v0, v1, v2] := by cases args; simp_all
  obtain ⟨rfl, rfl⟩ := trodVars_none hV
  have hlt := fun x hx => hW'.lt x hx
  have t0 := h0
  obtain ⟨A0, n0, c0, x0, rfl, e0, s0⟩ := open_acts (hval 0 22 v0 rfl rfl) h0
  obtain ⟨a1, rfl, rfl, rfl, w1⟩ := open_int Try.underlying3 (hval 1 3 v1 rfl rfl) h1
  have t2 := h2
  obtain ⟨A2, n2, c2, x2, rfl, e2, s2⟩ := open_acts (hval 2 22 v2 rfl rfl) h2
  clear hA0 hval0
  refine (walk A0 n0 c0 x0 a1 A2 n2 c2 x2 W e0 s0 w1 e2 s2).mono fun e W' ⟨he, hg⟩ => ?_
  subst he
  exact ⟨_, rfl, law_post (pv := []) hW' (fun _ _ _ => (trodAll_cons_mk (shut_bool Try.underlying4 _) trodAll_mk0)) (fun sp hsp => (trodAll_cons_mk (arg_stays (by decide) t0 hg (by simp +contextual) hlt hsp laid) (trodAll_cons_mk (shut_int Try.underlying3 w1) (trodAll_cons_mk (arg_stays (by decide) t2 hg (by simp +contextual) hlt hsp laid) trodAll_mk0)))) (fun _ _ => rfl) (by simp)
    hg (ok_one (by kernel_rfl) rfl (okWide_bool_mk Try.underlying4 _))⟩

theorem over : Rows.flightApartRow.holds Try.pinned (OpenSpec.ofChange Rows.flightApartSpec) :=
  OpenClaim.holds_of_wide 5 Try.f5 rfl rfl rfl rfl rfl rfl rfl ⟨rfl, rfl, rfl, rfl, rfl⟩ rfl rfl rfl rfl rfl (by kernel_rfl) Try.func5 (by kernel_rfl)
    (of_decide_eq_true (by kernel_rfl)) (by unfold Func.isWrapper; first | (rw [if_pos (by decide +kernel)]; kernel_rfl) | (rw [if_neg (by decide +kernel)]; exact ⟨rfl, rfl⟩))
    (fun os started H enc _ => lifted os started H enc)

/-- The statement. -/
theorem proved : Rows.FlightApartSaid :=
  over
end Go.Proofs.Ytldleojipogcmaa.flightApart
