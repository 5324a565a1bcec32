/- For every list of acts the law DescFulls returns true, and what is handed in reads as it did; there are no conditions. -/
import Derived.Test.YtfbdhpbnmjacmaaDp
import Derived.Deep.RegionWith
import Derived.Deep.QuietTactic
import Derived.BigQuiet
import Derived.ProofKit
import Derived.OpenShut
import Derived.ShutString
namespace Go.Proofs.Ytfbdhpbnmjacmaa.descFulls
open Go.ChangeShapes Go.WideShapes Go.ChangeAt Go.RowKit
open Go.ChangeMaps (open_string shut_string)
open Go.Proofs.Ytfbdhpbnmjacmaa.ds
set_option linter.unusedVariables false

theorem own : ownKnob Try.prog.godebug = none := by kernel_rfl
theorem laid : laidOutB Try.prog = true := by kernel_rfl

theorem cnt_em : cnt em 32 = 0 := by kernel_rfl
set_option maxHeartbeats 8000000 in
set_option maxRecDepth 100000 in
theorem walk (A : Option Addr) (n c : Nat) (F : Nat → Act7) (w : World) (k1 : n ≤ c ∧ c ≤ maxLen) (hF : Acts w w.heap.size A n F ∧ Ads w n F) :
    Calls Try.prog 7 #[.slice A n c] w (AwakeE w) := by
  have hnm : n ≤ 9223372036854775807 := by have := k1.1; have := k1.2; unfold maxLen at this; omega
  have HA := Lib.hid hF.1
  clear k1 hF
  go_enter Try.func7, Try.ntmps7
  go_wp2_with fail
  refine (awake_any _).mono ?_
  rintro e w1 ⟨rfl, hb1⟩
  have HN := Lib.hid (y_new hb1)
  clear hb1
  go_wp2_with fail
  refine HN.out.mono ?_
  rintro e w2 ⟨rfl, h2, -⟩
  generalize w1.heap.size = P at *
  have H2 := Lib.hid h2.forget
  clear h2 HN
  go_wp2_with fail
  go_loopg [4, 5] 120 (fun g s4 s5 wr => ∃ (k : Nat) (T : Tb) (q : Nat), g + k = 120 ∧ k ≤ n ∧ s5 = .int .i64 k ∧ s4 = .int .i64 q ∧ Hid (cnt T 32 = q) ∧ Hid (TY w wr P No T))
  case atStart => exact ⟨0, em, 0, by omega, by omega, rfl, rfl, Lib.hid cnt_em, H2⟩
  case round =>
    clear H2
    obtain ⟨k, T, q, hgk, hk, rfl, rfl, HQ, HT⟩ := hrel
    by_cases hgo : k < n ∧ k < 120
    · obtain ⟨hkn, hk2⟩ := hgo
      obtain ⟨b, off, rfl, hbl, f0, f1, f2, f3, f4, f5, f6, f7⟩ := (HA.out.below HT.out.bel) k hkn
      have hq32 : q ≤ 32 := by rw [← HQ.out]; exact cnt_le T 32
      generalize F k = x at *
      obtain ⟨xk, xf, xA, xn, xc, d0, d1, d2, d3, xs, d5⟩ := x
      dsimp only at f0 f1 f2 f3 f4 f5 f6 f7
      have HT3 := Lib.hid (HT.out.below (below_alloc wr (.cells #[.int .i64 xk, .int .i64 xf, .int .i64 d0, .int .i64 d1, .int .i64 d2, .bool d3, .slice xA xn xc, .int .i64 d5] 35)))
      clear HT
      by_cases e0 : xk = 0
      · subst e0
        cases hl : low T with
        | none =>
          have HO := Lib.hid (y_open0 HT3.out k)
          rw [show lowV T = (0, 24) by unfold lowV; rw [hl], show openT T (dn k) = T by unfold openT; rw [hl]] at HO
          have hq : q = 32 := by rw [← HQ.out]; exact full_cnt (low_none hl)
          have HFL := Lib.hid (show full T = true by unfold full; rw [hl]; rfl)
          subst hq
          clear hl HT3
          go_wp2_with fail
          refine HO.out.mono ?_
          rintro e w4 ⟨rfl, h4, -⟩
          have HT4 := Lib.hid h4
          clear h4 HO
          have HCN := HQ
          go_wp2_with fail
          refine (y_full HT4.out).mono ?_
          rintro e w5 ⟨rfl, hw5⟩
          subst hw5
          rw [HFL.out]
          go_wp2_with fail
          refine (y_all HT4.out).mono ?_
          rintro e w6 ⟨v6, rfl, hown, hb6⟩
          obtain ⟨A6, c6, rfl⟩ := own_slice hown
          have hlen : (allT T 32).length = 32 := by rw [all_len]; exact HCN.out
          rw [hlen]
          have HT6 := Lib.hid ((HT4.out).below hb6)
          clear hown hb6 hlen
          go_wp2_with fail
          go_roundg (gk - 1)
          case measure => omega
          case rel => exact ⟨k + 1, T, 32, by omega, by omega, by go_num, by go_num, HCN, HT6⟩
        | some j =>
          obtain ⟨hj, hTj, -⟩ := low_some hl
          have HO := Lib.hid (y_open0 HT3.out k)
          rw [show lowV T = ((j : Int), 0) by unfold lowV; rw [hl], show openT T (dn k) = put T j (some (dn k)) by unfold openT; rw [hl]] at HO
          have HQ2 := Lib.hid (show cnt (put T j (some (dn k))) 32 = q + 1 by rw [cnt_put_in hTj hj, HQ.out])
          have hq : q < 32 := by
            have := cnt_le (put T j (some (dn k))) 32
            rw [HQ2.out] at this
            omega
          have hqi : (q : Int) < 32 := by omega
          generalize put T j (some (dn k)) = T' at *
          clear hl HT3 hTj hj HQ
          go_wp2_with fail
          refine HO.out.mono ?_
          rintro e w4 ⟨rfl, h4, -⟩
          have HT4 := Lib.hid h4
          clear h4 HO
          have HCN := HQ2
          have HFX2 := Lib.hid (full_iff (T := T'))
          rw [HCN.out] at HFX2
          by_cases hq2 : q + 1 = 32
          · obtain rfl : q = 31 := by omega
            have HFL := Lib.hid (show full T' = true by rw [HFX2.out]; rfl)
            go_wp2_with fail
            refine (y_full HT4.out).mono ?_
            rintro e w5 ⟨rfl, hw5⟩
            subst hw5
            rw [HFL.out]
            go_wp2_with fail
            refine (y_all HT4.out).mono ?_
            rintro e w6 ⟨v6, rfl, hown, hb6⟩
            obtain ⟨A6, c6, rfl⟩ := own_slice hown
            have hlen : (allT T' 32).length = 32 := by rw [all_len]; exact HCN.out
            rw [hlen]
            have HT6 := Lib.hid ((HT4.out).below hb6)
            clear hown hb6 hlen
            go_wp2_with fail
            go_roundg (gk - 1)
            case measure => omega
            case rel => exact ⟨k + 1, T', 32, by omega, by omega, by go_num, by go_num, HCN, HT6⟩
          · have HFL := Lib.hid (show full T' = false by rw [HFX2.out]; exact decide_eq_false hq2)
            have hqb : (((q : Int) + 1) == 32) = false := by simp; omega
            have hqc : ¬ ((q : Int) + 1) = 32 := by omega
            go_wp2_with fail
            refine (y_full HT4.out).mono ?_
            rintro e w5 ⟨rfl, hw5⟩
            subst hw5
            rw [HFL.out]
            go_wp2_with fail
            refine (y_all HT4.out).mono ?_
            rintro e w6 ⟨v6, rfl, hown, hb6⟩
            obtain ⟨A6, c6, rfl⟩ := own_slice hown
            have hlen : (allT T' 32).length = q + 1 := by rw [all_len]; exact HCN.out
            rw [hlen]
            have HT6 := Lib.hid ((HT4.out).below hb6)
            clear hown hb6 hlen
            go_wp2_with fail
            go_roundg (gk - 1)
            case measure => omega
            case rel => exact ⟨k + 1, T', q + 1, by omega, by omega, by go_num, by go_num, HCN, HT6⟩
      by_cases e1 : xk = 1
      · subst e1
        cases hs : spot T xf with
        | none =>
          have HO := Lib.hid (show Calls Try.prog 13 #[Pq P, .int .i64 xf] _ (fun e w' => ∃ A c, e = .returned (.tuple #[.agg #[.int .i64 0, .int .i64 0, .int .i64 0, .bool false, .slice A 0 c, .int .i64 0], .int .i64 9]) ∧ TY w w' P No T) from
            (y_close HT3.out xf).mono fun _ _ ⟨A, c, he, _, h4, _⟩ => ⟨A, c, by rw [show getV T xf = (dz, 9) by unfold getV; rw [hs]] at he; exact he, by rw [show closeT T xf = T by unfold closeT; rw [hs]] at h4; exact h4.weaken fun _ h => .inl h⟩)
          clear hs HT3
          go_wp2_with fail
          refine HO.out.mono ?_
          rintro e w4 ⟨A4, c4, rfl, h4⟩
          have HB4 := Lib.hid (fun ob => h4.below (below_alloc w4 ob))
          clear h4 HO
          have HFX := Lib.hid (full_iff (T := T))
          rw [HQ.out] at HFX
          have HCN := HQ
          have HFX2 := Lib.hid (full_iff (T := T))
          rw [HCN.out] at HFX2
          by_cases hq2 : q = 32
          · subst hq2
            have HFL := Lib.hid (show full T = true by rw [HFX2.out]; rfl)
            go_wp2_with fail
            refine (y_full (HB4.out _)).mono ?_
            rintro e w5 ⟨rfl, hw5⟩
            subst hw5
            rw [HFL.out]
            go_wp2_with fail
            refine (y_all (HB4.out _)).mono ?_
            rintro e w6 ⟨v6, rfl, hown, hb6⟩
            obtain ⟨A6, c6, rfl⟩ := own_slice hown
            have hlen : (allT T 32).length = 32 := by rw [all_len]; exact HCN.out
            rw [hlen]
            have HT6 := Lib.hid (((HB4.out _)).below hb6)
            clear hown hb6 hlen
            go_wp2_with fail
            go_roundg (gk - 1)
            case measure => omega
            case rel => exact ⟨k + 1, T, 32, by omega, by omega, by go_num, by go_num, HCN, HT6⟩
          · have HFL := Lib.hid (show full T = false by rw [HFX2.out]; exact decide_eq_false hq2)
            have hqb : ((q : Int) == 32) = false := by simp; omega
            have hqc : ¬ (q : Int) = 32 := by omega
            go_wp2_with fail
            refine (y_full (HB4.out _)).mono ?_
            rintro e w5 ⟨rfl, hw5⟩
            subst hw5
            rw [HFL.out]
            go_wp2_with fail
            refine (y_all (HB4.out _)).mono ?_
            rintro e w6 ⟨v6, rfl, hown, hb6⟩
            obtain ⟨A6, c6, rfl⟩ := own_slice hown
            have hlen : (allT T 32).length = q := by rw [all_len]; exact HCN.out
            rw [hlen]
            have HT6 := Lib.hid (((HB4.out _)).below hb6)
            clear hown hb6 hlen
            go_wp2_with fail
            go_roundg (gk - 1)
            case measure => omega
            case rel => exact ⟨k + 1, T, q, by omega, by omega, by go_num, by go_num, HCN, HT6⟩
        | some dd =>
          obtain ⟨j, rfl, hj, hTj⟩ := spot_some hs
          obtain ⟨q', rfl⟩ : ∃ q', q = q' + 1 := ⟨cnt (put T j none) 32, by rw [← HQ.out]; exact (cnt_put_out hTj hj).symm⟩
          have HQ2 := Lib.hid (show cnt (put T j none) 32 = q' by have := cnt_put_out hTj hj; rw [HQ.out] at this; omega)
          have HO := Lib.hid (show Calls Try.prog 13 #[Pq P, .int .i64 j] _ (fun e w' => ∃ A c z0 z1 z2 z3 zn z5, e = .returned (.tuple #[.agg #[.int .i64 z0, .int .i64 z1, .int .i64 z2, .bool z3, .slice A zn c, .int .i64 z5], .int .i64 0]) ∧ TY w w' P No (put T j none)) from
            (y_close HT3.out j).mono fun _ _ ⟨A, c, he, _, h4, _⟩ => ⟨A, c, _, _, _, _, _, _, by rw [show getV T j = (dd, 0) by unfold getV; rw [hs]] at he; exact he, by rw [show closeT T j = put T j none by unfold closeT; rw [hs]; simp] at h4; exact h4.weaken fun _ h => .inl h⟩)
          generalize put T j none = T' at *
          clear hs HT3 hTj HQ
          go_wp2_with fail
          refine HO.out.mono ?_
          rintro e w4 ⟨A4, c4, z0, z1, z2, z3, zn, z5, rfl, h4⟩
          have HB4 := Lib.hid (fun ob => h4.below (below_alloc w4 ob))
          clear h4 HO
          have HCN := HQ2
          have HFX2 := Lib.hid (full_iff (T := T'))
          rw [HCN.out] at HFX2
          by_cases hq2 : q' = 32
          · exfalso; omega
          · have HFL := Lib.hid (show full T' = false by rw [HFX2.out]; exact decide_eq_false hq2)
            have hqb : ((q' : Int) == 32) = false := by simp; omega
            have hqc : ¬ (q' : Int) = 32 := by omega
            go_wp2_with fail
            refine (y_full (HB4.out _)).mono ?_
            rintro e w5 ⟨rfl, hw5⟩
            subst hw5
            rw [HFL.out]
            go_wp2_with fail
            refine (y_all (HB4.out _)).mono ?_
            rintro e w6 ⟨v6, rfl, hown, hb6⟩
            obtain ⟨A6, c6, rfl⟩ := own_slice hown
            have hlen : (allT T' 32).length = q' := by rw [all_len]; exact HCN.out
            rw [hlen]
            have HT6 := Lib.hid (((HB4.out _)).below hb6)
            clear hown hb6 hlen
            go_wp2_with fail
            go_roundg (gk - 1)
            case measure => omega
            case rel => exact ⟨k + 1, T', q', by omega, by omega, by go_num, by go_num, HCN, HT6⟩
      have q0 : (xk == 0) = false := by simpa using e0
      have q1 : (xk == 1) = false := by simpa using e1
      have HT4 := HT3
      clear e0 e1 HT3
      have HCN := HQ
      have HFX2 := Lib.hid (full_iff (T := T))
      rw [HCN.out] at HFX2
      by_cases hq2 : q = 32
      · subst hq2
        have HFL := Lib.hid (show full T = true by rw [HFX2.out]; rfl)
        go_wp2_with fail
        refine (y_full HT4.out).mono ?_
        rintro e w5 ⟨rfl, hw5⟩
        subst hw5
        rw [HFL.out]
        go_wp2_with fail
        refine (y_all HT4.out).mono ?_
        rintro e w6 ⟨v6, rfl, hown, hb6⟩
        obtain ⟨A6, c6, rfl⟩ := own_slice hown
        have hlen : (allT T 32).length = 32 := by rw [all_len]; exact HCN.out
        rw [hlen]
        have HT6 := Lib.hid ((HT4.out).below hb6)
        clear hown hb6 hlen
        go_wp2_with fail
        go_roundg (gk - 1)
        case measure => omega
        case rel => exact ⟨k + 1, T, 32, by omega, by omega, by go_num, by go_num, HCN, HT6⟩
      · have HFL := Lib.hid (show full T = false by rw [HFX2.out]; exact decide_eq_false hq2)
        have hqb : ((q : Int) == 32) = false := by simp; omega
        have hqc : ¬ (q : Int) = 32 := by omega
        go_wp2_with fail
        refine (y_full HT4.out).mono ?_
        rintro e w5 ⟨rfl, hw5⟩
        subst hw5
        rw [HFL.out]
        go_wp2_with fail
        refine (y_all HT4.out).mono ?_
        rintro e w6 ⟨v6, rfl, hown, hb6⟩
        obtain ⟨A6, c6, rfl⟩ := own_slice hown
        have hlen : (allT T 32).length = q := by rw [all_len]; exact HCN.out
        rw [hlen]
        have HT6 := Lib.hid ((HT4.out).below hb6)
        clear hown hb6 hlen
        go_wp2_with fail
        go_roundg (gk - 1)
        case measure => omega
        case rel => exact ⟨k + 1, T, q, by omega, by omega, by go_num, by go_num, HCN, HT6⟩
    · have HE := Lib.hid HT.out.bel
      have hsplit : (k < n ∧ k = 120) ∨ ¬ k < n := by omega
      clear hgo HT HQ
      rcases hsplit with ⟨hkn, rfl⟩ | hkn
      all_goals
        go_wp2_with fail
        go_ret
        exact ⟨rfl, HE.out⟩

set_option maxRecDepth 100000 in
theorem lifted (os : Os) (started : os.Started) (H : Type) (enc : TypeId × Value → H) :
    ReturnsInHanded {} Try.checked os 7 .any (Rows.descFullsSpec.pre6 enc Try.prog Try.f7 Rows.descFullsRow.domain false) (Rows.descFullsSpec.post enc Try.prog Try.f7 false true false false) := by
  refine returnsInHanded_of_change (C := Try.checked) own started (by kernel_rfl) Try.func7
    (ChangeSpec.witness6 (enc := enc) (C := Try.checked) false ⟨#[], #[.slice none 0 0], []⟩ 8 (by kernel_rfl) (by kernel_rfl) (by kernel_rfl) (by kernel_rfl)) ?_
  intro W base args ds gs before hval0 hW hcnd _
  have hval : ∀ (j : Nat) t v, Try.f7.params[j]? = some t → args[j]? = some v → Value.okWide Try.prog W .any base t v := hval0
  have hW' := hW
  obtain ⟨p, q, hA0, hV, rfl, hfz, hnd⟩ := hW
  have hA : DataW.TrodAll enc Try.prog W 0 (fun _ => true) true Try.f7.params.toList args.toList ds p := hA0
  rw [Try.params7] at hA hval
  obtain ⟨v0, vs0, d0, ds0, p0, q0, hargs, rfl, rfl, h0, r0⟩ := trodAll_cons hA
  obtain ⟨rfl, rfl, rfl⟩ := trodAll_nil r0
  obtain rfl : args = #[v0] := by cases args; simp_all
  obtain ⟨rfl, rfl⟩ := trodVars_none hV
  have hlt := fun x hx => hW'.lt x hx
  have t0 := h0
  obtain ⟨A0, n0, c0, x0, rfl, e0, s0⟩ := open_acts (hval 0 22 v0 rfl rfl) h0
  clear hA0 hval0
  refine (walk A0 n0 c0 x0 W e0 s0).mono fun e W' ⟨he, hg⟩ => ?_
  subst he
  exact ⟨_, rfl, law_post (pv := []) hW' (fun _ _ _ => (trodAll_cons_mk (shut_bool Try.underlying4 _) trodAll_mk0)) (fun sp hsp => (trodAll_cons_mk (arg_stays (by decide) t0 hg (by simp +contextual) hlt hsp laid) trodAll_mk0)) (fun _ _ => rfl) (by simp)
    hg (ok_one (by kernel_rfl) rfl (okWide_bool_mk Try.underlying4 _))⟩

theorem over : Rows.descFullsRow.holds Try.pinned (OpenSpec.ofChange Rows.descFullsSpec) :=
  OpenClaim.holds_of_wide 7 Try.f7 rfl rfl rfl rfl rfl rfl rfl ⟨rfl, rfl, rfl, rfl, rfl⟩ rfl rfl rfl rfl rfl (by kernel_rfl) Try.func7 (by kernel_rfl)
    (of_decide_eq_true (by kernel_rfl)) (by unfold Func.isWrapper; first | (rw [if_pos (by decide +kernel)]; kernel_rfl) | (rw [if_neg (by decide +kernel)]; exact ⟨rfl, rfl⟩))
    (fun os started H enc _ => lifted os started H enc)

/-- The statement. -/
theorem proved : Rows.DescFullsSaid :=
  over
end Go.Proofs.Ytfbdhpbnmjacmaa.descFulls
