/- For every list of keys the law QueueTurned returns true, and what is handed in reads as it did; there are no conditions. -/
import Derived.Test.YtadkhnenklkbmaaTwo
import Derived.Test.YtadkhnenklkbmaaOpen2
import Derived.Deep.RegionWith
import Derived.ProofKit
import Derived.OpenShut
namespace Go.Proofs.Ytadkhnenklkbmaa.queueTurned
open Go.ChangeShapes Go.WideShapes Go.ChangeAt Go.RowKit
set_option linter.unusedVariables false

theorem own : ownKnob Try.prog.godebug = none := by kernel_rfl
theorem laid : laidOutB Try.prog = true := by kernel_rfl

theorem popV_form (L : List KN) : ∃ a b c, popV L = .tuple #[.int .i64 a, .int .i64 b, .bool c] := by
  cases L with
  | nil => exact ⟨0, 0, false, rfl⟩
  | cons x l => exact ⟨x.1, x.2, true, rfl⟩
theorem seen_step {F : Nat → Int} {f : Int → Bool} {k : Nat} (h : ∀ a, f a = true ↔ ∃ j, j < k ∧ F j = a) : ∀ a, upd f (F k) true a = true ↔ ∃ j, j < k + 1 ∧ F j = a := by
  intro a
  unfold upd
  by_cases e : a = F k
  · rw [if_pos e]
    exact ⟨fun _ => ⟨k, by omega, e.symm⟩, fun _ => rfl⟩
  · rw [if_neg e, h]
    constructor
    · rintro ⟨j, hj, hF⟩; exact ⟨j, by omega, hF⟩
    · rintro ⟨j, hj, hF⟩
      refine ⟨j, ?_, hF⟩
      rcases Nat.lt_succ_iff_lt_or_eq.1 hj with h1 | h1
      · exact h1
      · subst h1; exact absurd hF.symm e
theorem apart_step {F : Nat → Int} {f : Int → Bool} {k : Nat} (h : ∀ a, f a = true ↔ ∃ j, j < k ∧ F j = a) (hd : ∀ i j, i < j → j < k → F i ≠ F j) (hf : f (F k) = false) : ∀ i j, i < j → j < k + 1 → F i ≠ F j := by
  intro i j hij hj
  rcases Nat.lt_succ_iff_lt_or_eq.1 hj with h1 | h1
  · exact hd i j hij h1
  · subst h1
    intro e
    have := (h (F j)).2 ⟨i, hij, e⟩
    rw [hf] at this
    cases this

set_option maxHeartbeats 8000000 in
set_option maxRecDepth 100000 in
theorem walk (A : Option Addr) (n c : Nat) (F : Nat → Int) (w : World) (k1 : n ≤ c ∧ c ≤ maxLen) (hF : Keys w w.heap.size A n F ∧ ∀ i, i < n → Wf (F i)) :
    Calls Try.prog 7 #[.slice A n c] w (AwakeE w) := by
  have hnm : n ≤ 9223372036854775807 := by have := k1.1; have := k1.2; unfold maxLen at this; omega
  have hmm := @run_makeMap Try.prog
  have HW := Lib.hid hF.2
  replace hF := hF.1
  clear k1
  go_enter Try.func7, Try.ntmps7
  go_wp2_with fail
  refine (awake_any _).mono ?_
  rintro e w1 ⟨rfl, hb1⟩
  go_wp2_with fail
  refine (lnew w1 w.heap.size hb1.size).mono ?_
  rintro e w2 ⟨rfl, h2, hb2⟩
  go_wp2_with fail
  refine (lnew w2 w.heap.size (Nat.le_trans hb1.size hb2.size)).mono ?_
  rintro e w3 ⟨rfl, h3, hb3⟩
  have HT0 := Lib.hid (two_new hb1 h2 hb2 h3 hb3)
  generalize w1.heap.size = Q at *
  generalize w2.heap.size = P at *
  clear h2 h3 hb1 hb2 hb3
  go_upto_region 4 with fail
  go_cut [5] (fun v wx => ∃ N : Nat, v = .int .i64 N ∧ N ≤ n ∧ N ≤ 200 ∧ wx = w3)
  case first =>
    by_cases hn : n ≤ 200
    · go_wp2_with fail
      go_meet
      case rel => exact ⟨n, by simp, Nat.le_refl _, hn, rfl⟩
    · have hn2 : ¬ (n : Int) ≤ 200 := by omega
      go_wp2_with fail
      go_meet
      case rel => exact ⟨200, by simp, by omega, Nat.le_refl _, rfl⟩
  case rest =>
    obtain ⟨N, rfl, hNn, hN2, rfl⟩ := hcut
    have HM0 := Lib.hid (MapB.made wc 2)
    have HT1 := Lib.hid (HT0.out.box (.map #[] 0))
    have hloM := HT0.out.bel.size
    generalize hMM : wc.heap.size = M at *
    go_wp2_with fail
    clear hMM
    go_loopg [7] N (fun g s wr => ∃ (k : Nat) (f : Int → Bool), g + k = N ∧ k ≤ N ∧ s = .int .i64 k ∧ Hid (MapB wr 2 M k f) ∧ Hid (∀ a, f a = true ↔ ∃ j, j < k ∧ F j = a) ∧ Hid (∀ i j, i < j → j < k → F i ≠ F j) ∧ Hid (Two w wr Q P (fun b => b = M) [] [] 0))
    case atStart => exact ⟨0, fun _ => false, by omega, by omega, rfl, HM0, Lib.hid (by simp), Lib.hid (by omega), HT1⟩
    case round =>
      clear HM0 HT1 HT0
      obtain ⟨k, f, hgk, hk, rfl, HM, HS, HD, HT⟩ := hrel
      by_cases hlt : k < N
      · obtain ⟨b, off, rfl, hbl, f0⟩ := (hF.below HT.out.bel) k (by omega)
        have hwf := HW.out k (by omega)
        have hlk := HM.out.look Try.underlying44 Try.underlying2 hwf
        obtain ⟨w5, hput, hm5, hg5⟩ := HM.out.put Try.underlying44 Try.underlying2 (by omega) hwf true
        have HST := Lib.hid (seen_step HS.out)
        have HAP := Lib.hid (apart_step HS.out HD.out)
        have HM5 := Lib.hid hm5
        have HT5 := Lib.hid (HT.out.grown hg5 rfl hloM)
        obtain ⟨a, ha⟩ : ∃ a, F k = a := ⟨_, rfl⟩
        rw [ha] at f0 hlk hput HM5 HAP HST
        have HA := Lib.hid ha
        clear ha hm5 hg5 hwf
        obtain ⟨r, hr⟩ : ∃ r, f a = r := ⟨_, rfl⟩
        rw [hr] at hlk HAP
        clear hr
        cases r with
        | true =>
          go_wp2_with fail
          go_ret
          exact ⟨rfl, HT.out.bel⟩
        | false =>
          go_wp2_with fail
          go_roundg (gk - 1)
          case measure => omega
          case rel => exact ⟨k + 1, _, by omega, by omega, by go_num, HM5, HST, Lib.hid (HAP.out (by simp)), HT5⟩
      · have hkN : k = N := by omega
        have HDD := Lib.hid (show ∀ i j, i < j → j < N → F i ≠ F j by rw [← hkN]; exact HD.out)
        have HT2 := Lib.hid (HT.out.forget (Nat.le_refl _))
        have hge : ¬ ((k : Int) < (N : Int)) := by omega
        clear hlt hkN HM HS HD HT
        go_wp2_with fail
        go_loopg [8] N (fun g s wr => ∃ (k : Nat) (L K : List KN), g + k = N ∧ k ≤ N ∧ s = .int .i64 k ∧ Hid (L.Perm (prs F k)) ∧ Hid (K.Perm (rprs F N k)) ∧ Hid (Two w wr Q P (fun _ => False) L K (2 * k)))
        case atStart => exact ⟨0, [], [], by omega, by omega, rfl, Lib.hid (List.Perm.refl _), Lib.hid (List.Perm.refl _), HT2⟩
        case round =>
          clear HT2
          obtain ⟨k, L, K, hgk, hk, rfl, HL, HK, HT⟩ := hrel
          by_cases hlt : k < N
          · obtain ⟨b, off, rfl, hbl, f0⟩ := (hF.below HT.out.bel) k (by omega)
            obtain ⟨r, hr⟩ : ∃ r, N - 1 - k = r := ⟨_, rfl⟩
            obtain ⟨b', off', e', _, f1⟩ := hF r (by omega)
            injection e' with e'
            injection e' with e1 e2
            subst e1; subst e2
            have HPL := Lib.hid (prs_push HL.out)
            have HPK := Lib.hid (rprs_push HK.out)
            rw [hr] at HPK
            have hrr : (N : Int) - 1 - (k : Int) = (r : Int) := by omega
            have hrN : r < N := by omega
            obtain ⟨a, ha⟩ : ∃ a, F k = a := ⟨_, rfl⟩
            obtain ⟨a2, ha2⟩ : ∃ a, F r = a := ⟨_, rfl⟩
            rw [ha] at f0 HPL
            rw [ha2] at f1 HPK
            have HP := Lib.hid (two_push HT.out (by omega) a k)
            clear ha ha2 hr
            go_wp2_with fail
            refine HP.out.mono ?_
            rintro e w6 ⟨rfl, ht6, -⟩
            have f2 := (ht6.bel.cell (p := ⟨b, off + r, none⟩) hbl).trans f1
            have HP2 := Lib.hid (two_push ht6.symm (by omega) a2 r)
            clear ht6 HP
            go_wp2_with fail
            refine HP2.out.mono ?_
            rintro e w7 ⟨rfl, ht7, -⟩
            have HT7 := Lib.hid ht7.symm
            clear ht7 HP2
            go_wp2_with fail
            go_roundg (gk - 1)
            case measure => omega
            case rel => exact ⟨k + 1, _, _, by omega, by omega, by go_num, HPL, HPK, Lib.hid (HT7.out.more (by omega))⟩
          · have hkN : k = N := by omega
            have HEQ := Lib.hid (show L = K from prs_eq HDD.out HT.out.sortedQ HT.out.symm.sortedQ (by rw [← hkN]; exact HL.out) (by have := HK.out; rw [hkN] at this; exact this))
            have HT3 := Lib.hid (show Two w wr Q P (fun _ => False) L L 400 by have := HT.out.more (T' := 400) (by omega); rw [← HEQ.out] at this; exact this)
            have hge : ¬ ((k : Int) < (N : Int)) := by omega
            clear hlt hkN HL HK HT HEQ HDD
            go_wp2_with fail
            go_loopg [9] (N + 1) (fun g s wr => ∃ (k : Nat) (L : List KN), g + k = N + 1 ∧ k ≤ N + 1 ∧ s = .int .i64 k ∧ Hid (Two w wr Q P (fun _ => False) L L 400))
            case atStart => exact ⟨0, L, by omega, by omega, rfl, HT3⟩
            case round =>
              clear HT3
              obtain ⟨k, L, hgk, hk, rfl, HT⟩ := hrel
              by_cases hlt : k ≤ N
              · obtain ⟨qa, qb, qc, hqv⟩ := popV_form L
                have HP := Lib.hid (two_pop HT.out (by omega))
                rw [hqv] at HP
                go_wp2_with fail
                refine HP.out.mono ?_
                rintro e w6 ⟨rfl, ht6, -⟩
                have HP2 := Lib.hid (two_pop ht6.symm (by omega))
                rw [hqv] at HP2
                clear ht6 HP hqv
                go_wp2_with fail
                refine HP2.out.mono ?_
                rintro e w7 ⟨rfl, ht7, -⟩
                have HT7 := Lib.hid ht7.symm
                clear ht7 HP2
                go_wp2_with fail
                go_roundg (gk - 1)
                case measure => omega
                case rel => exact ⟨k + 1, _, by omega, by omega, by go_num, HT7⟩
              · have hge : ¬ ((k : Int) ≤ (N : Int)) := by omega
                clear hlt
                go_wp2_with fail
                go_ret
                exact ⟨rfl, HT.out.bel⟩

set_option maxRecDepth 100000 in
theorem lifted (os : Os) (started : os.Started) (H : Type) (enc : TypeId × Value → H) :
    ReturnsInHanded {} Try.checked os 7 .any (Rows.queueTurnedSpec.pre6 enc Try.prog Try.f7 Rows.queueTurnedRow.domain false) (Rows.queueTurnedSpec.post enc Try.prog Try.f7 false true false false) := by
  refine returnsInHanded_of_change (C := Try.checked) own started (by kernel_rfl) Try.func7
    (ChangeSpec.witness6 (enc := enc) (C := Try.checked) false ⟨#[], #[.slice none 0 0], []⟩ 8 (by kernel_rfl) (by kernel_rfl) (by kernel_rfl) (by kernel_rfl)) ?_
  intro W base args ds gs before hval0 hW hcnd _
  have hval : ∀ (j : Nat) t v, Try.f7.params[j]? = some t → args[j]? = some v → Value.okWide Try.prog W .any base t v := hval0
  have hW' := hW
  obtain ⟨p, q, hA0, hV, rfl, hfz, hnd⟩ := hW
  have hA : DataW.TrodAll enc Try.prog W 0 (fun _ => true) true Try.f7.params.toList args.toList ds p := hA0
  rw [Try.params7] at hA hval
  obtain ⟨v0, vs0, d0, ds0, p0, q0, hargs, rfl, rfl, h0, r0⟩ := trodAll_cons hA
  obtain ⟨rfl, rfl, rfl⟩ := trodAll_nil r0
  obtain rfl : args = #[v0] := by cases args; simp_all
  obtain ⟨rfl, rfl⟩ := trodVars_none hV
  have hlt := fun x hx => hW'.lt x hx
  have t0 := h0
  obtain ⟨A0, n0, c0, x0, rfl, e0, s0⟩ := open_keys2 (hval 0 39 v0 rfl rfl) h0
  clear hA0 hval0
  refine (walk A0 n0 c0 x0 W e0 s0).mono fun e W' ⟨he, hg⟩ => ?_
  subst he
  exact ⟨_, rfl, law_post (pv := []) hW' (fun _ _ _ => (trodAll_cons_mk (shut_bool Try.underlying4 _) trodAll_mk0)) (fun sp hsp => (trodAll_cons_mk (arg_stays (by decide) t0 hg (by simp +contextual) hlt hsp laid) trodAll_mk0)) (fun _ _ => rfl) (by simp)
    hg (ok_one (by kernel_rfl) rfl (okWide_bool_mk Try.underlying4 _))⟩

theorem over : Rows.queueTurnedRow.holds Try.pinned (OpenSpec.ofChange Rows.queueTurnedSpec) :=
  OpenClaim.holds_of_wide 7 Try.f7 rfl rfl rfl rfl rfl rfl rfl ⟨rfl, rfl, rfl, rfl, rfl⟩ rfl rfl rfl rfl rfl (by kernel_rfl) Try.func7 (by kernel_rfl)
    (of_decide_eq_true (by kernel_rfl)) (by unfold Func.isWrapper; first | (rw [if_pos (by decide +kernel)]; kernel_rfl) | (rw [if_neg (by decide +kernel)]; exact ⟨rfl, rfl⟩))
    (fun os started H enc _ => lifted os started H enc)

/-- The statement. -/
theorem proved : Rows.QueueTurnedSaid :=
  over
end Go.Proofs.Ytadkhnenklkbmaa.queueTurned
