/- For every list of bytes the law CallTotal returns true, and what is handed in reads as it did; there are no conditions. -/
import Derived.Test.YtoomdgjppfmdlaaCn
import Derived.Deep.RegionWith
import Derived.Deep.QuietTactic
import Derived.BigQuiet
import Derived.ProofKit
import Derived.OpenShut
import Derived.ShutString
namespace Go.Proofs.Ytoomdgjppfmdlaa.callTotal
open Go.ChangeShapes Go.WideShapes Go.ChangeAt Go.RowKit
open Go.ChangeMaps (open_string shut_string)
open Go.Proofs.Ytoomdgjppfmdlaa
set_option linter.unusedVariables false

theorem own : ownKnob Try.prog.godebug = none := by kernel_rfl
theorem laid : laidOutB Try.prog = true := by kernel_rfl

theorem enough (l : Bs) : (decs l 200 0).length ≤ 200 ∧ ((decs l 200 0).length = 0 ↔ l.length = 0) := ⟨decs_len _ _ _, decs_none l 199⟩
set_option maxHeartbeats 4000000 in
set_option maxRecDepth 100000 in
theorem walk (A : Option Addr) (n c : Nat) (l : Bs) (w : World) (e0 : n = List.length l) (m0 : n ≤ c ∧ c ≤ maxLen) (s0 : Byt w w.heap.size A l) : Calls Try.prog 5 #[.slice A n c] w (AwakeE w) := by
  have hnm : n ≤ 9223372036854775807 := by have := m0.1; have := m0.2; unfold maxLen at this; omega
  have HN := Lib.hid e0
  have HB := Lib.hid s0
  clear e0 m0 s0
  by_cases hbig : 65536 < n
  · have hi : (65536 : Int) < (n : Int) := by omega
    go_enter Try.func5, Try.ntmps5
    go_wp2_with fail
    refine (awake_any _).mono ?_
    rintro e w1 ⟨rfl, hb1⟩
    go_wp2_with fail
    go_ret
    exact ⟨rfl, hb1⟩
  · have hi : ¬ (65536 : Int) < (n : Int) := by omega
    have hn2 : n ≤ 65536 := by omega
    clear hbig
    have hen := enough l
    rw [← HN.out] at hen
    have HM := Lib.hid (decs_may l 200 0)
    have HD := Lib.hid (fun W h => dec_any A n c l W HN.out (by omega) h)
    generalize decs l 200 0 = D at *
    obtain ⟨hd1, hd2⟩ := hen
    have HD2 := Lib.hid hd2
    clear hd2
    go_enter Try.func5, Try.ntmps5
    go_wp2_with fail
    refine (awake_any _).mono ?_
    rintro e w1 ⟨rfl, hb1⟩
    have HB1 := Lib.hid hb1
    have HY1 := Lib.hid ((HB.out.below hb1).more hb1.size)
    clear hb1
    go_wp2_with fail
    refine (HD.out _ HY1.out).mono ?_
    rintro e w2 ⟨A2, n2, c2, rfl, o2, b2⟩
    have hn2' : n2 ≤ 200 := by have := o2.len; omega
    have HL := Lib.hid o2.len
    have HC := Lib.hid o2.cls
    have HB2 := Lib.hid (below_step HB1.out b2)
    clear o2 b2
    go_wp2_with fail
    go_loopg [14] n2 (fun g s wr => ∃ k : Nat, g + k = n2 ∧ s = .int .i64 k ∧ Hid (Below w2.heap.size w2 wr))
    case atStart => exact ⟨0, by omega, rfl, Lib.hid (Below.refl _ _)⟩
    case round =>
      obtain ⟨k, hgk, rfl, HW⟩ := hrel
      by_cases hkn : k < n2
      · have hk : k < D.length := by rw [← HL.out]; exact hkn
        obtain ⟨G, off, rfl, hG, f0, f1, f2, f3, f4, f5, f6⟩ := (HC.out.below HW.out).at_ hk
        have hmay := HM.out _ (List.getElem_mem hk)
        have HA := Lib.hid (fun W => (mayB_yes hmay ▸ may_any D[k] W (by have := hmay.2.2.2.2.2.1; unfold maxLen; omega) (by have := hmay.2.2.2.2.2.2; unfold maxLen; omega)))
        generalize D[k] = x at *
        obtain ⟨x0, x1, x2, x3, x4, x5, x6⟩ := x
        dsimp only at f0 f1 f2 f3 f4 f5 f6
        clear hk hmay
        go_wp2_with fail
        refine (HA.out _).mono ?_
        rintro e w3 ⟨rfl, b3⟩
        have HW3 := Lib.hid (below_step HW.out b3)
        clear b3 f0 f1 f2 f3 f4 f5 f6 HA
        go_wp2_with fail
        go_roundg (gk - 1)
        case measure => omega
        case rel => exact ⟨k + 1, by omega, by go_num, HW3⟩
      · have hjn : ¬ ((k : Int) < (n2 : Int)) := by omega
        have h200 : decide ((n2 : Int) ≤ 200) = true := by simp; omega
        have HE := Lib.hid (show Below w.heap.size w wr from below_step HB2.out HW.out)
        by_cases hz : n2 = 0
        · have hz2 : n = 0 := HD2.out.1 (by rw [← HL.out]; exact hz)
          have t1 : ((n2 : Int) == 0) = true := by simp; omega
          have t2 : ((n : Int) == 0) = true := by simp; omega
          clear hz hz2 hkn
          go_wp2_with fail
          go_ret
          exact ⟨rfl, HE.out⟩
        · have hz2 : n ≠ 0 := fun e => hz (by rw [HL.out]; exact HD2.out.2 e)
          have t1 : ((n2 : Int) == 0) = false := by simp; omega
          have t2 : ((n : Int) == 0) = false := by simp; omega
          clear hz hz2 hkn
          go_wp2_with fail
          go_ret
          exact ⟨rfl, HE.out⟩

set_option maxRecDepth 100000 in
theorem lifted (os : Os) (started : os.Started) (H : Type) (enc : TypeId × Value → H) :
    ReturnsInHanded {} Try.checked os 5 .any (Rows.callTotalSpec.pre6 enc Try.prog Try.f5 Rows.callTotalRow.domain false) (Rows.callTotalSpec.post enc Try.prog Try.f5 false true false false) := by
  refine returnsInHanded_of_change (C := Try.checked) own started (by kernel_rfl) Try.func5
    (ChangeSpec.witness6 (enc := enc) (C := Try.checked) false ⟨#[], #[.slice none 0 0], []⟩ 8 (by kernel_rfl) (by kernel_rfl) (by kernel_rfl) (by kernel_rfl)) ?_
  intro W base args ds gs before hval0 hW hcnd _
  have hval : ∀ (j : Nat) t v, Try.f5.params[j]? = some t → args[j]? = some v → Value.okWide Try.prog W .any base t v := hval0
  have hW' := hW
  obtain ⟨p, q, hA0, hV, rfl, hfz, hnd⟩ := hW
  have hA : DataW.TrodAll enc Try.prog W 0 (fun _ => true) true Try.f5.params.toList args.toList ds p := hA0
  rw [Try.params5] at hA hval
  obtain ⟨v0, vs0, d0, ds0, p0, q0, hargs, rfl, rfl, h0, r0⟩ := trodAll_cons hA
  obtain ⟨rfl, rfl, rfl⟩ := trodAll_nil r0
  obtain rfl : args = #[v0] := by cases args; simp_all
  obtain ⟨rfl, rfl⟩ := trodVars_none hV
  have hlt := fun x hx => hW'.lt x hx
  have t0 := h0
  obtain ⟨A0, n0, c0, x0, rfl, e0, m0, s0⟩ := open_bytes (hval 0 22 v0 rfl rfl) h0
  clear hA0 hval0
  refine (walk A0 n0 c0 x0 W e0 m0 s0).mono fun e W' ⟨he, hg⟩ => ?_
  subst he
  exact ⟨_, rfl, law_post (pv := []) hW' (fun _ _ _ => (trodAll_cons_mk (shut_bool Try.underlying4 _) trodAll_mk0)) (fun sp hsp => (trodAll_cons_mk (arg_stays (by decide) t0 hg (by simp +contextual) hlt hsp laid) trodAll_mk0)) (fun _ _ => rfl) (by simp)
    hg (ok_one (by kernel_rfl) rfl (okWide_bool_mk Try.underlying4 _))⟩

theorem over : Rows.callTotalRow.holds Try.pinned (OpenSpec.ofChange Rows.callTotalSpec) :=
  OpenClaim.holds_of_wide 5 Try.f5 rfl rfl rfl rfl rfl rfl rfl ⟨rfl, rfl, rfl, rfl, rfl⟩ rfl rfl rfl rfl rfl (by kernel_rfl) Try.func5 (by kernel_rfl)
    (of_decide_eq_true (by kernel_rfl)) (by unfold Func.isWrapper; first | (rw [if_pos (by decide +kernel)]; kernel_rfl) | (rw [if_neg (by decide +kernel)]; exact ⟨rfl, rfl⟩))
    (fun os started H enc _ => lifted os started H enc)

/-- The statement. -/
theorem proved : Rows.CallTotalSaid :=
  over
end Go.Proofs.Ytoomdgjppfmdlaa.callTotal
