/- For every list of bytes the law CallDecodes returns true, and what is handed in reads as it did; there are no conditions. -/
import Derived.Test.YtoomdgjppfmdlaaCp
import Derived.Deep.RegionWith
import Derived.Deep.QuietTactic
import Derived.BigQuiet
import Derived.ProofKit
import Derived.OpenShut
import Derived.ShutString
namespace Go.Proofs.Ytoomdgjppfmdlaa.callDecodes
open Go.ChangeShapes Go.WideShapes Go.ChangeAt Go.RowKit
open Go.ChangeMaps (open_string shut_string)
open Go.Proofs.Ytoomdgjppfmdlaa
set_option linter.unusedVariables false

theorem own : ownKnob Try.prog.godebug = none := by kernel_rfl
theorem laid : laidOutB Try.prog = true := by kernel_rfl

set_option maxHeartbeats 4000000 in
set_option maxRecDepth 100000 in
theorem walk (A : Option Addr) (n c : Nat) (l : Bs) (w : World) (e0 : n = List.length l) (m0 : n ≤ c ∧ c ≤ maxLen) (s0 : Byt w w.heap.size A l) : Calls Try.prog 3 #[.slice A n c] w (AwakeE w) := by
  have hnm : n ≤ 9223372036854775807 := by have := m0.1; have := m0.2; unfold maxLen at this; omega
  have HN := Lib.hid e0
  have HB := Lib.hid s0
  clear e0 m0 s0
  by_cases hbig : 65536 < n
  · have hi : (65536 : Int) < (n : Int) := by omega
    go_enter Try.func3, Try.ntmps3
    go_wp2_with fail
    refine (awake_any _).mono ?_
    rintro e w1 ⟨rfl, hb1⟩
    go_wp2_with fail
    go_ret
    exact ⟨rfl, hb1⟩
  · have hi : ¬ (65536 : Int) < (n : Int) := by omega
    have hn2 : n ≤ 65536 := by omega
    clear hbig
    go_enter Try.func3, Try.ntmps3
    go_wp2_with fail
    refine (awake_any _).mono ?_
    rintro e w1 ⟨rfl, hb1⟩
    have HB1 := Lib.hid hb1
    have HY1 := Lib.hid (fun ob => (HB.out.below hb1).below ((below_alloc w1 ob).mono hb1.size))
    have HO1 := Lib.hid (show Bo (w1.alloc (.cells #[] 5)) w1.heap.size (some ⟨w1.heap.size, 0, none⟩) 0 0 [] from World.ownsRow_lit w1 #[] 0 (Nat.le_refl _) (by unfold maxLen; omega) rfl)
    have HV1 := Lib.hid (fun ob W (hW : Below w1.heap.size (w1.alloc ob) W) => (show Below w.heap.size w W from below_step hb1 ((below_alloc w1 ob).trans hW)))
    clear hb1
    go_upto_region 6 with (at_builtin; refine wpList_app _ rfl (.tmp 10) (.tmp 11) rfl w1.heap.size w.heap.size 0 n 0 c (some ⟨w1.heap.size, 0, none⟩) A [] l (by rfl) (by rfl) HO1.out HN.out (HY1.out _) (by omega) (by simp) ?_; intro A2 c2 w2 o2 b2)
    rw [Nat.zero_add, List.nil_append] at o2
    have HB2 := Lib.hid (HV1.out _ _ b2)
    have HO2 := Lib.hid o2
    clear o2 b2 HY1 HO1 HV1
    have HD2 := Lib.hid (dec_any A2 n c2 l w2 HN.out (by omega) HO2.out.byt)
    go_wp2_with fail
    refine HD2.out.mono ?_
    rintro e w3 ⟨A3, n3, c3, rfl, o3, b3⟩
    have h3 : n3 ≤ 200 := by have := o3.len; have := decs_len l 200 0; omega
    have HB3 := Lib.hid (below_step HB2.out b3)
    have HO3 := Lib.hid (HO2.out.keep b3)
    have HC3 := Lib.hid o3
    have HR3 := Lib.hid (rdec_any A n c l w3 HN.out (by omega) ((HB.out.below HB3.out).more HB3.out.size))
    clear o3 b3 HD2
    go_wp2_with fail
    refine HR3.out.mono ?_
    rintro e w4 ⟨A4, n4, c4, rfl, o4, b4⟩
    have h4 : n4 ≤ 200 := by have := o4.len; have := decs_len l 200 0; omega
    have HB4 := Lib.hid (below_step HB3.out b4)
    have HO4 := Lib.hid (HO3.out.keep b4)
    have HC4 := Lib.hid (HC3.out.keep b4)
    have HE4 := Lib.hid o4
    have HS4 := Lib.hid (leq_self (decs l 200 0) ▸ same_any A3 A4 n3 n4 c3 c4 _ _ _ _ w4 HC4.out.len o4.len (by omega) (by omega) (Nat.le_refl _) (Nat.le_refl _) HC4.out.cls o4.cls)
    clear o4 b4 HR3
    go_wp2_with fail
    refine HS4.out.mono ?_
    rintro e w5 ⟨rfl, b5⟩
    have HB5 := Lib.hid (below_step HB4.out b5)
    have s1 := bo_string (HO4.out.keep b5)
    have s2 := arg_string (c := c) (HB.out.below HB5.out) HN.out
    clear b5
    go_wp2_with fail
    go_ret
    exact ⟨rfl, HB5.out⟩

set_option maxRecDepth 100000 in
theorem lifted (os : Os) (started : os.Started) (H : Type) (enc : TypeId × Value → H) :
    ReturnsInHanded {} Try.checked os 3 .any (Rows.callDecodesSpec.pre6 enc Try.prog Try.f3 Rows.callDecodesRow.domain false) (Rows.callDecodesSpec.post enc Try.prog Try.f3 false true false false) := by
  refine returnsInHanded_of_change (C := Try.checked) own started (by kernel_rfl) Try.func3
    (ChangeSpec.witness6 (enc := enc) (C := Try.checked) false ⟨#[], #[.slice none 0 0], []⟩ 8 (by kernel_rfl) (by kernel_rfl) (by kernel_rfl) (by kernel_rfl)) ?_
  intro W base args ds gs before hval0 hW hcnd _
  have hval : ∀ (j : Nat) t v, Try.f3.params[j]? = some t → args[j]? = some v → Value.okWide Try.prog W .any base t v := hval0
  have hW' := hW
  obtain ⟨p, q, hA0, hV, rfl, hfz, hnd⟩ := hW
  have hA : DataW.TrodAll enc Try.prog W 0 (fun _ => true) true Try.f3.params.toList args.toList ds p := hA0
  rw [Try.params3] at hA hval
  obtain ⟨v0, vs0, d0, ds0, p0, q0, hargs, rfl, rfl, h0, r0⟩ := trodAll_cons hA
  obtain ⟨rfl, rfl, rfl⟩ := trodAll_nil r0
  obtain rfl : args = #[v0] := by cases args; simp_all
  obtain ⟨rfl, rfl⟩ := trodVars_none hV
  have hlt := fun x hx => hW'.lt x hx
  have t0 := h0
  obtain ⟨A0, n0, c0, x0, rfl, e0, m0, s0⟩ := open_bytes (hval 0 22 v0 rfl rfl) h0
  clear hA0 hval0
  refine (walk A0 n0 c0 x0 W e0 m0 s0).mono fun e W' ⟨he, hg⟩ => ?_
  subst he
  exact ⟨_, rfl, law_post (pv := []) hW' (fun _ _ _ => (trodAll_cons_mk (shut_bool Try.underlying4 _) trodAll_mk0)) (fun sp hsp => (trodAll_cons_mk (arg_stays (by decide) t0 hg (by simp +contextual) hlt hsp laid) trodAll_mk0)) (fun _ _ => rfl) (by simp)
    hg (ok_one (by kernel_rfl) rfl (okWide_bool_mk Try.underlying4 _))⟩

theorem over : Rows.callDecodesRow.holds Try.pinned (OpenSpec.ofChange Rows.callDecodesSpec) :=
  OpenClaim.holds_of_wide 3 Try.f3 rfl rfl rfl rfl rfl rfl rfl ⟨rfl, rfl, rfl, rfl, rfl⟩ rfl rfl rfl rfl rfl (by kernel_rfl) Try.func3 (by kernel_rfl)
    (of_decide_eq_true (by kernel_rfl)) (by unfold Func.isWrapper; first | (rw [if_pos (by decide +kernel)]; kernel_rfl) | (rw [if_neg (by decide +kernel)]; exact ⟨rfl, rfl⟩))
    (fun os started H enc _ => lifted os started H enc)

/-- The statement. -/
theorem proved : Rows.CallDecodesSaid :=
  over
end Go.Proofs.Ytoomdgjppfmdlaa.callDecodes
