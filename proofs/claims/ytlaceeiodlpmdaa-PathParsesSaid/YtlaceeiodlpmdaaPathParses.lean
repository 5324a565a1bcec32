/- For every text the law PathParses returns true, and the text reads as it did; there are no conditions. -/
import Derived.Test.YtlaceeiodlpmdaaPth
import Derived.Test.YtlaceeiodlpmdaaName
import Derived.Test.YtlaceeiodlpmdaaRParse
import Derived.Test.YtlaceeiodlpmdaaFrame
import Derived.ProofKit
import Derived.OpenShut
import Derived.ShutString
namespace Go.Proofs.Ytlaceeiodlpmdaa.pathParses
open Go.ChangeShapes Go.WideShapes Go.ChangeAt Go.RowKit
open Go.ChangeMaps (open_string shut_string)
set_option linter.unusedVariables false      -- a walk need not use every 'w<i>' (that an integer argument fits its kind)

theorem own : ownKnob Try.prog.godebug = none := by kernel_rfl

theorem sameSelf (xs : List Bs) (d : Bool) : sameB xs xs d d = true := by
  unfold sameB; simp

set_option maxHeartbeats 1000000 in
theorem walk (s : ByteArray) (w0 : s.size ≤ maxLen) (w : World) : Calls Try.prog 3 #[.string s] w (AwakeE w) := by
  unfold maxLen at w0
  have hP := fun w => parse_any s w
  have hR := fun w => rparse_any s w
  have hN := fun w => name_any s w w0
  have hM := fun w => rname_any s w w0
  unfold ParseE at hP hR
  unfold NameE at hN hM
  have h40 := pnames_le s.data.toList
  generalize pnames s.data.toList = xs at *
  generalize pdirE s.data.toList = d at *
  generalize perr s.data.toList = pe at *
  generalize nerr s.data.toList = ne at *
  go_enter Try.func3, Try.ntmps3
  go_wp2_with (go_at_call 12; refine (awake_any _).mono ?_; rintro e w1 ⟨rfl, hB⟩)
  refine (hP _).mono ?_
  rintro e w2 ⟨A, c, rfl, o2, hb⟩
  have p := Pth.own d o2
  replace hB := below_step hB (hb.trans ((below_alloc w2 (.cells #[.slice A xs.length c, .bool d] 25)).mono hb.size))
  clear hb o2 hP
  go_wp2_with fail
  refine (hR _).mono ?_
  rintro e w3 ⟨A3, c3, rfl, o3, hb⟩
  have p3 := Pth.own d o3
  have hb' := hb.trans ((below_alloc w3 (.cells #[.slice A3 xs.length c3, .bool d] 25)).mono hb.size)
  replace p := p.keep hb'
  replace hB := below_step hB hb'
  clear hb hb' o3 hR
  have q0 := p.box.c0
  have q1 := p.box.c1
  have q30 := p3.box.c0
  have q31 := p3.box.c1
  generalize xs.length = n at *
  go_wp2_with fail
  refine (p.same p3 (by omega)).mono ?_
  rintro e w4 ⟨he, hb⟩
  rw [sameSelf] at he
  subst he
  replace hB := below_step hB hb
  clear q0 q1 q30 q31 p p3 hb
  go_wp2_with fail
  refine (hN _).mono ?_
  rintro e w5 ⟨rfl, hb⟩
  replace hB := below_step hB hb
  clear hb
  go_wp2_with fail
  refine (hM _).mono ?_
  rintro e w6 ⟨rfl, hb⟩
  replace hB := below_step hB hb
  clear hb
  go_wp2_with fail
  go_ret
  exact ⟨rfl, hB⟩

set_option maxRecDepth 100000 in
theorem lifted (os : Os) (started : os.Started) (H : Type) (enc : TypeId × Value → H) :
    ReturnsInHanded {} Try.checked os 3 .any (Rows.pathParsesSpec.pre6 enc Try.prog Try.f3 Rows.pathParsesRow.domain false) (Rows.pathParsesSpec.post enc Try.prog Try.f3 false true false false) := by
  refine returnsInHanded_of_change (C := Try.checked) own started (by kernel_rfl) Try.func3
    (ChangeSpec.witness6 (enc := enc) (C := Try.checked) false ⟨#[], #[.string ByteArray.empty], []⟩ 8 (by kernel_rfl) (by kernel_rfl) (by kernel_rfl) (by kernel_rfl)) ?_
  intro W base args ds gs before hval0 hW hcnd _
  have hval : ∀ (j : Nat) t v, Try.f3.params[j]? = some t → args[j]? = some v → Value.okWide Try.prog W .any base t v := hval0
  have hW' := hW
  obtain ⟨p, q, hA0, hV, rfl, hfz, hnd⟩ := hW
  have hA : DataW.TrodAll enc Try.prog W 0 (fun _ => true) true Try.f3.params.toList args.toList ds p := hA0
  rw [Try.params3] at hA hval
  obtain ⟨v0, vs0, d0, ds0, p0, q0, hargs, rfl, rfl, h0, r0⟩ := trodAll_cons hA
  obtain ⟨rfl, rfl, rfl⟩ := trodAll_nil r0
  obtain rfl : args = #[v0] := by cases args; simp_all
  obtain ⟨rfl, rfl⟩ := trodVars_none hV
  obtain ⟨a0, rfl, rfl, rfl, w0⟩ := open_string Try.underlying9 (hval 0 9 v0 rfl rfl) h0
  clear hA0 hval0
  simp only [List.append_nil] at hW'
  refine (walk a0 w0 W).mono fun e W' ⟨he, hg⟩ => ?_
  subst he
  exact ⟨_, rfl, law_post (pa := []) (pv := []) hW' (fun _ _ _ => (trodAll_cons_mk (shut_bool Try.underlying4 _) trodAll_mk0)) (fun sp _ => (trodAll_cons_mk (shut_string Try.underlying9 w0) trodAll_mk0)) (fun _ _ => rfl) rfl
    hg (ok_one (by kernel_rfl) rfl (okWide_bool_mk Try.underlying4 _))⟩

theorem over : Rows.pathParsesRow.holds Try.pinned (OpenSpec.ofChange Rows.pathParsesSpec) :=
  OpenClaim.holds_of_wide 3 Try.f3 rfl rfl rfl rfl rfl rfl rfl ⟨rfl, rfl, rfl, rfl, rfl⟩ rfl rfl rfl rfl rfl (by kernel_rfl) Try.func3 (by kernel_rfl)
    (of_decide_eq_true (by kernel_rfl)) (by unfold Func.isWrapper; first | (rw [if_pos (by decide +kernel)]; kernel_rfl) | (rw [if_neg (by decide +kernel)]; exact ⟨rfl, rfl⟩))
    (fun os started H enc _ => lifted os started H enc)

/-- The statement. -/
theorem proved : Rows.PathParsesSaid :=
  over
end Go.Proofs.Ytlaceeiodlpmdaa.pathParses
