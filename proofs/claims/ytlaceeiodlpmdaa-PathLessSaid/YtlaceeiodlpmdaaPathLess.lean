/- For every three texts the law PathLess returns true, and the texts read as they did; there are no conditions. -/
import Derived.Test.YtlaceeiodlpmdaaAwake
import Derived.Test.YtlaceeiodlpmdaaLaws0
import Derived.Test.YtlaceeiodlpmdaaFrame
import Derived.ProofKit
import Derived.OpenShut
import Derived.ShutString
namespace Go.Proofs.Ytlaceeiodlpmdaa.pathLess
open Go.ChangeShapes Go.WideShapes Go.ChangeAt Go.RowKit
open Go.ChangeMaps (open_string shut_string)
set_option linter.unusedVariables false      -- a walk need not use every 'w<i>' (that an integer argument fits its kind)

theorem own : ownKnob Try.prog.godebug = none := by kernel_rfl

def LawE (w : World) (e : Ending) (w' : World) : Prop := e = .returned (.bool true) ∧ Below w.heap.size w w'

theorem lb_app (a b : ByteArray) : (a ++ b).toList = a.toList ++ b.toList := by
  rw [Lib.toList_data, Lib.toList_data, Lib.toList_data]; simp

section
variable (a0 a1 a2 : ByteArray) (w0 : a0.size ≤ 9223372036854775807) (w1 : a1.size ≤ 9223372036854775807) (w : World)
  (e1 : lessB a0 a0 = false) (e2 : lessB (a0 ++ a1) a0 = false)
include w0 w1 e1 e2
set_option maxHeartbeats 1000000 in
theorem walk_same (b : Bool) (hb : a1.toList.isEmpty = b) (h3 : b = false → lessB a0 (a0 ++ a1) = true) (hq : (a0.toList == a1.toList) = true) (hx : lessB a0 a1 = false) :
    Calls Try.prog 9 #[.string a0, .string a1, .string a2] w (LawE w) := by
  cases b
  · have h4 := h3 rfl
    clear h3
    go_enter Try.func9, Try.ntmps9
    go_wp2_with (first | (go_at_call 12; refine (awake_any _).mono ?_; rintro e w3 ⟨rfl, hb3⟩) | (go_at_call 25; refine (less_any _ _ _).mono ?_; rintro e w' ⟨rfl, rfl⟩))
    all_goals (go_ret; exact ⟨rfl, hb3⟩)
  · clear h3
    go_enter Try.func9, Try.ntmps9
    go_wp2_with (first | (go_at_call 12; refine (awake_any _).mono ?_; rintro e w3 ⟨rfl, hb3⟩) | (go_at_call 25; refine (less_any _ _ _).mono ?_; rintro e w' ⟨rfl, rfl⟩))
    all_goals (go_ret; exact ⟨rfl, hb3⟩)
set_option maxHeartbeats 1000000 in
theorem walk_more (b : Bool) (hb : a1.toList.isEmpty = b) (h3 : b = false → lessB a0 (a0 ++ a1) = true) (hq : (a0.toList == a1.toList) = false) (hx : lessB a0 a1 = false) (hy : lessB a1 a0 = true) :
    Calls Try.prog 9 #[.string a0, .string a1, .string a2] w (LawE w) := by
  cases b
  · have h4 := h3 rfl
    clear h3
    go_enter Try.func9, Try.ntmps9
    go_wp2_with (first | (go_at_call 12; refine (awake_any _).mono ?_; rintro e w3 ⟨rfl, hb3⟩) | (go_at_call 25; refine (less_any _ _ _).mono ?_; rintro e w' ⟨rfl, rfl⟩))
    all_goals (go_ret; exact ⟨rfl, hb3⟩)
  · clear h3
    go_enter Try.func9, Try.ntmps9
    go_wp2_with (first | (go_at_call 12; refine (awake_any _).mono ?_; rintro e w3 ⟨rfl, hb3⟩) | (go_at_call 25; refine (less_any _ _ _).mono ?_; rintro e w' ⟨rfl, rfl⟩))
    all_goals (go_ret; exact ⟨rfl, hb3⟩)
set_option maxHeartbeats 1000000 in
theorem walk_less (b : Bool) (hb : a1.toList.isEmpty = b) (h3 : b = false → lessB a0 (a0 ++ a1) = true) (hq : (a0.toList == a1.toList) = false) (hx : lessB a0 a1 = true) (hy : lessB a1 a0 = false) (hz : lessB a1 a2 = false) :
    Calls Try.prog 9 #[.string a0, .string a1, .string a2] w (LawE w) := by
  cases b
  · have h4 := h3 rfl
    clear h3
    go_enter Try.func9, Try.ntmps9
    go_wp2_with (first | (go_at_call 12; refine (awake_any _).mono ?_; rintro e w3 ⟨rfl, hb3⟩) | (go_at_call 25; refine (less_any _ _ _).mono ?_; rintro e w' ⟨rfl, rfl⟩))
    all_goals (go_ret; exact ⟨rfl, hb3⟩)
  · clear h3
    go_enter Try.func9, Try.ntmps9
    go_wp2_with (first | (go_at_call 12; refine (awake_any _).mono ?_; rintro e w3 ⟨rfl, hb3⟩) | (go_at_call 25; refine (less_any _ _ _).mono ?_; rintro e w' ⟨rfl, rfl⟩))
    all_goals (go_ret; exact ⟨rfl, hb3⟩)
set_option maxHeartbeats 1000000 in
theorem walk_far (b : Bool) (hb : a1.toList.isEmpty = b) (h3 : b = false → lessB a0 (a0 ++ a1) = true) (hq : (a0.toList == a1.toList) = false) (hx : lessB a0 a1 = true) (hy : lessB a1 a0 = false) (hz : lessB a1 a2 = true) (hu : lessB a0 a2 = true) :
    Calls Try.prog 9 #[.string a0, .string a1, .string a2] w (LawE w) := by
  cases b
  · have h4 := h3 rfl
    clear h3
    go_enter Try.func9, Try.ntmps9
    go_wp2_with (first | (go_at_call 12; refine (awake_any _).mono ?_; rintro e w3 ⟨rfl, hb3⟩) | (go_at_call 25; refine (less_any _ _ _).mono ?_; rintro e w' ⟨rfl, rfl⟩))
    all_goals (go_ret; exact ⟨rfl, hb3⟩)
  · clear h3
    go_enter Try.func9, Try.ntmps9
    go_wp2_with (first | (go_at_call 12; refine (awake_any _).mono ?_; rintro e w3 ⟨rfl, hb3⟩) | (go_at_call 25; refine (less_any _ _ _).mono ?_; rintro e w' ⟨rfl, rfl⟩))
    all_goals (go_ret; exact ⟨rfl, hb3⟩)
end

theorem walk (a0 : ByteArray) (a1 : ByteArray) (a2 : ByteArray) (w0 : a0.size ≤ maxLen) (w1 : a1.size ≤ maxLen) (_w2 : a2.size ≤ maxLen) (w : World) :
    Calls Try.prog 9 #[.string a0, .string a1, .string a2] w (LawE w) := by
  unfold maxLen at w0 w1
  have e1 : lessB a0 a0 = false := bl_irrefl _
  have e2 : lessB (a0 ++ a1) a0 = false := by unfold lessB; rw [lb_app]; exact bl_more _ _
  have h3 : a1.toList.isEmpty = false → lessB a0 (a0 ++ a1) = true := fun h => by
    unfold lessB; rw [lb_app]; exact bl_less _ _ (by intro e; rw [e] at h; simp at h)
  cases hq : (a0.toList == a1.toList)
  · have hy : lessB a1 a0 = !lessB a0 a1 := by
      unfold lessB
      rw [bl_total a1.toList a0.toList (by intro e; rw [e] at hq; simp at hq)]
    cases hx : lessB a0 a1
    · exact walk_more a0 a1 a2 w0 w1 w e1 e2 _ rfl h3 hq hx (by rw [hy, hx]; rfl)
    · cases hz : lessB a1 a2
      · exact walk_less a0 a1 a2 w0 w1 w e1 e2 _ rfl h3 hq hx (by rw [hy, hx]; rfl) hz
      · exact walk_far a0 a1 a2 w0 w1 w e1 e2 _ rfl h3 hq hx (by rw [hy, hx]; rfl) hz (bl_trans _ _ _ hx hz)
  · exact walk_same a0 a1 a2 w0 w1 w e1 e2 _ rfl h3 hq (by unfold lessB; rw [beq_iff_eq.1 hq]; exact bl_irrefl _)

set_option maxRecDepth 100000 in
theorem lifted (os : Os) (started : os.Started) (H : Type) (enc : TypeId × Value → H) :
    ReturnsInHanded {} Try.checked os 9 .any (Rows.pathLessSpec.pre6 enc Try.prog Try.f9 Rows.pathLessRow.domain false) (Rows.pathLessSpec.post enc Try.prog Try.f9 false true false false) := by
  refine returnsInHanded_of_change (C := Try.checked) own started (by kernel_rfl) Try.func9
    (ChangeSpec.witness6 (enc := enc) (C := Try.checked) false ⟨#[], #[.string ByteArray.empty, .string ByteArray.empty, .string ByteArray.empty], []⟩ 8 (by kernel_rfl) (by kernel_rfl) (by kernel_rfl) (by kernel_rfl)) ?_
  intro W base args ds gs before hval0 hW hcnd _
  have hval : ∀ (j : Nat) t v, Try.f9.params[j]? = some t → args[j]? = some v → Value.okWide Try.prog W .any base t v := hval0
  have hW' := hW
  obtain ⟨p, q, hA0, hV, rfl, hfz, hnd⟩ := hW
  have hA : DataW.TrodAll enc Try.prog W 0 (fun _ => true) true Try.f9.params.toList args.toList ds p := hA0
  rw [Try.params9] at hA hval
  obtain ⟨v0, vs0, d0, ds0, p0, q0, hargs, rfl, rfl, h0, r0⟩ := trodAll_cons hA
  obtain ⟨v1, vs1, d1, ds1, p1, q1, rfl, rfl, rfl, h1, r1⟩ := trodAll_cons r0
  obtain ⟨v2, vs2, d2, ds2, p2, q2, rfl, rfl, rfl, h2, r2⟩ := trodAll_cons r1
  obtain ⟨rfl, rfl, rfl⟩ := trodAll_nil r2
  obtain rfl : args = #[v0, v1, v2] := by cases args; simp_all
  obtain ⟨rfl, rfl⟩ := trodVars_none hV
  obtain ⟨a0, rfl, rfl, rfl, w0⟩ := open_string Try.underlying9 (hval 0 9 v0 rfl rfl) h0
  obtain ⟨a1, rfl, rfl, rfl, w1⟩ := open_string Try.underlying9 (hval 1 9 v1 rfl rfl) h1
  obtain ⟨a2, rfl, rfl, rfl, w2⟩ := open_string Try.underlying9 (hval 2 9 v2 rfl rfl) h2
  clear hA0 hval0
  simp only [List.append_nil] at hW'
  refine (walk a0 a1 a2 w0 w1 w2 W).mono fun e W' ⟨he, hg⟩ => ?_
  subst he
  exact ⟨_, rfl, law_post (pa := []) (pv := []) hW' (fun _ _ _ => (trodAll_cons_mk (shut_bool Try.underlying4 _) trodAll_mk0)) (fun sp _ => (trodAll_cons_mk (shut_string Try.underlying9 w0) (trodAll_cons_mk (shut_string Try.underlying9 w1) (trodAll_cons_mk (shut_string Try.underlying9 w2) trodAll_mk0)))) (fun _ _ => rfl) rfl
    hg (ok_one (by kernel_rfl) rfl (okWide_bool_mk Try.underlying4 _))⟩

theorem over : Rows.pathLessRow.holds Try.pinned (OpenSpec.ofChange Rows.pathLessSpec) :=
  OpenClaim.holds_of_wide 9 Try.f9 rfl rfl rfl rfl rfl rfl rfl ⟨rfl, rfl, rfl, rfl, rfl⟩ rfl rfl rfl rfl rfl (by kernel_rfl) Try.func9 (by kernel_rfl)
    (of_decide_eq_true (by kernel_rfl)) (by unfold Func.isWrapper; first | (rw [if_pos (by decide +kernel)]; kernel_rfl) | (rw [if_neg (by decide +kernel)]; exact ⟨rfl, rfl⟩))
    (fun os started H enc _ => lifted os started H enc)

/-- The statement. -/
theorem proved : Rows.PathLessSaid :=
  over
end Go.Proofs.Ytlaceeiodlpmdaa.pathLess
