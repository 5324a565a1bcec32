/- For every text the law PathBack returns true, and the text reads as it did; there are no conditions. -/
import Derived.Test.YtlaceeiodlpmdaaAwake
import Derived.Test.YtlaceeiodlpmdaaBack
import Derived.Test.YtlaceeiodlpmdaaFrame
import Derived.ProofKit
import Derived.OpenShut
import Derived.ShutString
namespace Go.Proofs.Ytlaceeiodlpmdaa.pathBack
open Go.ChangeShapes Go.WideShapes Go.ChangeAt Go.RowKit
open Go.ChangeMaps (open_string shut_string)
set_option linter.unusedVariables false      -- a walk need not use every 'w<i>' (that an integer argument fits its kind)

theorem own : ownKnob Try.prog.godebug = none := by kernel_rfl

set_option maxHeartbeats 1000000 in
theorem walk_no (s : ByteArray) (w : World) (hp : perr s.data.toList ≠ 0) : Calls Try.prog 5 #[.string s] w (AwakeE w) := by
  have hP := fun w => parse_any s w
  unfold ParseE at hP
  rw [pnames_no hp, pdirE_no hp] at hP
  have hT : (perr s.data.toList != 0) = true := by rw [bne_iff_ne]; exact hp
  clear hp
  generalize perr s.data.toList = n at *
  go_enter Try.func5, Try.ntmps5
  go_wp2_with (first | (go_at_call 12; refine (awake_any _).mono ?_; rintro e w1 ⟨rfl, hb1⟩) | (go_at_call 13; refine (hP _).mono ?_; rintro e w2 ⟨A, c, rfl, -, hb2⟩))
  go_ret
  exact ⟨rfl, hb1.trans ((hb2.trans ((below_alloc _ _).mono hb2.size)).mono hb1.size)⟩

set_option maxHeartbeats 2000000 in
theorem walk_yes (s : ByteArray) (w : World) (hp : perr s.data.toList = 0) : Calls Try.prog 5 #[.string s] w (AwakeE w) := by
  have hP := fun w => parse_any s w
  unfold ParseE at hP
  rw [pnames_ok hp, pdirE_ok hp, hp] at hP
  have hn40 := (perr_zero.1 hp).2.2.2.2
  have hs : s.data.toList.length ≤ 400 := (perr_zero.1 hp).2.1
  have hj := nms_join s.data.toList
  have hP2 := fun w => parse_any ⟨(textL (nms s.data.toList) (pdir s.data.toList)).toArray⟩ w
  have HB := Lib.hid (parse_back s.data.toList hp)
  unfold ParseE at hP2
  simp only at hP2
  have HN := Lib.hid (nms_text s.data.toList (pdir s.data.toList))
  have HD := Lib.hid (pdir_text s.data.toList)
  clear hp
  generalize nms s.data.toList = xs at *
  generalize pdir s.data.toList = d at *
  have hT := fun A c B w hc hB hx => text_any A xs.length c B d xs w rfl hc hB hx (by omega) (by omega)
  unfold TextE at hT
  have hS := fun A c A' c' B w hB hx hy => same_any A A' xs.length c xs.length c' B d d xs xs w rfl rfl (by omega) hB hx hy
  unfold SameE at hS
  rw [show sameB xs xs d d = true by simp [sameB]] at hS
  have hle : (textL xs d).length ≤ 200200 := by
    unfold textL; simp; split <;> simp <;> omega
  generalize textL xs d = t at *
  have H40 := Lib.hid hn40
  clear hn40 hj hs
  go_enter Try.func5, Try.ntmps5
  go_wp2_with (go_at_call 12; refine (awake_any _).mono ?_; rintro e w1 ⟨rfl, hb1⟩)
  refine (hP _).mono ?_
  rintro e w2 ⟨A, c, rfl, o2, hb2⟩
  have p2 := Box.new w2 (.slice A xs.length c) (.bool d) 25
  have u2 := o2.strs.below (below_alloc w2 (.cells #[.slice A xs.length c, .bool d] 25))
  have l2 := cap_le o2
  replace hb1 := hb1.trans ((hb2.trans ((below_alloc w2 (.cells #[.slice A xs.length c, .bool d] 25)).mono hb2.size)).mono hb1.size)
  clear o2 hb2
  go_wp2_with fail
  refine (hT A c _ _ l2.1 (Nat.le_of_lt p2.lt) u2).mono ?_
  rintro e w3 ⟨rfl, hb3⟩
  replace u2 := u2.below (hb3.mono (Nat.le_of_lt p2.lt))
  replace p2 := p2.keep hb3
  replace hb1 := hb1.trans (hb3.mono hb1.size)
  clear hb3
  by_cases hlen : 400 < t.length
  · go_wp2_with fail
    go_ret
    exact ⟨rfl, hb1⟩
  · have hp := Lib.hid (HB.out (by omega))
    rw [pnames_ok hp.out, pdirE_ok hp.out, hp.out, HN.out, HD.out] at hP2
    go_wp2_with fail
    refine (hP2 _).mono ?_
    rintro e w4 ⟨A', c', rfl, o4, hb4⟩
    have hb4' := hb4.trans ((below_alloc w4 (.cells #[.slice A' xs.length c', .bool d] 25)).mono hb4.size)
    have p4 := Box.new w4 (.slice A' xs.length c') (.bool d) 25
    have u4 := o4.strs.below (below_alloc w4 (.cells #[.slice A' xs.length c', .bool d] 25))
    have l4 := cap_le o4
    replace u2 := u2.below (hb4'.mono (Nat.le_of_lt p2.lt))
    replace p2 := p2.keep hb4'
    replace hb1 := hb1.trans (hb4'.mono hb1.size)
    clear hb4 hb4' o4
    have q0 := p2.c0
    have q1 := p2.c1
    go_wp2_with fail
    refine (hS A c A' c' _ _ (Nat.max_le.2 ⟨Nat.le_of_lt p2.lt, Nat.le_of_lt p4.lt⟩) (u2.more (Nat.le_max_left _ _)) (u4.more (Nat.le_max_right _ _))).mono ?_
    rintro e w5 ⟨rfl, hb5⟩
    replace u4 := u4.below (hb5.mono (Nat.le_of_lt p4.lt))
    replace p4 := p4.keep hb5
    replace hb1 := hb1.trans (hb5.mono hb1.size)
    clear hb5 q0 q1 p2 u2
    have q0 := p4.c0
    have q1 := p4.c1
    go_wp2_with fail
    refine (hT A' c' _ _ l4.1 (Nat.le_of_lt p4.lt) u4).mono ?_
    rintro e w6 ⟨rfl, hb6⟩
    go_wp2_with fail
    go_ret
    exact ⟨rfl, hb1.trans (hb6.mono hb1.size)⟩

theorem walk (s : ByteArray) (_w0 : s.size ≤ maxLen) (w : World) : Calls Try.prog 5 #[.string s] w (AwakeE w) := by
  by_cases hp : perr s.data.toList = 0
  · exact walk_yes s w hp
  · exact walk_no s w hp

set_option maxRecDepth 100000 in
theorem lifted (os : Os) (started : os.Started) (H : Type) (enc : TypeId × Value → H) :
    ReturnsInHanded {} Try.checked os 5 .any (Rows.pathBackSpec.pre6 enc Try.prog Try.f5 Rows.pathBackRow.domain false) (Rows.pathBackSpec.post enc Try.prog Try.f5 false true false false) := by
  refine returnsInHanded_of_change (C := Try.checked) own started (by kernel_rfl) Try.func5
    (ChangeSpec.witness6 (enc := enc) (C := Try.checked) false ⟨#[], #[.string ByteArray.empty], []⟩ 8 (by kernel_rfl) (by kernel_rfl) (by kernel_rfl) (by kernel_rfl)) ?_
  intro W base args ds gs before hval0 hW hcnd _
  have hval : ∀ (j : Nat) t v, Try.f5.params[j]? = some t → args[j]? = some v → Value.okWide Try.prog W .any base t v := hval0
  have hW' := hW
  obtain ⟨p, q, hA0, hV, rfl, hfz, hnd⟩ := hW
  have hA : DataW.TrodAll enc Try.prog W 0 (fun _ => true) true Try.f5.params.toList args.toList ds p := hA0
  rw [Try.params5] at hA hval
  obtain ⟨v0, vs0, d0, ds0, p0, q0, hargs, rfl, rfl, h0, r0⟩ := trodAll_cons hA
  obtain ⟨rfl, rfl, rfl⟩ := trodAll_nil r0
  obtain rfl : args = #[v0] := by cases args; simp_all
  obtain ⟨rfl, rfl⟩ := trodVars_none hV
  obtain ⟨a0, rfl, rfl, rfl, w0⟩ := open_string Try.underlying9 (hval 0 9 v0 rfl rfl) h0
  clear hA0 hval0
  simp only [List.append_nil] at hW'
  refine (walk a0 w0 W).mono fun e W' ⟨he, hg⟩ => ?_
  subst he
  exact ⟨_, rfl, law_post (pa := []) (pv := []) hW' (fun _ _ _ => (trodAll_cons_mk (shut_bool Try.underlying4 _) trodAll_mk0)) (fun sp _ => (trodAll_cons_mk (shut_string Try.underlying9 w0) trodAll_mk0)) (fun _ _ => rfl) rfl
    hg (ok_one (by kernel_rfl) rfl (okWide_bool_mk Try.underlying4 _))⟩

theorem over : Rows.pathBackRow.holds Try.pinned (OpenSpec.ofChange Rows.pathBackSpec) :=
  OpenClaim.holds_of_wide 5 Try.f5 rfl rfl rfl rfl rfl rfl rfl ⟨rfl, rfl, rfl, rfl, rfl⟩ rfl rfl rfl rfl rfl (by kernel_rfl) Try.func5 (by kernel_rfl)
    (of_decide_eq_true (by kernel_rfl)) (by unfold Func.isWrapper; first | (rw [if_pos (by decide +kernel)]; kernel_rfl) | (rw [if_neg (by decide +kernel)]; exact ⟨rfl, rfl⟩))
    (fun os started H enc _ => lifted os started H enc)

/-- The statement. -/
theorem proved : Rows.PathBackSaid :=
  over
end Go.Proofs.Ytlaceeiodlpmdaa.pathBack
