/- For every text the law PathLast returns true, and the text reads as it did; there are no conditions. -/
import Derived.Test.YtlaceeiodlpmdaaPth
import Derived.Test.YtlaceeiodlpmdaaName
import Derived.Test.YtlaceeiodlpmdaaBack
import Derived.Test.YtlaceeiodlpmdaaFrame
import Derived.ProofKit
import Derived.OpenShut
import Derived.ShutString
namespace Go.Proofs.Ytlaceeiodlpmdaa.pathLast
open Go.ChangeShapes Go.WideShapes Go.ChangeAt Go.RowKit
open Go.ChangeMaps (open_string shut_string)
set_option linter.unusedVariables false      -- a walk need not use every 'w<i>' (that an integer argument fits its kind)

theorem own : ownKnob Try.prog.godebug = none := by kernel_rfl

theorem nerr_comp (L x : Bs) (h : perr L = 0) (hx : x ∈ nms L) : nerr x = 0 ∧ x.length ≤ 60 := by
  obtain ⟨⟨h1, h2, h3⟩, h4⟩ := nms_is L x hx
  obtain ⟨_, _, h0, h60, _⟩ := perr_zero.1 h
  have hl := h60 x (List.mem_filter.1 hx).1
  refine ⟨?_, hl⟩
  unfold nerr
  rw [if_neg h1, if_neg (by omega), if_neg]
  rintro (hz | hz)
  · exact h0 (h3 0 hz)
  · exact h2 47 hz rfl
/-- Where a path has no last name, it says that it stands for a directory, and its last name, if it has one, is '..'. -/
theorem dir_last (L : Bs) (h : lastNo (nms L) = true) : pdir L = true ∧ (nms L = [] ∨ ∃ ys, nms L = ys ++ [[46, 46]]) := by
  constructor
  · rcases List.eq_nil_or_concat (comps L) with hc | ⟨zs, z, hc⟩
    · unfold pdir
      rw [hc]
      rfl
    · rw [List.concat_eq_append] at hc
      have hd : lastDots (comps L) = true := by
        unfold lastDots
        rw [hc, List.getLast?_append]
        simp only [List.getLast?_singleton, Option.some_or]
        by_cases hz : z = [46]
        · simp [hz]
        · unfold lastNo nms at h
          rw [hc, List.filter_append] at h
          have : List.filter (fun x => !(x == [46])) [z] = [z] := by simp [hz]
          rw [this, List.getLast?_append] at h
          simp only [List.getLast?_singleton, Option.some_or] at h
          exact h
      unfold pdir
      rw [hd, Bool.or_true]
  · rcases List.eq_nil_or_concat (nms L) with hc | ⟨zs, z, hc⟩
    · exact .inl hc
    · rw [List.concat_eq_append] at hc
      refine .inr ⟨zs, ?_⟩
      have hz := (nms_is L z (by rw [hc]; simp)).2
      unfold lastNo at h
      rw [hc, List.getLast?_append] at h
      simp only [List.getLast?_singleton, Option.some_or] at h
      unfold dotB at h
      rw [hc]
      simp [hz] at h
      rw [h]
theorem sameSelf (xs : List Bs) (d : Bool) : sameB xs xs d d = true := by
  unfold sameB; simp

/-- 'Join' with a slice of one string that lies in a new block. -/
theorem join_last (A : Option Addr) (c n : Nat) (d : Bool) (ys : List Bs) (x : Bs) (w : World) (hn40 : n ≤ 40) (hn : n = ys.length + 1) (b : Nat) (hbz : b = w.heap.size) (hs : Strs w w.heap.size A ys) :
    Calls Try.prog 21 #[Pv A ys.length c true, Pv (some ⟨b, 0, none⟩) 1 1 d] (w.alloc (.cells #[Sv x] 9)) fun e w' => ∃ A2 c2, e = .returned (.tuple #[Pv A2 n c2 d, .int .i64 0]) ∧
      Pth (w'.alloc (.cells #[.slice A2 n c2, .bool d] 25)) w'.heap.size A2 n c2 d (ys ++ [x]) ∧ Below w.heap.size w (w'.alloc (.cells #[.slice A2 n c2, .bool d] 25)) := by
  subst hbz
  have hx : Strs (w.alloc (.cells #[Sv x] 9)) (w.alloc (.cells #[Sv x] 9)).heap.size (some ⟨w.heap.size, 0, none⟩) [x] := fun _ => by
    refine ⟨_, rfl, by simp, fun j y hy => ?_⟩
    obtain ⟨hj, rfl⟩ := List.getElem?_eq_some_iff.1 hy
    simp at hj
    subst hj
    exact cell_one_new _ _ _ 0 _ rfl
  have a := below_alloc w (.cells #[Sv x] 9)
  refine (join_yes A (some ⟨w.heap.size, 0, none⟩) ys.length c 1 1 (w.alloc (.cells #[Sv x] 9)).heap.size true d ys [x] (w.alloc (.cells #[Sv x] 9)) (by omega) rfl rfl (Nat.le_refl _) (hs.up a) hx).mono ?_
  rintro e w' ⟨A2, c2, rfl, ho, hb⟩
  have hl : (ys ++ [x]).length = n := by rw [hn]; simp
  have hp := Pth.own d ho
  rw [hl] at hp
  refine ⟨A2, c2, by rw [hl]; rfl, hp, below_step a (hb.trans ((below_alloc _ _).mono hb.size))⟩

set_option maxHeartbeats 1000000 in
theorem walk_no (s : ByteArray) (w : World) (hp : perr s.data.toList ≠ 0) : Calls Try.prog 8 #[.string s] w (AwakeE w) := by
  have hP := fun w => parse_any s w
  unfold ParseE at hP
  rw [pnames_no hp, pdirE_no hp] at hP
  have hT : (perr s.data.toList != 0) = true := by rw [bne_iff_ne]; exact hp
  clear hp
  generalize perr s.data.toList = n at *
  go_enter Try.func8, Try.ntmps8
  go_wp2_with (first | (go_at_call 12; refine (awake_any _).mono ?_; rintro e w1 ⟨rfl, hb1⟩) | (go_at_call 13; refine (hP _).mono ?_; rintro e w2 ⟨A, c, rfl, -, hb2⟩))
  go_ret
  exact ⟨rfl, hb1.trans ((hb2.trans ((below_alloc _ _).mono hb2.size)).mono hb1.size)⟩

set_option maxHeartbeats 8000000 in
theorem walk_yes (s : ByteArray) (w : World) (hp : perr s.data.toList = 0) : Calls Try.prog 8 #[.string s] w (AwakeE w) := by
  have hP := fun w => parse_any s w
  unfold ParseE at hP
  rw [pnames_ok hp, pdirE_ok hp, hp] at hP
  have hn40 := (perr_zero.1 hp).2.2.2.2
  have HC := Lib.hid (fun x hx => nerr_comp s.data.toList x hp hx)
  have HD := Lib.hid (dir_last s.data.toList)
  clear hp
  generalize nms s.data.toList = xs at *
  generalize pdir s.data.toList = d at *
  go_enter Try.func8, Try.ntmps8
  go_wp2_with (go_at_call 12; refine (awake_any _).mono ?_; rintro e w1 ⟨rfl, hB⟩)
  refine (hP _).mono ?_
  rintro e w2 ⟨A, c, rfl, o2, hb⟩
  have p := Pth.own d o2
  replace hB := below_step hB (hb.trans ((below_alloc w2 (.cells #[.slice A xs.length c, .bool d] 25)).mono hb.size))
  clear hb o2 hP
  have hc := p.cap.1
  generalize hn : xs.length = n at *
  have q0 := p.box.c0
  have q1 := p.box.c1
  go_wp2_with fail
  rcases last_any A n c (w2.alloc (.cells #[.slice A n c, .bool d] 25)).heap.size d xs (w2.alloc (.cells #[.slice A n c, .bool d] 25)) hn.symm (by omega) p.cap.1 (Nat.le_refl _) p.st with ⟨hno, hC⟩ | ⟨ys, x, hxs, -, hC⟩
  · refine hC.mono ?_
    rintro e w3 ⟨rfl, hb⟩
    obtain ⟨hd, hl⟩ := HD.out hno
    subst hd
    have p3 := (p.keep hb).keep (below_alloc w3 (.cells #[.slice none 0 0, .bool false] 25))
    replace hB := below_step (below_step hB hb) (below_alloc w3 (.cells #[.slice none 0 0, .bool false] 25))
    have hl3 := hb.size
    clear q0 q1 p hC HD HC hno hb
    have q0 := p3.box.c0
    have q1 := p3.box.c1
    rcases hl with rfl | ⟨ys, rfl⟩
    · have hn0 : n = 0 := by rw [← hn]; rfl
      subst hn0
      clear hn p3
      go_wp2_with fail
      go_ret
      exact ⟨rfl, hB⟩
    · obtain ⟨ad, rfl, _, hcx, _⟩ := last_get p3.st
      have hn1 : n = ys.length + 1 := by rw [← hn]; simp
      generalize ys.length = m at hcx hn1
      subst hn1
      clear p3 hn
      go_wp2_with fail
      go_ret
      exact ⟨rfl, hB⟩
  · refine hC.mono ?_
    rintro e w3 ⟨A5, c5, rfl, o5, hb⟩
    have p5 := Pth.own true o5
    have p3 := (p.keep hb).keep (below_alloc w3 (.cells #[.slice A5 ys.length c5, .bool true] 25))
    replace hB := below_step (below_step hB hb) (below_alloc w3 (.cells #[.slice A5 ys.length c5, .bool true] 25))
    have hl3 := hb.size
    have HL := Lib.hid (show n = ys.length + 1 by rw [← hn, hxs]; simp)
    clear hn
    have HX := Lib.hid hxs
    have HN := Lib.hid (HC.out x (by rw [hxs]; simp))
    have hNx := fun w => name_any ⟨x.toArray⟩ w (by have := HN.out.2; rw [Lib.size_eq]; simp; omega)
    unfold NameE at hNx
    simp only at hNx
    rw [HN.out.1] at hNx
    clear q0 q1 p hC HD HC hb o5 hxs
    have q0 := p3.box.c0
    have q1 := p3.box.c1
    have q1' := (p3.keep (below_alloc _ (.cells #[Sv x] 9))).box.c1
    have q50 := p5.box.c0
    have q51 := p5.box.c1
    go_wp2_with fail
    refine (join_last A5 c5 n d ys x (w3.alloc (.cells #[.slice A5 ys.length c5, .bool true] 25)) (by omega) HL.out (w3.heap.size + 1) (by simp) p5.st).mono ?_
    rintro e w4 ⟨A4, c4, rfl, p4, hb4⟩
    rw [← HX.out] at p4
    replace p3 := p3.keep hb4
    replace p5 := p5.keep hb4
    replace hB := below_step hB hb4
    clear q0 q1 q1' q50 q51
    have q40 := p4.box.c0
    have q41 := p4.box.c1
    have q30 := p3.box.c0
    have q31 := p3.box.c1
    have q51 := p5.box.c1
    go_wp2_with fail
    refine (p4.same p3 (by omega)).mono ?_
    rintro e w5 ⟨he, hb5⟩
    rw [sameSelf] at he
    subst he
    have r51 := (p5.keep hb5).box.c1
    replace hB := below_step hB hb5
    clear q40 q41 q30 q31 q51
    go_wp2_with fail
    refine (hNx _).mono ?_
    rintro e w6 ⟨rfl, hb6⟩
    replace hB := below_step hB hb6
    go_wp2_with fail
    go_ret
    exact ⟨rfl, hB⟩

theorem walk (s : ByteArray) (_w0 : s.size ≤ maxLen) (w : World) : Calls Try.prog 8 #[.string s] w (AwakeE w) := by
  by_cases hp : perr s.data.toList = 0
  · exact walk_yes s w hp
  · exact walk_no s w hp

set_option maxRecDepth 100000 in
theorem lifted (os : Os) (started : os.Started) (H : Type) (enc : TypeId × Value → H) :
    ReturnsInHanded {} Try.checked os 8 .any (Rows.pathLastSpec.pre6 enc Try.prog Try.f8 Rows.pathLastRow.domain false) (Rows.pathLastSpec.post enc Try.prog Try.f8 false true false false) := by
  refine returnsInHanded_of_change (C := Try.checked) own started (by kernel_rfl) Try.func8
    (ChangeSpec.witness6 (enc := enc) (C := Try.checked) false ⟨#[], #[.string ByteArray.empty], []⟩ 8 (by kernel_rfl) (by kernel_rfl) (by kernel_rfl) (by kernel_rfl)) ?_
  intro W base args ds gs before hval0 hW hcnd _
  have hval : ∀ (j : Nat) t v, Try.f8.params[j]? = some t → args[j]? = some v → Value.okWide Try.prog W .any base t v := hval0
  have hW' := hW
  obtain ⟨p, q, hA0, hV, rfl, hfz, hnd⟩ := hW
  have hA : DataW.TrodAll enc Try.prog W 0 (fun _ => true) true Try.f8.params.toList args.toList ds p := hA0
  rw [Try.params8] at hA hval
  obtain ⟨v0, vs0, d0, ds0, p0, q0, hargs, rfl, rfl, h0, r0⟩ := trodAll_cons hA
  obtain ⟨rfl, rfl, rfl⟩ := trodAll_nil r0
  obtain rfl : args = #[v0] := by cases args; simp_all
  obtain ⟨rfl, rfl⟩ := trodVars_none hV
  obtain ⟨a0, rfl, rfl, rfl, w0⟩ := open_string Try.underlying9 (hval 0 9 v0 rfl rfl) h0
  clear hA0 hval0
  simp only [List.append_nil] at hW'
  refine (walk a0 w0 W).mono fun e W' ⟨he, hg⟩ => ?_
  subst he
  exact ⟨_, rfl, law_post (pa := []) (pv := []) hW' (fun _ _ _ => (trodAll_cons_mk (shut_bool Try.underlying4 _) trodAll_mk0)) (fun sp _ => (trodAll_cons_mk (shut_string Try.underlying9 w0) trodAll_mk0)) (fun _ _ => rfl) rfl
    hg (ok_one (by kernel_rfl) rfl (okWide_bool_mk Try.underlying4 _))⟩

theorem over : Rows.pathLastRow.holds Try.pinned (OpenSpec.ofChange Rows.pathLastSpec) :=
  OpenClaim.holds_of_wide 8 Try.f8 rfl rfl rfl rfl rfl rfl rfl ⟨rfl, rfl, rfl, rfl, rfl⟩ rfl rfl rfl rfl rfl (by kernel_rfl) Try.func8 (by kernel_rfl)
    (of_decide_eq_true (by kernel_rfl)) (by unfold Func.isWrapper; first | (rw [if_pos (by decide +kernel)]; kernel_rfl) | (rw [if_neg (by decide +kernel)]; exact ⟨rfl, rfl⟩))
    (fun os started H enc _ => lifted os started H enc)

/-- The statement. -/
theorem proved : Rows.PathLastSaid :=
  over
end Go.Proofs.Ytlaceeiodlpmdaa.pathLast
