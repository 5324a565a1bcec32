/- Plain facts: parsing the text of what was parsed gives it again. -/
import Derived.Test.YtlaceeiodlpmdaaText
namespace Go.Proofs.Ytlaceeiodlpmdaa

theorem suffix_last (l : Bs) (c : UInt8) : Lib.hasSuffix l [c] = (l.getLast? == some c) := by
  unfold Lib.hasSuffix
  rw [Bool.eq_iff_iff, List.isSuffixOf_iff_suffix, beq_iff_eq]
  constructor
  · rintro ⟨t, rfl⟩
    simp
  · intro h
    obtain ⟨ys, rfl⟩ := List.getLast?_eq_some_iff.1 h
    exact ⟨ys, rfl⟩

theorem jt_nil : Lib.joinTail [47] ([] : List Bs) = [] := rfl
theorem jt_cons (y : Bs) (r : List Bs) : Lib.joinTail [47] (y :: r) = 47 :: (y ++ Lib.joinTail [47] r) := by simp [Lib.joinTail]

theorem comps_join (x : Bs) (r : List Bs) (d : Bool) (hx : ∀ y ∈ x :: r, y ≠ [] ∧ ∀ c ∈ y, c ≠ 47) :
    comps (x ++ Lib.joinTail [47] r ++ if d then [47] else []) = x :: r := by
  induction r generalizing x with
  | nil =>
    obtain ⟨h1, h2⟩ := hx x (by simp)
    rw [jt_nil, List.append_nil]
    cases d
    · rw [if_neg (by decide), List.append_nil, comps_one _ h2, one_ne _ h1]
    · rw [if_pos rfl, comps_mid, comps_one _ h2, one_ne _ h1, comps_nil]; rfl
  | cons y r ih =>
    obtain ⟨h1, h2⟩ := hx x (by simp)
    rw [jt_cons, List.append_assoc, List.cons_append, comps_mid, comps_one _ h2, one_ne _ h1, ih y (fun z hz => hx z (by simp [hz]))]
    rfl
theorem comps_slash (r : Bs) : comps (47 :: r) = comps r := by
  have := compsA_slash [] r
  rw [one_nil, List.nil_append] at this
  exact this
theorem comps_text (xs : List Bs) (d : Bool) (hx : ∀ y ∈ xs, y ≠ [] ∧ ∀ c ∈ y, c ≠ 47) : comps (textL xs d) = xs := by
  unfold textL
  rw [comps_slash]
  cases xs with
  | nil => simp [Lib.join_nil, comps_nil]
  | cons x r =>
    rw [Lib.join_cons, List.isEmpty_cons, Bool.not_false, Bool.and_true]
    exact comps_join x r d hx

theorem nms_is (L : Bs) : ∀ x ∈ nms L, IsComp L x ∧ x ≠ [46] := by
  intro x hx
  unfold nms at hx
  rw [List.mem_filter] at hx
  exact ⟨comps_is L x hx.1, by simpa using hx.2⟩
theorem nms_text (L : Bs) (d : Bool) : nms (textL (nms L) d) = nms L := by
  have h := comps_text (nms L) d (fun y hy => ⟨(nms_is L y hy).1.1, (nms_is L y hy).1.2.1⟩)
  show (comps (textL (nms L) d)).filter _ = _
  rw [h, List.filter_eq_self]
  intro x hx
  simpa using (nms_is L x hx).2

theorem last_gath (cs : List Bs) (c : Bs) (h : cs.getLast? = some c) (hc : c ≠ [46]) : (gath cs).getLast? = some c := by
  obtain ⟨ys, rfl⟩ := List.getLast?_eq_some_iff.1 h
  rw [gath_snoc, if_neg hc]
  simp

/-- The last byte of a path's text that ends in no slash. -/
theorem text_end (ys : List Bs) (x : Bs) (h1 : x ≠ []) (h2 : ∀ c ∈ x, c ≠ 47) : Lib.hasSuffix (textL (ys ++ [x]) false) [47] = false := by
  rw [suffix_last]
  have e : ∃ z, textL (ys ++ [x]) false = z ++ x := by
    unfold textL
    cases ys with
    | nil => exact ⟨[47], by simp [Lib.join_one]⟩
    | cons y ys =>
      rw [List.cons_append, Lib.join_cons]
      refine ⟨47 :: (y ++ Lib.joinTail [47] ys ++ [47]), ?_⟩
      simp [Lib.joinTail]
  obtain ⟨z, hz⟩ := e
  rw [hz]
  obtain ⟨w, c, rfl⟩ : ∃ w c, x = w ++ [c] := ⟨_, _, (List.dropLast_concat_getLast h1).symm⟩
  have hc := h2 c (by simp)
  rw [← List.append_assoc]
  simp [hc]

theorem pdir_text (L : Bs) : pdir (textL (nms L) (pdir L)) = pdir L := by
  have h := comps_text (nms L) (pdir L) (fun y hy => ⟨(nms_is L y hy).1.1, (nms_is L y hy).1.2.1⟩)
  rcases List.eq_nil_or_concat (nms L) with hn | ⟨ys, x, hn⟩
  · have hd : pdir L = true := by
      unfold pdir
      rcases List.eq_nil_or_concat (comps L) with hc | ⟨zs, z, hc⟩
      · rw [hc]; rfl
      · rw [List.concat_eq_append] at hc
        have hz : z = [46] := by
          by_cases hz : z = [46]
          · exact hz
          · have := last_gath (comps L) z (by rw [hc]; simp) hz
            rw [gath_comps, hn] at this
            simp at this
        rw [hc, hz]
        simp [lastDots]
    rw [hd] at h ⊢
    unfold pdir
    rw [h, hn]
    rfl
  · rw [List.concat_eq_append] at hn
    cases hd : pdir L with
    | true =>
      unfold pdir
      rw [suffix_last, hn]
      have : (textL (ys ++ [x]) true).getLast? = some 47 := by
        unfold textL
        rw [show (ys ++ [x]).isEmpty = false by cases ys <;> rfl]
        show ((47 :: Lib.join (ys ++ [x]) [47]) ++ [47]).getLast? = some 47
        rw [List.getLast?_append]
        rfl
      rw [this]
      simp
    | false =>
      rw [hd] at h
      have hx := nms_is L x (by rw [hn]; simp)
      unfold pdir
      rw [h, hn, text_end ys x hx.1.1 hx.1.2.1, show (ys ++ [x]).isEmpty = false by cases ys <;> rfl, Bool.false_or, Bool.false_or]
      unfold pdir at hd
      rw [Bool.or_eq_false_iff] at hd
      obtain ⟨_, hl⟩ := hd
      rcases List.eq_nil_or_concat (comps L) with hc | ⟨zs, z, hc⟩
      · have : nms L = [] := by unfold nms; rw [hc]; rfl
        rw [hn] at this
        simp at this
      · rw [List.concat_eq_append] at hc
        rw [hc] at hl
        have hz : z ≠ [46] := by
          intro e
          rw [e] at hl
          simp [lastDots] at hl
        have := last_gath (comps L) z (by rw [hc]; simp) hz
        rw [gath_comps, hn] at this
        simp at this
        subst this
        simpa [lastDots] using hl

theorem zero_text (L : Bs) (d : Bool) (h : (0 : UInt8) ∉ L) : (0 : UInt8) ∉ textL (nms L) d := by
  unfold textL
  intro hm
  rw [List.mem_cons, List.mem_append] at hm
  rcases hm with hm | hm | hm
  · exact absurd hm (by decide)
  · unfold Lib.join at hm
    have : ∀ (xs : List Bs), (∀ x ∈ xs, (0 : UInt8) ∉ x) → (0 : UInt8) ∉ Lib.join xs [47] := by
      intro xs hx
      cases xs with
      | nil => simp [Lib.join_nil]
      | cons x r =>
        rw [Lib.join_cons]
        intro hh
        rw [List.mem_append] at hh
        rcases hh with hh | hh
        · exact hx x (by simp) hh
        · unfold Lib.joinTail at hh
          rw [List.mem_flatten] at hh
          obtain ⟨l, hl, hz⟩ := hh
          rw [List.mem_map] at hl
          obtain ⟨y, hy, rfl⟩ := hl
          rw [List.singleton_append, List.mem_cons] at hz
          rcases hz with hz | hz
          · exact absurd hz (by decide)
          · exact hx y (by simp [hy]) hz
    exact this (nms L) (fun x hx h0 => h ((nms_is L x hx).1.2.2 0 h0)) hm
  · split at hm
    · simp at hm
    · simp at hm

/-- What is parsed is parsed alike from its text. -/
theorem parse_back (L : Bs) (h : perr L = 0) (hl : (textL (nms L) (pdir L)).length ≤ 400) : perr (textL (nms L) (pdir L)) = 0 := by
  obtain ⟨_, _, h0, h60, h40⟩ := perr_zero.1 h
  rw [perr_zero]
  refine ⟨by simp [textL], hl, zero_text L _ h0, ?_, by rw [nms_text]; exact h40⟩
  rw [comps_text (nms L) _ (fun y hy => ⟨(nms_is L y hy).1.1, (nms_is L y hy).1.2.1⟩)]
  intro x hx
  exact h60 x ((List.mem_filter.1 hx).1)

theorem join_len (xs : List Bs) : (Lib.join xs [47]).length ≤ (xs.map List.length).sum + xs.length := by
  cases xs with
  | nil => simp [Lib.join_nil]
  | cons x r =>
    rw [Lib.join_cons, List.length_append]
    have : (Lib.joinTail [47] r).length = (r.map List.length).sum + r.length := by
      induction r with
      | nil => rfl
      | cons y r ih => rw [jt_cons]; simp [ih]; omega
    rw [this]
    simp
    omega
theorem filter_sum (p : Bs → Bool) (xs : List Bs) : ((xs.filter p).map List.length).sum ≤ (xs.map List.length).sum := by
  induction xs with
  | nil => simp
  | cons x xs ih =>
    rw [List.filter_cons]
    split <;> simp <;> omega
theorem nms_join (L : Bs) : (Lib.join (nms L) [47]).length ≤ L.length + 1 := by
  have h1 := join_len (nms L)
  have h2 : ((nms L).map List.length).sum ≤ ((comps L).map List.length).sum := filter_sum _ _
  have h3 : (nms L).length ≤ (comps L).length := List.length_filter_le _ _
  have h4 := compsA_len L []
  have e : compsA [] L = comps L := rfl
  rw [e] at h4
  simp at h4
  omega
end Go.Proofs.Ytlaceeiodlpmdaa
