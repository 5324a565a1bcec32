/- Plain facts: slashes and dots put in between two texts change no names. -/
import Derived.Test.YtlaceeiodlpmdaaBack
namespace Go.Proofs.Ytlaceeiodlpmdaa

/-- What is put in between. -/
def midL : Nat → Bs
  | 0 => [47]
  | i + 1 => midL i ++ if i % 2 = 0 then [47] else [46, 47]
theorem midL_len (i : Nat) : (midL i).length ≤ 2 * i + 1 := by
  induction i with
  | zero => simp [midL]
  | succ i ih => rw [midL, List.length_append]; split <;> simp <;> omega
def midD : Nat → List Bs
  | 0 => []
  | i + 1 => midD i ++ if i % 2 = 0 then [] else [[46]]
theorem midD_is (i : Nat) : ∀ x ∈ midD i, x = [46] := by
  induction i with
  | zero => simp [midD]
  | succ i ih =>
    intro x hx
    rw [midD, List.mem_append] at hx
    rcases hx with hx | hx
    · exact ih x hx
    · split at hx <;> simp at hx
      exact hx
theorem comps_midL (i : Nat) (a b : Bs) : comps (a ++ midL i ++ b) = comps a ++ midD i ++ comps b := by
  induction i generalizing b with
  | zero => rw [midL, midD, List.append_assoc, List.singleton_append, comps_mid, List.append_nil]
  | succ i ih =>
    rw [midL, ← List.append_assoc, List.append_assoc (a ++ midL i), ih, midD]
    by_cases h : i % 2 = 0
    · rw [if_pos h, if_pos h, List.append_nil, List.singleton_append, comps_slash]
    · rw [if_neg h, if_neg h]
      have : comps ([46, 47] ++ b) = [[46]] ++ comps b := comps_mid [46] b
      rw [this]
      simp
theorem nms_midL (i : Nat) (a b : Bs) : nms (a ++ midL i ++ b) = nms a ++ nms b := by
  unfold nms
  rw [comps_midL, List.filter_append, List.filter_append]
  have : (midD i).filter (fun x => !(x == [46])) = [] := by
    rw [List.filter_eq_nil_iff]
    intro x hx
    simp [midD_is i x hx]
  rw [this, List.append_nil]
theorem zero_midL (i : Nat) : (0 : UInt8) ∉ midL i := by
  induction i with
  | zero => decide
  | succ i ih =>
    rw [midL, List.mem_append]
    rintro (h | h)
    · exact ih h
    · split at h <;> exact absurd h (by decide)
theorem comps_none (b cur : Bs) (h : compsA cur b = []) : cur = [] ∧ ∀ c ∈ b, c = 47 := by
  induction b generalizing cur with
  | nil =>
    rw [compsA_nil, one] at h
    split at h
    · rename_i hc
      exact ⟨by simpa using hc, by simp⟩
    · simp at h
  | cons c b ih =>
    by_cases hc : c = 47
    · subst hc
      rw [compsA_slash, List.append_eq_nil_iff] at h
      have h2 := ih [] h.2
      have h1 : cur = [] := by
        have := h.1
        rw [one] at this
        split at this
        · rename_i hh; simpa using hh
        · simp at this
      exact ⟨h1, fun d hd => by
        rcases List.mem_cons.1 hd with rfl | hd
        · rfl
        · exact h2.2 d hd⟩
    · rw [compsA_other _ _ _ hc] at h
      have := (ih _ h).1
      simp at this
theorem pdir_midL (i : Nat) (a b : Bs) (hb : b ≠ []) : pdir (a ++ midL i ++ b) = pdir b := by
  have hs : Lib.hasSuffix (a ++ midL i ++ b) [47] = Lib.hasSuffix b [47] := by
    rw [suffix_last, suffix_last, List.getLast?_append]
    obtain ⟨w, c, rfl⟩ : ∃ w c, b = w ++ [c] := ⟨_, _, (List.dropLast_concat_getLast hb).symm⟩
    simp
  unfold pdir
  rw [comps_midL, hs]
  rcases List.eq_nil_or_concat (comps b) with hc | ⟨zs, z, hc⟩
  · have hall := (comps_none b [] hc).2
    have : Lib.hasSuffix b [47] = true := by
      rw [suffix_last]
      obtain ⟨w, c, rfl⟩ : ∃ w c, b = w ++ [c] := ⟨_, _, (List.dropLast_concat_getLast hb).symm⟩
      have := hall c (by simp)
      simp [this]
    rw [this]
    simp
  · rw [List.concat_eq_append] at hc
    rw [hc]
    have e1 : (comps a ++ midD i ++ (zs ++ [z])).isEmpty = false := by simp
    have e2 : (zs ++ [z]).isEmpty = false := by simp
    rw [e1, e2]
    unfold lastDots
    rw [← List.append_assoc]
    simp
theorem perr_midL (i : Nat) (a b : Bs) (ha : perr a = 0) (hb : perr b = 0) :
    perr (a ++ midL i ++ b) = if 400 < (a ++ midL i ++ b).length ∨ 40 < (nms a).length + (nms b).length then 36 else 0 := by
  obtain ⟨ha1, _, ha3, ha4, _⟩ := perr_zero.1 ha
  obtain ⟨hb1, _, hb3, hb4, _⟩ := perr_zero.1 hb
  have h0 : (0 : UInt8) ∉ a ++ midL i ++ b := by
    simp only [List.mem_append, not_or]
    exact ⟨⟨ha3, zero_midL i⟩, hb3⟩
  have hne : a ++ midL i ++ b ≠ [] := by
    intro h
    rw [List.append_eq_nil_iff, List.append_eq_nil_iff] at h
    exact ha1 h.1.1
  have h60 : ¬ ∃ x ∈ comps (a ++ midL i ++ b), 60 < x.length := by
    rintro ⟨x, hx, hl⟩
    rw [comps_midL, List.mem_append, List.mem_append] at hx
    rcases hx with (hx | hx) | hx
    · have := ha4 x hx; omega
    · rw [midD_is i x hx] at hl; simp at hl
    · have := hb4 x hx; omega
  have hn : (nms (a ++ midL i ++ b)).length = (nms a).length + (nms b).length := by rw [nms_midL, List.length_append]
  unfold perr
  rw [if_neg hne]
  by_cases h1 : 400 < (a ++ midL i ++ b).length
  · rw [if_pos h1, if_pos (.inl h1)]
  · rw [if_neg h1, if_neg h0, if_neg h60, hn]
    by_cases h2 : 40 < (nms a).length + (nms b).length
    · rw [if_pos h2, if_pos (.inr h2)]
    · rw [if_neg h2, if_neg (by rintro (h | h); exact h1 h; exact h2 h)]
end Go.Proofs.Ytlaceeiodlpmdaa
