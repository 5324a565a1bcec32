/- Plain facts on lists of bytes: what the components of a path's text are, and what parsing it comes to. -/
import Derived.Lib.Strings
namespace Go.Proofs.Ytfbdhpbnmjacmaa.pa


abbrev Bs := List UInt8

/-- The components, one of them begun. -/
def compsA : Bs → Bs → List Bs
  | cur, [] => if cur.isEmpty then [] else [cur]
  | cur, c :: r => if c = 47 then (if cur.isEmpty then compsA [] r else cur :: compsA [] r) else compsA (cur ++ [c]) r

def comps (l : Bs) : List Bs := compsA [] l
def one (cur : Bs) : List Bs := if cur.isEmpty then [] else [cur]

theorem compsA_nil (cur : Bs) : compsA cur [] = one cur := by simp [compsA, one]
theorem compsA_slash (cur r : Bs) : compsA cur (47 :: r) = one cur ++ comps r := by
  simp only [compsA, comps, one, if_pos]
  split <;> rfl
theorem compsA_other (cur r : Bs) (c : UInt8) (h : c ≠ 47) : compsA cur (c :: r) = compsA (cur ++ [c]) r := by
  simp [compsA, h]
theorem compsA_run (x cur r : Bs) (h : ∀ c ∈ x, c ≠ 47) : compsA cur (x ++ r) = compsA (cur ++ x) r := by
  induction x generalizing cur with
  | nil => simp
  | cons c x ih =>
    rw [List.cons_append, compsA_other _ _ _ (h c (by simp)), ih _ (fun d hd => h d (by simp [hd]))]
    simp
theorem compsA_mid (a cur b : Bs) : compsA cur (a ++ 47 :: b) = compsA cur a ++ comps b := by
  induction a generalizing cur with
  | nil => rw [List.nil_append, compsA_slash, compsA_nil]
  | cons c a ih =>
    by_cases h : c = 47
    · subst h
      rw [List.cons_append, compsA_slash, compsA_slash, List.append_assoc]
      exact congrArg _ (ih [])
    · rw [List.cons_append, compsA_other _ _ _ h, compsA_other _ _ _ h, ih]
theorem comps_mid (a b : Bs) : comps (a ++ 47 :: b) = comps a ++ comps b := compsA_mid a [] b
theorem comps_nil : comps [] = [] := by simp [comps, compsA]
theorem comps_one (x : Bs) (h : ∀ c ∈ x, c ≠ 47) : comps x = one x := by
  have := compsA_run x [] [] h
  rw [List.append_nil, List.nil_append, compsA_nil] at this
  exact this
theorem one_ne (x : Bs) (h : x ≠ []) : one x = [x] := by cases x <;> simp_all [one]
theorem one_nil : one [] = [] := rfl

/-- What a component is. -/
def IsComp (l x : Bs) : Prop := x ≠ [] ∧ (∀ c ∈ x, c ≠ 47) ∧ ∀ c ∈ x, c ∈ l
theorem compsA_is (l cur m : Bs) (hc : ∀ c ∈ cur, c ≠ 47 ∧ c ∈ m) (hl : ∀ c ∈ l, c ∈ m) : ∀ x ∈ compsA cur l, IsComp m x := by
  induction l generalizing cur with
  | nil =>
    intro x hx
    rw [compsA_nil, one] at hx
    split at hx
    · simp at hx
    · rename_i hne
      simp at hx
      subst hx
      exact ⟨by simpa using hne, fun c h => (hc c h).1, fun c h => (hc c h).2⟩
  | cons c l ih =>
    intro x hx
    by_cases h : c = 47
    · subst h
      rw [compsA_slash, List.mem_append] at hx
      rcases hx with hx | hx
      · rw [one] at hx
        split at hx
        · simp at hx
        · rename_i hne
          simp at hx
          subst hx
          exact ⟨by simpa using hne, fun c h => (hc c h).1, fun c h => (hc c h).2⟩
      · exact ih [] (by simp) (fun d hd => hl d (by simp [hd])) x hx
    · rw [compsA_other _ _ _ h] at hx
      refine ih (cur ++ [c]) ?_ (fun d hd => hl d (by simp [hd])) x hx
      intro d hd
      rw [List.mem_append, List.mem_singleton] at hd
      rcases hd with hd | rfl
      · exact hc d hd
      · exact ⟨h, hl d (by simp)⟩
theorem comps_is (l : Bs) : ∀ x ∈ comps l, IsComp l x := compsA_is l [] l (by simp) (fun _ h => h)

/-- How much the components take: their bytes, and one slash between two. -/
theorem compsA_len (l cur : Bs) : (compsA cur l).length + ((compsA cur l).map List.length).sum ≤ cur.length + l.length + 1 := by
  induction l generalizing cur with
  | nil => rw [compsA_nil, one]; split <;> simp; omega
  | cons c l ih =>
    by_cases h : c = 47
    · subst h
      rw [compsA_slash]
      have := ih []
      simp only [List.length_nil, Nat.zero_add] at this
      have e : (compsA [] l) = comps l := rfl
      rw [e] at this
      rw [one]
      split
      · simp; omega
      · simp; omega
    · rw [compsA_other _ _ _ h]
      have := ih (cur ++ [c])
      simp at this ⊢
      omega
theorem compsA_count (l cur : Bs) : (compsA cur l).length ≤ cur.length + l.length := by
  induction l generalizing cur with
  | nil =>
    rw [compsA_nil]
    cases cur <;> simp [one]
  | cons c l ih =>
    by_cases h : c = 47
    · subst h
      rw [compsA_slash]
      have := ih []
      have e : (compsA [] l) = comps l := rfl
      rw [e] at this
      cases cur <;> simp [one] at this ⊢ <;> omega
    · rw [compsA_other _ _ _ h]
      have := ih (cur ++ [c])
      simp at this ⊢
      omega
theorem comps_count (l : Bs) : (comps l).length ≤ l.length := by have := compsA_count l []; rw [List.length_nil, Nat.zero_add] at this; exact this

def isDot (x : Bs) : Bool := x == [46]
def nms (l : Bs) : List Bs := (comps l).filter fun x => !(x == [46])
def lastDots (xs : List Bs) : Bool := match xs.getLast? with | some x => x == [46] || x == [46, 46] | none => false
def pdir (l : Bs) : Bool := (comps l).isEmpty || Lib.hasSuffix l [47] || lastDots (comps l)
def perr (l : Bs) : Int :=
  if l = [] then 2 else if 400 < l.length then 36 else if (0 : UInt8) ∈ l then 22
  else if ∃ x ∈ comps l, 60 < x.length then 36 else if 40 < (nms l).length then 36 else 0
def pnames (l : Bs) : List Bs := if perr l = 0 then nms l else []
def pdirE (l : Bs) : Bool := if perr l = 0 then pdir l else false

theorem perr_zero {l : Bs} : perr l = 0 ↔ l ≠ [] ∧ l.length ≤ 400 ∧ (0 : UInt8) ∉ l ∧ (∀ x ∈ comps l, x.length ≤ 60) ∧ (nms l).length ≤ 40 := by
  unfold perr
  by_cases h1 : l = []
  · simp [h1]
  · by_cases h2 : 400 < l.length
    · simp [h1, h2]
      omega
    · by_cases h3 : (0 : UInt8) ∈ l
      · simp [h1, h2, h3]
      · by_cases h4 : ∃ x ∈ comps l, 60 < x.length
        · obtain ⟨x, hx, hl⟩ := h4
          have h4' : ∃ x ∈ comps l, 60 < x.length := ⟨x, hx, hl⟩
          rw [if_neg h1, if_neg h2, if_neg h3, if_pos h4']
          refine ⟨by simp, fun ⟨_, _, _, h, _⟩ => ?_⟩
          have := h x hx
          omega
        · have h4' : ∀ x ∈ comps l, x.length ≤ 60 := fun x hx => by
            rcases Nat.lt_or_ge 60 x.length with h | h
            · exact absurd ⟨x, hx, h⟩ h4
            · exact h
          by_cases h5 : 40 < (nms l).length
          · rw [if_neg h1, if_neg h2, if_neg h3, if_neg h4, if_pos h5]
            exact ⟨by simp, fun ⟨_, _, _, _, h⟩ => by omega⟩
          · rw [if_neg h1, if_neg h2, if_neg h3, if_neg h4, if_neg h5]
            exact ⟨fun _ => ⟨h1, by omega, h3, h4', by omega⟩, fun _ => rfl⟩
theorem pnames_le (l : Bs) : (pnames l).length ≤ 40 := by
  unfold pnames
  split
  · rename_i h; exact (perr_zero.1 h).2.2.2.2
  · simp
theorem pnames_ok {l : Bs} (h : perr l = 0) : pnames l = nms l := by simp [pnames, h]
theorem pdirE_ok {l : Bs} (h : perr l = 0) : pdirE l = pdir l := by simp [pdirE, h]
theorem pnames_no {l : Bs} (h : perr l ≠ 0) : pnames l = [] := by simp [pnames, h]
theorem pdirE_no {l : Bs} (h : perr l ≠ 0) : pdirE l = false := by simp [pdirE, h]

/-- The loop over the components, so far. -/
def gath (xs : List Bs) : List Bs := xs.filter fun x => !(x == [46])
theorem gath_snoc (xs : List Bs) (x : Bs) : gath (xs ++ [x]) = gath xs ++ if x = [46] then [] else [x] := by
  unfold gath
  rw [List.filter_append]
  by_cases h : x = [46] <;> simp [h]
theorem gath_le (xs : List Bs) : (gath xs).length ≤ xs.length := List.length_filter_le _ _
theorem gath_comps (l : Bs) : gath (comps l) = nms l := rfl
end Go.Proofs.Ytfbdhpbnmjacmaa.pa
