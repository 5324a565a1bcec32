/- A table of descriptors as a function of numbers: what the document asks of it. No number of a program's in it. -/
namespace Go.Proofs.Ytfbdhpbnmjacmaa.ds
set_option linter.unusedVariables false

structure De where
  ino : Int
  flag : Int
  off : Int
  isd : Bool
  ns : List (List UInt8)
  pos : Int
def dz : De := ⟨0, 0, 0, false, [], 0⟩
abbrev Tb := Nat → Option De
def em : Tb := fun _ => none
def low (T : Tb) : Option Nat := (List.range 32).find? fun k => (T k).isNone
def put (T : Tb) (k : Nat) (d : Option De) : Tb := fun j => if j = k then d else T j
def spot (T : Tb) (fd : Int) : Option De := if 0 ≤ fd ∧ fd < 32 then T fd.toNat else none
def lowV (T : Tb) : Int × Int := match low T with | none => (0, 24) | some k => (k, 0)
def openT (T : Tb) (d : De) : Tb := match low T with | none => T | some k => put T k (some d)
def getV (T : Tb) (fd : Int) : De × Int := match spot T fd with | none => (dz, 9) | some d => (d, 0)
def errV (T : Tb) (fd : Int) : Int := match spot T fd with | none => 9 | some _ => 0
def setT (T : Tb) (fd : Int) (d : De) : Tb := match spot T fd with | none => T | some _ => put T fd.toNat (some d)
def closeT (T : Tb) (fd : Int) : Tb := match spot T fd with | none => T | some _ => put T fd.toNat none
def cnt (T : Tb) (n : Nat) : Nat := (List.range n).countP fun k => (T k).isSome
def allT (T : Tb) (n : Nat) : List Nat := (List.range n).filter fun k => (T k).isSome
def full (T : Tb) : Bool := (low T).isNone

theorem put_same (T : Tb) (k : Nat) (d : Option De) : put T k d k = d := by unfold put; rw [if_pos rfl]
theorem put_other (T : Tb) {j k : Nat} (d : Option De) (h : j ≠ k) : put T k d j = T j := by unfold put; rw [if_neg h]
theorem low_some {T : Tb} {k : Nat} (h : low T = some k) : k < 32 ∧ T k = none ∧ ∀ j, j < k → T j ≠ none := by
  unfold low at h
  obtain ⟨hp, as, bs, he, ha⟩ := List.find?_eq_some_iff_append.1 h
  have hk : k < 32 := by have : k ∈ List.range 32 := by rw [he]; simp
                         simpa using this
  refine ⟨hk, by simpa using hp, fun j hj hn => ?_⟩
  have hj32 : j ∈ List.range 32 := by simp; omega
  have hl : as.length = k := by
    have h1 : (List.range 32)[as.length]? = some k := by rw [he]; simp
    have h2 := (List.getElem?_eq_some_iff.1 h1)
    obtain ⟨h3, h4⟩ := h2
    simpa using h4
  have hja : j ∈ as := by
    have h1 : (List.range 32)[j]? = some j := by rw [List.getElem?_range (by omega)]
    rw [he, List.getElem?_append_left (by omega)] at h1
    exact List.mem_of_getElem? h1
  have := ha j hja
  rw [hn] at this
  exact absurd this (by simp)
theorem low_none {T : Tb} (h : low T = none) : ∀ j, j < 32 → T j ≠ none := by
  intro j hj hn
  unfold low at h
  rw [List.find?_eq_none] at h
  exact h j (by simp; omega) (by rw [hn]; rfl)
theorem low_of {T : Tb} {k : Nat} (h1 : k < 32) (h2 : T k = none) (h3 : ∀ j, j < k → T j ≠ none) : low T = some k := by
  cases h : low T with
  | none => exact absurd h2 (low_none h k h1)
  | some m =>
    obtain ⟨m1, m2, m3⟩ := low_some h
    rcases Nat.lt_trichotomy m k with h4 | h4 | h4
    · exact absurd m2 (h3 m h4)
    · rw [h4]
    · exact absurd h2 (m3 k h4)
theorem low_no {T : Tb} (h : ∀ j, j < 32 → T j ≠ none) : low T = none := by
  cases h' : low T with
  | none => rfl
  | some m => obtain ⟨m1, m2, _⟩ := low_some h'; exact absurd m2 (h m m1)
theorem cnt_succ (T : Tb) (n : Nat) : cnt T (n + 1) = cnt T n + if (T n).isSome = true then 1 else 0 := by
  unfold cnt
  rw [List.range_succ, List.countP_append, List.countP_cons, List.countP_nil, Nat.zero_add]
theorem cnt_le (T : Tb) (n : Nat) : cnt T n ≤ n := by
  induction n with
  | zero => exact Nat.le_refl _
  | succ n ih => rw [cnt_succ]; split <;> omega
theorem cnt_full {T : Tb} : ∀ {n : Nat}, cnt T n = n → ∀ j, j < n → T j ≠ none
  | 0, _, j, hj => absurd hj (Nat.not_lt_zero _)
  | n + 1, h, j, hj => by
    rw [cnt_succ] at h
    have := cnt_le T n
    split at h
    · rename_i hs
      rcases Nat.lt_succ_iff_lt_or_eq.1 hj with h1 | h1
      · exact cnt_full (n := n) (by omega) j h1
      · subst h1; intro e; rw [e] at hs; cases hs
    · omega
theorem full_cnt {T : Tb} : ∀ {n : Nat}, (∀ j, j < n → T j ≠ none) → cnt T n = n
  | 0, _ => rfl
  | n + 1, h => by
    rw [cnt_succ, full_cnt (n := n) (fun j hj => h j (by omega)), if_pos]
    cases e : T n with
    | none => exact absurd e (h n (by omega))
    | some d => rfl
theorem cnt_put_hi {T : Tb} {k : Nat} {d : Option De} : ∀ {n : Nat}, n ≤ k → cnt (put T k d) n = cnt T n
  | 0, _ => rfl
  | n + 1, h => by rw [cnt_succ, cnt_succ, cnt_put_hi (n := n) (by omega), put_other T d (by omega)]
theorem cnt_put_in {T : Tb} {k : Nat} {d : De} (h0 : T k = none) : ∀ {n : Nat}, k < n → cnt (put T k (some d)) n = cnt T n + 1
  | 0, h => absurd h (Nat.not_lt_zero _)
  | n + 1, h => by
    rw [cnt_succ, cnt_succ]
    rcases Nat.lt_succ_iff_lt_or_eq.1 h with h1 | h1
    · rw [cnt_put_in h0 (n := n) h1, put_other T _ (by omega)]; omega
    · subst h1
      rw [cnt_put_hi (Nat.le_refl _), put_same, h0]; simp
theorem cnt_put_out {T : Tb} {k : Nat} {d : De} (h0 : T k = some d) : ∀ {n : Nat}, k < n → cnt (put T k none) n + 1 = cnt T n
  | 0, h => absurd h (Nat.not_lt_zero _)
  | n + 1, h => by
    rw [cnt_succ, cnt_succ]
    rcases Nat.lt_succ_iff_lt_or_eq.1 h with h1 | h1
    · have := cnt_put_out h0 (n := n) h1
      rw [put_other T _ (by omega)]; omega
    · subst h1
      rw [cnt_put_hi (Nat.le_refl _), put_same, h0]; simp
theorem all_len (T : Tb) (n : Nat) : (allT T n).length = cnt T n := by
  unfold allT cnt
  rw [List.countP_eq_length_filter]
theorem all_mem {T : Tb} {n k : Nat} : k ∈ allT T n ↔ k < n ∧ T k ≠ none := by
  unfold allT
  rw [List.mem_filter, List.mem_range]
  constructor
  · rintro ⟨h1, h2⟩; exact ⟨h1, fun e => by rw [e] at h2; cases h2⟩
  · rintro ⟨h1, h2⟩; refine ⟨h1, ?_⟩
    cases e : T k with
    | none => exact absurd e h2
    | some d => rfl
theorem all_succ_in {T : Tb} {n : Nat} {d : De} (h : T n = some d) : allT T (n + 1) = allT T n ++ [n] := by
  unfold allT
  rw [List.range_succ, List.filter_append]
  simp [h]
theorem all_succ_out {T : Tb} {n : Nat} (h : T n = none) : allT T (n + 1) = allT T n := by
  unfold allT
  rw [List.range_succ, List.filter_append]
  simp [h]
theorem full_iff {T : Tb} : full T = decide (cnt T 32 = 32) := by
  unfold full
  cases h : low T with
  | none => rw [full_cnt (low_none h)]; rfl
  | some k =>
    obtain ⟨h1, h2, _⟩ := low_some h
    rw [decide_eq_false (fun e => cnt_full e k h1 h2)]; rfl
theorem spot_some {T : Tb} {fd : Int} {d : De} (h : spot T fd = some d) : ∃ k : Nat, fd = (k : Int) ∧ k < 32 ∧ T k = some d := by
  unfold spot at h
  split at h
  · rename_i h1
    exact ⟨fd.toNat, by omega, by omega, h⟩
  · cases h
theorem spot_nat {T : Tb} {k : Nat} (h : k < 32) : spot T (k : Int) = T k := by
  unfold spot
  rw [if_pos ⟨by omega, by omega⟩, Int.toNat_natCast]
theorem spot_out {T : Tb} {fd : Int} (h : ¬ (0 ≤ fd ∧ fd < 32)) : spot T fd = none := by
  unfold spot
  rw [if_neg h]
end Go.Proofs.Ytfbdhpbnmjacmaa.ds
