/- Plain mathematics of a binary heap in an array: what 'up', 'down' and 'init' make of it. -/
import Derived.NoCompiler
import Derived.Test.YtlplbpilpkmoaaaPo
namespace Go.Proofs.Ytlplbpilpkmoaaa.hp
set_option linter.unusedVariables false

abbrev It := pl.Wt
instance : Inhabited pl.Wt := ⟨⟨0, 0, false⟩⟩

/-- Of two items: comes the first one first? -/
def ltB (k t k' t' : Int) : Bool := if k = k' then decide (t < t') else decide (k < k')
theorem ltB_eq {k t t' : Int} : ltB k t k t' = decide (t < t') := by simp [ltB]
theorem ltB_ne {k t k' t' : Int} (h : k ≠ k') : ltB k t k' t' = decide (k < k') := by simp [ltB, h]
def lt (x y : It) : Prop := ltB x.d x.n y.d y.n = true
theorem lt_iff {x y : It} : lt x y ↔ x.d < y.d ∨ (x.d = y.d ∧ x.n < y.n) := by
  unfold lt ltB
  by_cases h : x.d = y.d
  · simp [h]
  · simp [h]
theorem lt_asymm {x y : It} (h : lt x y) : ¬ lt y x := by rw [lt_iff] at *; omega
theorem lt_irrefl (x : It) : ¬ lt x x := by rw [lt_iff]; omega
theorem lt_trans {x y z : It} (h : lt x y) (h' : lt y z) : lt x z := by rw [lt_iff] at *; omega
theorem le_trans {x y z : It} (h : ¬ lt y x) (h' : ¬ lt z y) : ¬ lt z x := by rw [lt_iff] at *; omega
instance (x y : It) : Decidable (lt x y) := inferInstanceAs (Decidable (_ = true))

def g (xs : Array It) (k : Nat) : It := xs.getD k default
theorem g_get {xs : Array It} {k : Nat} (h : k < xs.size) : g xs k = xs[k] := by simp [g, h]
def swp (xs : Array It) (i j : Nat) : Array It := (xs.setIfInBounds i (g xs j)).setIfInBounds j (g xs i)
theorem size_swp (xs : Array It) (i j : Nat) : (swp xs i j).size = xs.size := by simp [swp]
theorem g_swp {xs : Array It} {i j : Nat} (hi : i < xs.size) (hj : j < xs.size) (k : Nat) : g (swp xs i j) k = if k = j then g xs i else if k = i then g xs j else g xs k := by
  unfold swp g
  simp only [Array.getD_eq_getD_getElem?, Array.getElem?_setIfInBounds]
  by_cases h1 : k = j
  · subst h1; simp [hj]
  · by_cases h2 : k = i
    · subst h2; simp [Ne.symm h1, h1, hi]
    · simp [h1, h2, Ne.symm h1, Ne.symm h2]
theorem swp_perm {xs : Array It} {i j : Nat} (hi : i < xs.size) (hj : j < xs.size) : (swp xs i j).toList.Perm xs.toList := by
  have h := Array.swap_perm (xs := xs) (i := i) (j := j) hi hj
  have e : swp xs i j = xs.swap i j hi hj := by
    apply Array.ext
    · simp [swp]
    · intro k h1 h2
      have hk : k < xs.size := by simpa [swp] using h1
      have e1 := g_swp hi hj k
      rw [g_get h1] at e1
      rw [e1, Array.getElem_swap]
      simp only [g_get hi, g_get hj, g_get hk]
      by_cases a : k = j
      · by_cases b : k = i
        · subst a; subst b; simp
        · simp [a]; intro h; simp [h]
      · by_cases b : k = i
        · subst b; simp [a]
        · simp [a, b]
  rw [e]
  exact h.toList

def up (xs : Array It) (j : Nat) : Array It :=
  if _h : j = 0 then xs else if lt (g xs j) (g xs ((j - 1) / 2)) then up (swp xs ((j - 1) / 2) j) ((j - 1) / 2) else xs
termination_by j
decreasing_by omega
theorem up_stop {xs : Array It} {j : Nat} (h : j = 0 ∨ ¬ lt (g xs j) (g xs ((j - 1) / 2))) : up xs j = xs := by
  rw [up]
  rcases h with h | h
  · simp [h]
  · simp [h]
theorem up_go {xs : Array It} {j : Nat} (h0 : j ≠ 0) (h : lt (g xs j) (g xs ((j - 1) / 2))) : up xs j = up (swp xs ((j - 1) / 2) j) ((j - 1) / 2) := by
  rw [up]; simp [h0, h]

def child (xs : Array It) (i n : Nat) : Nat := if 2 * i + 2 < n ∧ lt (g xs (2 * i + 2)) (g xs (2 * i + 1)) then 2 * i + 2 else 2 * i + 1
theorem child_le (xs : Array It) (i n : Nat) : 2 * i + 1 ≤ child xs i n ∧ child xs i n ≤ 2 * i + 2 := by unfold child; split <;> omega
theorem child_lt {xs : Array It} {i n : Nat} (h : 2 * i + 1 < n) : child xs i n < n := by unfold child; split <;> omega
def down (xs : Array It) (i n : Nat) : Array It :=
  if h : 2 * i + 1 < n then (if lt (g xs (child xs i n)) (g xs i) then down (swp xs i (child xs i n)) (child xs i n) n else xs) else xs
termination_by n - i
decreasing_by
  have := child_le xs i n
  have := child_lt (xs := xs) h
  omega
theorem down_stop {xs : Array It} {i n : Nat} (h : ¬ 2 * i + 1 < n ∨ ¬ lt (g xs (child xs i n)) (g xs i)) : down xs i n = xs := by
  rw [down]
  rcases h with h | h
  · simp [h]
  · simp [h]
theorem down_go {xs : Array It} {i n : Nat} (h0 : 2 * i + 1 < n) (h : lt (g xs (child xs i n)) (g xs i)) : down xs i n = down (swp xs i (child xs i n)) (child xs i n) n := by
  rw [down]; simp [h0, h]

/-- No item comes ahead of its parent, where the parent stands at i0 or behind. -/
def Ok (xs : Array It) (n i0 : Nat) : Prop := ∀ k, k < n → 0 < k → i0 ≤ (k - 1) / 2 → ¬ lt (g xs k) (g xs ((k - 1) / 2))

theorem up_ok (xs : Array It) (n j : Nat) (hn : n ≤ xs.size) (hj : j < n) (hA : ∀ k, k < n → 0 < k → k ≠ j → ¬ lt (g xs k) (g xs ((k - 1) / 2)))
    (hB : ∀ k, k < n → 0 < k → (k - 1) / 2 = j → 0 < j → ¬ lt (g xs k) (g xs ((j - 1) / 2))) : Ok (up xs j) n 0 ∧ (up xs j).toList.Perm xs.toList ∧ (up xs j).size = xs.size := by
  induction j using Nat.strongRecOn generalizing xs with
  | ind j ih =>
    by_cases h0 : j = 0
    · rw [up_stop (.inl h0)]
      exact ⟨fun k hk hp _ => hA k hk hp (by omega), List.Perm.refl _, rfl⟩
    · by_cases hl : lt (g xs j) (g xs ((j - 1) / 2))
      · rw [up_go h0 hl]
        have hp : (j - 1) / 2 < j := by omega
        have hi : (j - 1) / 2 < xs.size := by omega
        have hj' : j < xs.size := by omega
        have G := g_swp hi hj'
        have hpm := swp_perm hi hj'
        have hsz := size_swp xs ((j - 1) / 2) j
        obtain ⟨r1, r2, r3⟩ := ih ((j - 1) / 2) hp (swp xs ((j - 1) / 2) j) (by rw [hsz]; exact hn) (by omega) (by
          intro k hk hk0 hkp
          rw [G, G]
          by_cases e1 : k = j
          · subst e1
            rw [if_pos rfl, if_neg (by omega), if_pos rfl]
            exact lt_asymm hl
          · rw [if_neg e1, if_neg hkp]
            by_cases e2 : (k - 1) / 2 = j
            · rw [if_pos e2]
              exact hB k hk hk0 e2 (by omega)
            · rw [if_neg e2]
              by_cases e3 : (k - 1) / 2 = (j - 1) / 2
              · rw [if_pos e3]
                intro h
                have := hA k hk hk0 e1
                rw [e3] at this
                exact this (lt_trans h hl)
              · rw [if_neg e3]
                exact hA k hk hk0 e1) (by
          intro k hk hk0 hkp hp0
          rw [G, G]
          have hpp := hA ((j - 1) / 2) (by omega) hp0 (by omega)
          rw [if_neg (show ¬ ((j - 1) / 2 - 1) / 2 = j by omega), if_neg (show ¬ ((j - 1) / 2 - 1) / 2 = (j - 1) / 2 by omega)]
          by_cases e1 : k = j
          · subst e1
            rw [if_pos rfl]
            exact hpp
          · rw [if_neg e1, if_neg (show ¬ k = (j - 1) / 2 by omega)]
            have := hA k hk hk0 e1
            rw [hkp] at this
            exact le_trans hpp this)
        exact ⟨r1, r2.trans hpm, r3.trans hsz⟩
      · rw [up_stop (.inr hl)]
        refine ⟨fun k hk hp _ => ?_, List.Perm.refl _, rfl⟩
        by_cases e : k = j
        · subst e; exact hl
        · exact hA k hk hp e

theorem down_ok (xs : Array It) (n i0 i : Nat) (hn : n ≤ xs.size) (hA : ∀ k, k < n → 0 < k → i0 ≤ (k - 1) / 2 → (k - 1) / 2 ≠ i → ¬ lt (g xs k) (g xs ((k - 1) / 2)))
    (hB : ∀ k, k < n → 0 < k → (k - 1) / 2 = i → 0 < i → i0 ≤ (i - 1) / 2 → ¬ lt (g xs k) (g xs ((i - 1) / 2))) :
    Ok (down xs i n) n i0 ∧ (down xs i n).toList.Perm xs.toList ∧ (down xs i n).size = xs.size ∧ ∀ k, n ≤ k → g (down xs i n) k = g xs k := by
  induction hm : n - i using Nat.strongRecOn generalizing xs i with
  | ind m ih =>
    subst hm
    by_cases h0 : 2 * i + 1 < n
    · have hcl := child_lt (xs := xs) h0
      have hcb := child_le xs i n
      have hmin : ∀ k, k < n → 0 < k → (k - 1) / 2 = i → ¬ lt (g xs k) (g xs (child xs i n)) := by
        intro k hk hk0 hki
        have : k = 2 * i + 1 ∨ k = 2 * i + 2 := by omega
        unfold child
        split
        · rename_i h
          rcases this with rfl | rfl
          · exact lt_asymm h.2
          · exact lt_irrefl _
        · rename_i h
          rcases this with rfl | rfl
          · exact lt_irrefl _
          · intro hh; exact h ⟨hk, hh⟩
      by_cases hl : lt (g xs (child xs i n)) (g xs i)
      · rw [down_go h0 hl]
        have hi : i < xs.size := by omega
        have hc : child xs i n < xs.size := by omega
        generalize hcc : child xs i n = c at *
        have hpc : (c - 1) / 2 = i := by omega
        have G := g_swp hi hc
        have hpm := swp_perm hi hc
        have hsz := size_swp xs i c
        obtain ⟨r1, r2, r3, r4⟩ := ih (n - c) (by omega) (swp xs i c) c (by rw [hsz]; exact hn) (by
          intro k hk hk0 hk1 hk2
          rw [G, G, if_neg hk2]
          by_cases e1 : k = c
          · subst e1
            rw [if_pos rfl, if_pos hpc]
            exact lt_asymm hl
          · rw [if_neg e1]
            by_cases e2 : k = i
            · subst e2
              rw [if_pos rfl, if_neg (show ¬ (k - 1) / 2 = k by omega)]
              exact hB c hcl (by omega) hpc hk0 hk1
            · rw [if_neg e2]
              by_cases e3 : (k - 1) / 2 = i
              · rw [if_pos e3]
                exact hmin k hk hk0 e3
              · rw [if_neg e3]
                exact hA k hk hk0 hk1 e3) (by
          intro k hk hk0 hk1 hc0 hk2
          rw [G, G, hpc, if_neg (show ¬ k = c by omega), if_neg (show ¬ k = i by omega), if_neg (show ¬ i = c by omega), if_pos rfl]
          have := hA k hk hk0 (by omega) (by omega)
          rw [hk1] at this
          exact this) rfl
        refine ⟨r1, r2.trans hpm, r3.trans hsz, fun k hk => ?_⟩
        rw [r4 k hk, G, if_neg (by omega), if_neg (by omega)]
      · rw [down_stop (.inr hl)]
        refine ⟨fun k hk hk0 hk1 => ?_, List.Perm.refl _, rfl, fun _ _ => rfl⟩
        by_cases e : (k - 1) / 2 = i
        · rw [e]
          exact le_trans hl (hmin k hk hk0 e)
        · exact hA k hk hk0 hk1 e
    · rw [down_stop (.inl h0)]
      refine ⟨fun k hk hk0 hk1 => hA k hk hk0 hk1 (by omega), List.Perm.refl _, rfl, fun _ _ => rfl⟩

/-- 'Init': 'down' from place i - 1 to 0. -/
def initN (n : Nat) : Nat → Array It → Array It
  | 0, xs => xs
  | i + 1, xs => initN n i (down xs i n)
theorem initN_ok (n : Nat) (i : Nat) (xs : Array It) (hn : n ≤ xs.size) (h : Ok xs n i) : Ok (initN n i xs) n 0 ∧ (initN n i xs).toList.Perm xs.toList ∧ (initN n i xs).size = xs.size := by
  induction i generalizing xs with
  | zero => exact ⟨h, List.Perm.refl _, rfl⟩
  | succ i ih =>
    obtain ⟨r1, r2, r3, _⟩ := down_ok xs n i i hn (fun k hk h0 h1 h2 => h k hk h0 (by omega)) (fun k hk h0 h1 h2 h3 => by omega)
    obtain ⟨s1, s2, s3⟩ := ih (down xs i n) (by omega) r1
    exact ⟨s1, s2.trans r2, s3.trans r3⟩
theorem ok_half (xs : Array It) (n : Nat) : Ok xs n (n / 2) := fun k hk h0 h1 => by omega

/-- The first item of a heap: none comes ahead of it. -/
theorem ok_min {xs : Array It} {n : Nat} (h : Ok xs n 0) (k : Nat) (hk : k < n) : ¬ lt (g xs k) (g xs 0) := by
  induction k using Nat.strongRecOn with
  | ind k ih =>
    by_cases h0 : k = 0
    · subst h0; exact lt_irrefl _
    · exact le_trans (ih ((k - 1) / 2) (by omega) (by omega)) (h k hk (by omega) (by omega))
end Go.Proofs.Ytlplbpilpkmoaaa.hp
