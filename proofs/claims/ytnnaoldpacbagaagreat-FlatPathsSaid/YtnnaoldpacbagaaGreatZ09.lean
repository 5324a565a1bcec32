/- Plain mathematics of a binary heap in an array: what 'up', 'down' and 'init' make of it. A queue as a list in order: what each call makes of the list. Words for memory: items in a row of the call's own; worlds that turn nothing below. 'Less', 'Swap', 'Len' of items. How a method of the interface value is reached. The row of a queue's items: how it is stored into; 'Swap'. container/heap's 'up', over the interface value of a queue's items. container/heap's 'down', over the interface value of a queue's items. -/
import Derived.NoCompiler
import Derived.Test.YtnnaoldpacbagaaGreatRows
import Derived.WalkKit
import Derived.WalkSpells
import Derived.WalkLawsBesides
import Derived.Lib.Hide
import Derived.Deep.LoopGhost
import Derived.Deep.DeepMust
import Derived.Deep.DeepFit
import Derived.Deep.QuietTactic
import Derived.BigQuiet
import Derived.Below
import Derived.Deep.DeepCutAuto
import Derived.RegionTactic
import Derived.BigRegion
import Derived.Deep.OwnRows
import Derived.Laws.AppendOwn
import Derived.Shelf.Abstract
section
namespace Go.Proofs.YtnnaoldpacbagaaGreat.qu
set_option linter.unusedVariables false


/-- An item: its key, its turn, its number. -/
structure It where
  key : Int
  turn : Int
  num : Int
instance : Inhabited It := ⟨⟨0, 0, 0⟩⟩

/-- Of two items: comes the first one first? -/
def ltB (k t k' t' : Int) : Bool := if k = k' then decide (t < t') else decide (k < k')
theorem ltB_eq {k t t' : Int} : ltB k t k t' = decide (t < t') := by simp [ltB]
theorem ltB_ne {k t k' t' : Int} (h : k ≠ k') : ltB k t k' t' = decide (k < k') := by simp [ltB, h]
def lt (x y : It) : Prop := ltB x.key x.turn y.key y.turn = true
theorem lt_iff {x y : It} : lt x y ↔ x.key < y.key ∨ (x.key = y.key ∧ x.turn < y.turn) := by
  unfold lt ltB
  by_cases h : x.key = y.key
  · simp [h]
  · simp [h]
theorem lt_asymm {x y : It} (h : lt x y) : ¬ lt y x := by rw [lt_iff] at *; omega
theorem lt_irrefl (x : It) : ¬ lt x x := by rw [lt_iff]; omega
theorem lt_trans {x y z : It} (h : lt x y) (h' : lt y z) : lt x z := by rw [lt_iff] at *; omega
theorem le_trans {x y z : It} (h : ¬ lt y x) (h' : ¬ lt z y) : ¬ lt z x := by rw [lt_iff] at *; omega
instance (x y : It) : Decidable (lt x y) := inferInstanceAs (Decidable (_ = true))

def g (xs : Array It) (k : Nat) : It := xs.getD k default
theorem g_get {xs : Array It} {k : Nat} (h : k < xs.size) : g xs k = xs[k] := by simp [g, h]
def swp (xs : Array It) (i j : Nat) : Array It := (xs.setIfInBounds i (g xs j)).setIfInBounds j (g xs i)
theorem size_swp (xs : Array It) (i j : Nat) : (swp xs i j).size = xs.size := by simp [swp]
theorem g_swp {xs : Array It} {i j : Nat} (hi : i < xs.size) (hj : j < xs.size) (k : Nat) : g (swp xs i j) k = if k = j then g xs i else if k = i then g xs j else g xs k := by
  unfold swp g
  simp only [Array.getD_eq_getD_getElem?, Array.getElem?_setIfInBounds]
  by_cases h1 : k = j
  · subst h1; simp [hj]
  · by_cases h2 : k = i
    · subst h2; simp [Ne.symm h1, h1, hi]
    · simp [h1, h2, Ne.symm h1, Ne.symm h2]
theorem swp_perm {xs : Array It} {i j : Nat} (hi : i < xs.size) (hj : j < xs.size) : (swp xs i j).toList.Perm xs.toList := by
  have h := Array.swap_perm (xs := xs) (i := i) (j := j) hi hj
  have e : swp xs i j = xs.swap i j hi hj := by
    apply Array.ext
    · simp [swp]
    · intro k h1 h2
      have hk : k < xs.size := by simpa [swp] using h1
      have e1 := g_swp hi hj k
      rw [g_get h1] at e1
      rw [e1, Array.getElem_swap]
      simp only [g_get hi, g_get hj, g_get hk]
      by_cases a : k = j
      · by_cases b : k = i
        · subst a; subst b; simp
        · simp [a]; intro h; simp [h]
      · by_cases b : k = i
        · subst b; simp [a]
        · simp [a, b]
  rw [e]
  exact h.toList

def up (xs : Array It) (j : Nat) : Array It :=
  if _h : j = 0 then xs else if lt (g xs j) (g xs ((j - 1) / 2)) then up (swp xs ((j - 1) / 2) j) ((j - 1) / 2) else xs
termination_by j
decreasing_by omega
theorem up_stop {xs : Array It} {j : Nat} (h : j = 0 ∨ ¬ lt (g xs j) (g xs ((j - 1) / 2))) : up xs j = xs := by
  rw [up]
  rcases h with h | h
  · simp [h]
  · simp [h]
theorem up_go {xs : Array It} {j : Nat} (h0 : j ≠ 0) (h : lt (g xs j) (g xs ((j - 1) / 2))) : up xs j = up (swp xs ((j - 1) / 2) j) ((j - 1) / 2) := by
  rw [up]; simp [h0, h]

def child (xs : Array It) (i n : Nat) : Nat := if 2 * i + 2 < n ∧ lt (g xs (2 * i + 2)) (g xs (2 * i + 1)) then 2 * i + 2 else 2 * i + 1
theorem child_le (xs : Array It) (i n : Nat) : 2 * i + 1 ≤ child xs i n ∧ child xs i n ≤ 2 * i + 2 := by unfold child; split <;> omega
theorem child_lt {xs : Array It} {i n : Nat} (h : 2 * i + 1 < n) : child xs i n < n := by unfold child; split <;> omega
def down (xs : Array It) (i n : Nat) : Array It :=
  if h : 2 * i + 1 < n then (if lt (g xs (child xs i n)) (g xs i) then down (swp xs i (child xs i n)) (child xs i n) n else xs) else xs
termination_by n - i
decreasing_by
  have := child_le xs i n
  have := child_lt (xs := xs) h
  omega
theorem down_stop {xs : Array It} {i n : Nat} (h : ¬ 2 * i + 1 < n ∨ ¬ lt (g xs (child xs i n)) (g xs i)) : down xs i n = xs := by
  rw [down]
  rcases h with h | h
  · simp [h]
  · simp [h]
theorem down_go {xs : Array It} {i n : Nat} (h0 : 2 * i + 1 < n) (h : lt (g xs (child xs i n)) (g xs i)) : down xs i n = down (swp xs i (child xs i n)) (child xs i n) n := by
  rw [down]; simp [h0, h]

/-- No item comes ahead of its parent, where the parent stands at i0 or behind. -/
def Ok (xs : Array It) (n i0 : Nat) : Prop := ∀ k, k < n → 0 < k → i0 ≤ (k - 1) / 2 → ¬ lt (g xs k) (g xs ((k - 1) / 2))

theorem up_ok (xs : Array It) (n j : Nat) (hn : n ≤ xs.size) (hj : j < n) (hA : ∀ k, k < n → 0 < k → k ≠ j → ¬ lt (g xs k) (g xs ((k - 1) / 2)))
    (hB : ∀ k, k < n → 0 < k → (k - 1) / 2 = j → 0 < j → ¬ lt (g xs k) (g xs ((j - 1) / 2))) : Ok (up xs j) n 0 ∧ (up xs j).toList.Perm xs.toList ∧ (up xs j).size = xs.size := by
  induction j using Nat.strongRecOn generalizing xs with
  | ind j ih =>
    by_cases h0 : j = 0
    · rw [up_stop (.inl h0)]
      exact ⟨fun k hk hp _ => hA k hk hp (by omega), List.Perm.refl _, rfl⟩
    · by_cases hl : lt (g xs j) (g xs ((j - 1) / 2))
      · rw [up_go h0 hl]
        have hp : (j - 1) / 2 < j := by omega
        have hi : (j - 1) / 2 < xs.size := by omega
        have hj' : j < xs.size := by omega
        have G := g_swp hi hj'
        have hpm := swp_perm hi hj'
        have hsz := size_swp xs ((j - 1) / 2) j
        obtain ⟨r1, r2, r3⟩ := ih ((j - 1) / 2) hp (swp xs ((j - 1) / 2) j) (by rw [hsz]; exact hn) (by omega) (by
          intro k hk hk0 hkp
          rw [G, G]
          by_cases e1 : k = j
          · subst e1
            rw [if_pos rfl, if_neg (by omega), if_pos rfl]
            exact lt_asymm hl
          · rw [if_neg e1, if_neg hkp]
            by_cases e2 : (k - 1) / 2 = j
            · rw [if_pos e2]
              exact hB k hk hk0 e2 (by omega)
            · rw [if_neg e2]
              by_cases e3 : (k - 1) / 2 = (j - 1) / 2
              · rw [if_pos e3]
                intro h
                have := hA k hk hk0 e1
                rw [e3] at this
                exact this (lt_trans h hl)
              · rw [if_neg e3]
                exact hA k hk hk0 e1) (by
          intro k hk hk0 hkp hp0
          rw [G, G]
          have hpp := hA ((j - 1) / 2) (by omega) hp0 (by omega)
          rw [if_neg (show ¬ ((j - 1) / 2 - 1) / 2 = j by omega), if_neg (show ¬ ((j - 1) / 2 - 1) / 2 = (j - 1) / 2 by omega)]
          by_cases e1 : k = j
          · subst e1
            rw [if_pos rfl]
            exact hpp
          · rw [if_neg e1, if_neg (show ¬ k = (j - 1) / 2 by omega)]
            have := hA k hk hk0 e1
            rw [hkp] at this
            exact le_trans hpp this)
        exact ⟨r1, r2.trans hpm, r3.trans hsz⟩
      · rw [up_stop (.inr hl)]
        refine ⟨fun k hk hp _ => ?_, List.Perm.refl _, rfl⟩
        by_cases e : k = j
        · subst e; exact hl
        · exact hA k hk hp e

theorem down_ok (xs : Array It) (n i0 i : Nat) (hn : n ≤ xs.size) (hA : ∀ k, k < n → 0 < k → i0 ≤ (k - 1) / 2 → (k - 1) / 2 ≠ i → ¬ lt (g xs k) (g xs ((k - 1) / 2)))
    (hB : ∀ k, k < n → 0 < k → (k - 1) / 2 = i → 0 < i → i0 ≤ (i - 1) / 2 → ¬ lt (g xs k) (g xs ((i - 1) / 2))) :
    Ok (down xs i n) n i0 ∧ (down xs i n).toList.Perm xs.toList ∧ (down xs i n).size = xs.size ∧ ∀ k, n ≤ k → g (down xs i n) k = g xs k := by
  induction hm : n - i using Nat.strongRecOn generalizing xs i with
  | ind m ih =>
    subst hm
    by_cases h0 : 2 * i + 1 < n
    · have hcl := child_lt (xs := xs) h0
      have hcb := child_le xs i n
      have hmin : ∀ k, k < n → 0 < k → (k - 1) / 2 = i → ¬ lt (g xs k) (g xs (child xs i n)) := by
        intro k hk hk0 hki
        have : k = 2 * i + 1 ∨ k = 2 * i + 2 := by omega
        unfold child
        split
        · rename_i h
          rcases this with rfl | rfl
          · exact lt_asymm h.2
          · exact lt_irrefl _
        · rename_i h
          rcases this with rfl | rfl
          · exact lt_irrefl _
          · intro hh; exact h ⟨hk, hh⟩
      by_cases hl : lt (g xs (child xs i n)) (g xs i)
      · rw [down_go h0 hl]
        have hi : i < xs.size := by omega
        have hc : child xs i n < xs.size := by omega
        generalize hcc : child xs i n = c at *
        have hpc : (c - 1) / 2 = i := by omega
        have G := g_swp hi hc
        have hpm := swp_perm hi hc
        have hsz := size_swp xs i c
        obtain ⟨r1, r2, r3, r4⟩ := ih (n - c) (by omega) (swp xs i c) c (by rw [hsz]; exact hn) (by
          intro k hk hk0 hk1 hk2
          rw [G, G, if_neg hk2]
          by_cases e1 : k = c
          · subst e1
            rw [if_pos rfl, if_pos hpc]
            exact lt_asymm hl
          · rw [if_neg e1]
            by_cases e2 : k = i
            · subst e2
              rw [if_pos rfl, if_neg (show ¬ (k - 1) / 2 = k by omega)]
              exact hB c hcl (by omega) hpc hk0 hk1
            · rw [if_neg e2]
              by_cases e3 : (k - 1) / 2 = i
              · rw [if_pos e3]
                exact hmin k hk hk0 e3
              · rw [if_neg e3]
                exact hA k hk hk0 hk1 e3) (by
          intro k hk hk0 hk1 hc0 hk2
          rw [G, G, hpc, if_neg (show ¬ k = c by omega), if_neg (show ¬ k = i by omega), if_neg (show ¬ i = c by omega), if_pos rfl]
          have := hA k hk hk0 (by omega) (by omega)
          rw [hk1] at this
          exact this) rfl
        refine ⟨r1, r2.trans hpm, r3.trans hsz, fun k hk => ?_⟩
        rw [r4 k hk, G, if_neg (by omega), if_neg (by omega)]
      · rw [down_stop (.inr hl)]
        refine ⟨fun k hk hk0 hk1 => ?_, List.Perm.refl _, rfl, fun _ _ => rfl⟩
        by_cases e : (k - 1) / 2 = i
        · rw [e]
          exact le_trans hl (hmin k hk hk0 e)
        · exact hA k hk hk0 hk1 e
    · rw [down_stop (.inl h0)]
      refine ⟨fun k hk hk0 hk1 => hA k hk hk0 hk1 (by omega), List.Perm.refl _, rfl, fun _ _ => rfl⟩

/-- 'Init': 'down' from place i - 1 to 0. -/
def initN (n : Nat) : Nat → Array It → Array It
  | 0, xs => xs
  | i + 1, xs => initN n i (down xs i n)
theorem initN_ok (n : Nat) (i : Nat) (xs : Array It) (hn : n ≤ xs.size) (h : Ok xs n i) : Ok (initN n i xs) n 0 ∧ (initN n i xs).toList.Perm xs.toList ∧ (initN n i xs).size = xs.size := by
  induction i generalizing xs with
  | zero => exact ⟨h, List.Perm.refl _, rfl⟩
  | succ i ih =>
    obtain ⟨r1, r2, r3, _⟩ := down_ok xs n i i hn (fun k hk h0 h1 h2 => h k hk h0 (by omega)) (fun k hk h0 h1 h2 h3 => by omega)
    obtain ⟨s1, s2, s3⟩ := ih (down xs i n) (by omega) r1
    exact ⟨s1, s2.trans r2, s3.trans r3⟩
theorem ok_half (xs : Array It) (n : Nat) : Ok xs n (n / 2) := fun k hk h0 h1 => by omega

/-- The first item of a heap: none comes ahead of it. -/
theorem ok_min {xs : Array It} {n : Nat} (h : Ok xs n 0) (k : Nat) (hk : k < n) : ¬ lt (g xs k) (g xs 0) := by
  induction k using Nat.strongRecOn with
  | ind k ih =>
    by_cases h0 : k = 0
    · subst h0; exact lt_irrefl _
    · exact le_trans (ih ((k - 1) / 2) (by omega) (by omega)) (h k hk (by omega) (by omega))
end Go.Proofs.YtnnaoldpacbagaaGreat.qu
end
section
namespace Go.Proofs.YtnnaoldpacbagaaGreat.qu
set_option linter.unusedVariables false


abbrev KN := Int × Int
def kn (x : It) : KN := (x.key, x.num)
/-- An item goes in behind all whose key isn't above. -/
def ins (x : KN) : List KN → List KN
  | [] => [x]
  | y :: l => if x.1 < y.1 then x :: y :: l else y :: ins x l
def insS (x : It) : List It → List It
  | [] => [x]
  | y :: l => if x.key < y.key then x :: y :: l else y :: insS x l
theorem insS_kn (x : It) (l : List It) : (insS x l).map kn = ins (kn x) (l.map kn) := by
  induction l with
  | nil => rfl
  | cons y l ih =>
    by_cases h : x.key < y.key
    · have h' : (kn x).1 < (kn y).1 := h
      simp only [insS, if_pos h, List.map_cons, ins, if_pos h']
    · have h' : ¬ (kn x).1 < (kn y).1 := h
      simp only [insS, if_neg h, List.map_cons, ins, if_neg h', ih]
theorem insS_perm (x : It) (l : List It) : (insS x l).Perm (x :: l) := by
  induction l with
  | nil => exact List.Perm.refl _
  | cons y l ih =>
    unfold insS
    split
    · exact List.Perm.refl _
    · exact (ih.cons y).trans (List.Perm.swap x y l)
theorem insS_sorted (x : It) (l : List It) (h : l.Pairwise lt) (hx : ∀ y ∈ l, y.turn < x.turn) : (insS x l).Pairwise lt := by
  induction l with
  | nil => simp [insS]
  | cons y l ih =>
    rw [List.pairwise_cons] at h
    unfold insS
    split
    · rename_i hk
      rw [List.pairwise_cons]
      refine ⟨fun z hz => ?_, List.pairwise_cons.2 h⟩
      have hxy : lt x y := by rw [lt_iff]; exact .inl hk
      rcases List.mem_cons.1 hz with rfl | hz
      · exact hxy
      · exact lt_trans hxy (h.1 z hz)
    · rename_i hk
      rw [List.pairwise_cons]
      refine ⟨fun z hz => ?_, ih h.2 (fun y' hy' => hx y' (by simp [hy']))⟩
      rcases List.mem_cons.1 ((insS_perm x l).mem_iff.1 hz) with rfl | hz
      · have := hx y (by simp)
        rw [lt_iff]; omega
      · exact h.1 z hz

/-- The array is a heap, of items with turns below T; in order they are L. -/
def Rep (xs : Array It) (T : Int) (L : List KN) : Prop :=
  Ok xs xs.size 0 ∧ ∃ S : List It, S.Perm xs.toList ∧ S.Pairwise lt ∧ (∀ x ∈ S, 0 ≤ x.turn ∧ x.turn < T) ∧ L = S.map kn

theorem Rep.size {xs : Array It} {T : Int} {L : List KN} (h : Rep xs T L) : xs.size = L.length := by
  obtain ⟨_, S, hp, _, _, rfl⟩ := h
  rw [List.length_map, hp.length_eq, Array.length_toList]
theorem Rep.nil (T : Int) : Rep #[] T [] := ⟨fun k hk => by simp at hk, [], List.Perm.refl _, List.Pairwise.nil, by simp, rfl⟩

theorem ok_pop_less {xs ys : Array It} {n : Nat} (h : Ok xs n 0) (e : ∀ k, k < n → g ys k = g xs k) : Ok ys n 0 := fun k hk h0 h1 => by
  rw [e k hk, e _ (by omega)]; exact h k hk h0 h1

theorem Rep.push {xs : Array It} {T : Int} {L : List KN} (h : Rep xs T L) (hT : 0 ≤ T) (k n : Int) : Rep (up (xs.push ⟨k, T, n⟩) xs.size) (T + 1) (ins (k, n) L) ∧ (up (xs.push ⟨k, T, n⟩) xs.size).size = xs.size + 1 := by
  obtain ⟨hok, S, hp, hs, ht, rfl⟩ := h
  have hg : ∀ i, i < xs.size → g (xs.push ⟨k, T, n⟩) i = g xs i := fun i hi => by
    rw [g_get hi, g_get (by simp; omega), Array.getElem_push_lt hi]
  obtain ⟨r1, r2, r3⟩ := up_ok (xs.push ⟨k, T, n⟩) (xs.size + 1) xs.size (by simp) (by omega)
    (fun i hi h0 hne => by rw [hg i (by omega), hg _ (by omega)]; exact hok i (by omega) h0 (by omega)) (fun i hi h0 h1 h2 => by omega)
  have hsz : (up (xs.push ⟨k, T, n⟩) xs.size).size = xs.size + 1 := by rw [r3]; simp
  refine ⟨⟨by rw [hsz]; exact r1, insS ⟨k, T, n⟩ S, ?_, insS_sorted _ _ hs (fun y hy => (ht y hy).2), ?_, (insS_kn ⟨k, T, n⟩ S).symm⟩, hsz⟩
  · refine (insS_perm _ _).trans (.trans ?_ r2.symm)
    rw [Array.toList_push]
    exact (hp.cons _).trans (List.perm_append_comm (l₁ := [_]))
  · intro x hx
    rcases List.mem_cons.1 ((insS_perm _ _).mem_iff.1 hx) with rfl | hx
    · exact ⟨hT, by show T < T + 1; omega⟩
    · have := ht x hx; omega

/-- The first item of the heap is the first in order. -/
theorem Rep.head {xs : Array It} {T : Int} {L : List KN} (h : Rep xs T L) (hn : 0 < xs.size) : ∃ S, (g xs 0 :: S).Perm xs.toList ∧ (g xs 0 :: S).Pairwise lt ∧ (∀ x ∈ g xs 0 :: S, 0 ≤ x.turn ∧ x.turn < T) ∧ L = kn (g xs 0) :: S.map kn := by
  obtain ⟨hok, S, hp, hs, ht, rfl⟩ := h
  cases S with
  | nil => have := hp.length_eq; simp at this; omega
  | cons s S =>
    have h0 : g xs 0 ∈ s :: S := hp.mem_iff.2 (by rw [g_get hn]; simp)
    have hs0 : s ∈ xs.toList := hp.mem_iff.1 (by simp)
    obtain ⟨k, hk, e⟩ := List.getElem_of_mem hs0
    have hk' : k < xs.size := by simpa using hk
    have hm := ok_min hok k hk'
    rw [g_get hk', show xs[k] = s by simpa using e] at hm
    have he : g xs 0 = s := by
      rcases List.mem_cons.1 h0 with h | h
      · exact h
      · exact absurd ((List.pairwise_cons.1 hs).1 _ h) hm
    rw [he]
    exact ⟨S, hp, hs, ht, rfl⟩

theorem Rep.pop {xs : Array It} {T : Int} {L : List KN} (h : Rep xs T L) (hn : 0 < xs.size) :
    Rep (down (swp xs 0 (xs.size - 1)) 0 (xs.size - 1)).pop T L.tail ∧ g (down (swp xs 0 (xs.size - 1)) 0 (xs.size - 1)) (xs.size - 1) = g xs 0 ∧ (down (swp xs 0 (xs.size - 1)) 0 (xs.size - 1)).size = xs.size ∧ L.head? = some (kn (g xs 0)) := by
  obtain ⟨S, hp, hs, ht, rfl⟩ := h.head hn
  have hok := h.1
  have hl : xs.size - 1 < xs.size := by omega
  have G := g_swp hn hl
  have hsz := size_swp xs 0 (xs.size - 1)
  have hpm := swp_perm hn hl
  obtain ⟨r1, r2, r3, r4⟩ := down_ok (swp xs 0 (xs.size - 1)) (xs.size - 1) 0 0 (by rw [hsz]; omega) (fun k hk h0 h1 h2 => by
    rw [G, G, if_neg (by omega), if_neg (by omega), if_neg (by omega), if_neg h2]
    exact hok k (by omega) h0 h1) (fun k hk h0 h1 h2 => by omega)
  have r5 := r4 (xs.size - 1) (Nat.le_refl _)
  rw [G, if_pos rfl] at r5
  rw [hsz] at r3
  generalize hd : down (swp xs 0 (xs.size - 1)) 0 (xs.size - 1) = zs at *
  have hg : ∀ k, k < xs.size - 1 → g zs.pop k = g zs k := fun k hk => by
    rw [g_get (by simp; omega), g_get (by omega)]; simp
  refine ⟨⟨?_, S, ?_, (List.pairwise_cons.1 hs).2, fun x hx => ht x (by simp [hx]), rfl⟩, r5, r3, rfl⟩
  · rw [show zs.pop.size = xs.size - 1 by simp [r3]]
    exact ok_pop_less r1 hg
  · have e : zs.toList = zs.pop.toList ++ [g xs 0] := by
      rw [← r5, g_get (by omega)]
      apply List.ext_getElem
      · simp; omega
      · intro k h1 h2
        rw [List.getElem_append]
        split
        · simp
        · rename_i hk
          simp at h1 hk
          have : k = xs.size - 1 := by omega
          subst this
          simp
    have : (g xs 0 :: S).Perm (g xs 0 :: zs.pop.toList) := by
      refine hp.trans ((r2.trans hpm).symm.trans ?_)
      rw [e]
      exact List.perm_append_comm
    exact this.cons_inv

theorem Rep.drop {xs ys : Array It} {T : Int} {L : List KN} (h : Rep xs T L) (m : Int) (hy : ys.toList = xs.toList.filter (fun x => !(x.num == m))) :
    Rep (initN ys.size (ys.size / 2) ys) T (L.filter (fun x => !(x.2 == m))) ∧ (initN ys.size (ys.size / 2) ys).size = ys.size := by
  obtain ⟨hok, S, hp, hs, ht, rfl⟩ := h
  obtain ⟨r1, r2, r3⟩ := initN_ok ys.size (ys.size / 2) ys (Nat.le_refl _) (ok_half _ _)
  refine ⟨⟨by rw [r3]; exact r1, S.filter (fun x => !(x.num == m)), ?_, hs.filter _, fun x hx => ht x (List.mem_filter.1 hx).1, ?_⟩, r3⟩
  · refine (hp.filter _).trans ?_
    rw [← hy]
    exact r2.symm
  · rw [List.filter_map]; rfl
theorem Rep.has {xs : Array It} {T : Int} {L : List KN} (h : Rep xs T L) (m : Int) : xs.toList.any (fun x => x.num == m) = L.any (fun x => x.2 == m) := by
  obtain ⟨hok, S, hp, hs, ht, rfl⟩ := h
  rw [Bool.eq_iff_iff]
  simp only [List.any_eq_true, List.any_map, Function.comp]
  constructor
  · rintro ⟨x, hx, e⟩; exact ⟨x, hp.mem_iff.2 hx, e⟩
  · rintro ⟨x, hx, e⟩; exact ⟨x, hp.mem_iff.1 hx, e⟩
end Go.Proofs.YtnnaoldpacbagaaGreat.qu
end
section
namespace Go.Proofs.YtnnaoldpacbagaaGreat.qu
open Go.RowKit
set_option linter.unusedVariables false


abbrev Iv (k t m : Int) : Value := .agg #[.int .i64 k, .int .u64 t, .int .i64 m]
theorem below_alloc (w : World) (o : Obj) : Below w.heap.size w (w.alloc o) := (Below.refl _ _).alloc (Nat.le_refl _) _
theorem below_step {w0 w w' : World} (h : Below w0.heap.size w0 w) (hb : Below w.heap.size w w') : Below w0.heap.size w0 w' := h.trans (hb.mono h.size)

/-- A world that came of w and has turned nothing that lay in it: one name for both. -/
structure BelowOf (w : World) where
  W : World
  h : Below w.heap.size w W
instance (w : World) : Inhabited (BelowOf w) := ⟨⟨w, Below.refl _ _⟩⟩
set_option maxRecDepth 100000 in
theorem wp_region_below {id : Nat} {Q : Exit → Act → World → Prop} {a : Act} {w : World} {l : List Oper} (hm : Tryz.prog.follows .mixedOrders = true) (hB : Region.lexB .any l.toArray = true)
    (h : wpQuiet Tryz.prog l.toArray (fun w' => ∃ p : BelowOf w, w' = p.W) (fun a' => ∀ w', (∃ p : BelowOf w, w' = p.W) → Q .normal a' w') l a) : (Code.region id l.toArray true).wp Tryz.prog Q a w :=
  wp_region_quiet (C := fun w' => ∃ p : BelowOf w, w' = p.W) hm hB ⟨⟨w.drew, (Below.refl _ _).drew⟩, rfl⟩ (by simpa using h)
set_option maxRecDepth 100000 in
theorem calls_below {f : FuncId} {args : Array Value} {w : World} (p : BelowOf w) {v : Value}
    (h : Calls Tryz.prog f args p.W fun e w' => e = .returned v ∧ Below p.W.heap.size p.W w') : Calls Tryz.prog f args p.W fun e w'' => e = .returned v ∧ ∃ q : BelowOf w, w'' = q.W :=
  h.mono fun _ w' ⟨he, hb⟩ => ⟨he, ⟨w', below_step p.h hb⟩, rfl⟩
def RetB (w : World) (b : Bool) (e : Ending) (w' : World) : Prop := e = .returned (.bool b) ∧ Below w.heap.size w w'

set_option maxRecDepth 100000 in
set_option maxHeartbeats 400000 in
theorem before_any (k t m k' t' m' : Int) (w : World) : Calls Tryz.prog 240 #[Iv k t m, Iv k' t' m'] w (RetB w (ltB k t k' t')) := by
  by_cases h : k = k'
  · subst h
    have HE := Lib.hid (ltB_eq (k := k) (t := t) (t' := t'))
    generalize hr : ltB k t k t' = r at HE ⊢
    clear hr
    go_enter Tryz.func240, Tryz.ntmps240
    go_wp2
    go_ret
    exact ⟨by rw [HE.out]; rfl, ((Below.refl _ _).alloc (Nat.le_refl _) _).alloc (by simp) _⟩
  · have HE := Lib.hid (ltB_ne (t := t) (t' := t') h)
    have hb : (k == k') = false := by simpa using h
    go_enter Tryz.func240, Tryz.ntmps240
    go_wp2
    go_ret
    exact ⟨by rw [HE.out]; rfl, ((Below.refl _ _).alloc (Nat.le_refl _) _).alloc (by simp) _⟩
end Go.Proofs.YtnnaoldpacbagaaGreat.qu
end
section
namespace Go.Proofs.YtnnaoldpacbagaaGreat.qu
open Go.RowKit
set_option linter.unusedVariables false


/-- The cells of the item at place i of block G. -/
structure At (w : World) (G i : Nat) (x : It) : Prop where
  k : w.cell? ⟨G, i * 3, none⟩ = some (.int .i64 x.key)
  t : w.cell? ⟨G, i * 3 + 1, none⟩ = some (.int .u64 x.turn)
  m : w.cell? ⟨G, i * 3 + 2, none⟩ = some (.int .i64 x.num)
theorem At.lt {w : World} {G i : Nat} {x : It} (h : At w G i x) : G < w.heap.size := World.block_lt_of_cell? w _ h.k
theorem At.below {w w' : World} {G i : Nat} {x : It} (h : At w G i x) (hb : Below w.heap.size w w') : At w' G i x :=
  ⟨(hb.cell (p := ⟨G, i * 3, none⟩) h.lt).trans h.k, (hb.cell (p := ⟨G, i * 3 + 1, none⟩) h.lt).trans h.t, (hb.cell (p := ⟨G, i * 3 + 2, none⟩) h.lt).trans h.m⟩

set_option maxRecDepth 100000 in
set_option maxHeartbeats 1000000 in
theorem less_at (G n c i j : Nat) (x y : It) (w : World) (hi : i < n) (hj : j < n) (hn : n ≤ 1000000) (hx : At w G i x) (hy : At w G j y) :
    Calls Tryz.prog 238 #[.slice (some ⟨G, 0, none⟩) n c, .int .i64 i, .int .i64 j] w (RetB w (ltB x.key x.turn y.key y.turn)) := by
  have f0 : ∀ p : BelowOf w, p.W.cell? ⟨G, i * 3, none⟩ = some (.int .i64 x.key) := fun p => (hx.below p.h).k
  have f1 : ∀ p : BelowOf w, p.W.cell? ⟨G, i * 3 + 1, none⟩ = some (.int .u64 x.turn) := fun p => (hx.below p.h).t
  have f2 : ∀ p : BelowOf w, p.W.cell? ⟨G, i * 3 + 2, none⟩ = some (.int .i64 x.num) := fun p => (hx.below p.h).m
  have f3 : ∀ p : BelowOf w, p.W.cell? ⟨G, j * 3, none⟩ = some (.int .i64 y.key) := fun p => (hy.below p.h).k
  have f4 : ∀ p : BelowOf w, p.W.cell? ⟨G, j * 3 + 1, none⟩ = some (.int .u64 y.turn) := fun p => (hy.below p.h).t
  have f5 : ∀ p : BelowOf w, p.W.cell? ⟨G, j * 3 + 2, none⟩ = some (.int .i64 y.num) := fun p => (hy.below p.h).m
  have HC := Lib.hid (show ∀ p : BelowOf w, Calls Tryz.prog 240 #[Iv x.key x.turn x.num, Iv y.key y.turn y.num] p.W fun e w'' => e = .returned (.bool (ltB x.key x.turn y.key y.turn)) ∧ ∃ q : BelowOf w, w'' = q.W from fun p =>
    calls_below p (before_any _ _ _ _ _ _ p.W))
  generalize ltB x.key x.turn y.key y.turn = r at *
  clear hx hy
  go_enter Tryz.func238, Tryz.ntmps238
  go_upto_region 1 with fail
  refine wp_region_below (by kernel_rfl) (by kernel_rfl) ?_
  repeat (go_big_quiet_step ((go_at_call 240; with_reducible exact HC.out _)))
  refine wpQuiet_nil ?_
  rintro w1 ⟨⟨_, h1⟩, rfl⟩
  go_wp2_with fail
  go_ret
  exact ⟨rfl, h1⟩

end Go.Proofs.YtnnaoldpacbagaaGreat.qu
end
section
namespace Go.Proofs.YtnnaoldpacbagaaGreat.qu
open Go.RowKit
set_option linter.unusedVariables false

set_option maxRecDepth 100000 in
theorem m_push (Q : Nat) (w : World) : Sem.run Tryz.prog (method 405 199 (.pointer (some ⟨Q, 0, none⟩)) "Push") w = .ok (242, .pointer (some ⟨Q, 0, none⟩)) w := by kernel_rfl
set_option maxRecDepth 100000 in
theorem m_pop (Q : Nat) (w : World) : Sem.run Tryz.prog (method 405 199 (.pointer (some ⟨Q, 0, none⟩)) "Pop") w = .ok (241, .pointer (some ⟨Q, 0, none⟩)) w := by kernel_rfl
set_option maxRecDepth 100000 in
theorem load46 (Q : Nat) (w : World) (v : Value) (h : w.cell? ⟨Q, 0, none⟩ = some v) : Sem.run Tryz.prog (loadVar 193 ⟨Q, 0, none⟩) w = .ok v w := by
  go_simp
theorem ssa_run (P : Program) (ts : Array TypeId) (t : TypeId) (a : Addr) (s m : String) (w : World) : Sem.run P (Builtin.ssaWrapNilChk_ ts t #[.pointer (some a), strVal s, strVal m]) w = .ok (.pointer (some a)) w := rfl
set_option maxRecDepth 100000 in
theorem m_value (name : String) (f Q : Nat) (hx : ((Tryz.prog.info? 199).bind fun i => (i.methods.find? (·.name == name)).map fun m => (m.path, m.func)) = some (#[], some (f, false))) (w : World) (v : Value) (h : w.cell? ⟨Q, 0, none⟩ = some v) :
    Sem.run Tryz.prog (method 405 199 (.pointer (some ⟨Q, 0, none⟩)) name) w = .ok (f, v) w := by
  obtain ⟨i, hi, hx⟩ := Option.bind_eq_some_iff.1 hx
  obtain ⟨m, hm, hx⟩ := Option.map_eq_some_iff.1 hx
  injection hx with hp hf
  have ht : Sem.run Tryz.prog (typeInfo 199) w = .ok i w := by simp [typeInfo, hi]
  have hl := load46 Q w v h
  have hu : Sem.run Tryz.prog (underlying 199) w = .ok (.pointer 193) w := by kernel_rfl
  unfold method
  simp only [Sem.run_bind, ht, Result.andThen_ok, hm, hp, hf, follow, receiverAt, Place.get, Sem.run_pure, hu]
  simp [ssa_run, asAddr, hl]
set_option maxRecDepth 100000 in
theorem m_len (Q : Nat) (w : World) (v : Value) (h : w.cell? ⟨Q, 0, none⟩ = some v) : Sem.run Tryz.prog (method 405 199 (.pointer (some ⟨Q, 0, none⟩)) "Len") w = .ok (237, v) w := m_value "Len" 237 Q (by kernel_rfl) w v h
set_option maxRecDepth 100000 in
theorem m_less (Q : Nat) (w : World) (v : Value) (h : w.cell? ⟨Q, 0, none⟩ = some v) : Sem.run Tryz.prog (method 405 199 (.pointer (some ⟨Q, 0, none⟩)) "Less") w = .ok (238, v) w := m_value "Less" 238 Q (by kernel_rfl) w v h
set_option maxRecDepth 100000 in
theorem m_swap (Q : Nat) (w : World) (v : Value) (h : w.cell? ⟨Q, 0, none⟩ = some v) : Sem.run Tryz.prog (method 405 199 (.pointer (some ⟨Q, 0, none⟩)) "Swap") w = .ok (239, v) w := m_value "Swap" 239 Q (by kernel_rfl) w v h
end Go.Proofs.YtnnaoldpacbagaaGreat.qu
end
section
namespace Go.Proofs.YtnnaoldpacbagaaGreat.qu
open Go.RowKit
set_option linter.unusedVariables false


def Cells (f : Nat → Value) (xs : Array It) : Prop := ∀ i, i < xs.size → f (i * 3) = .int .i64 (g xs i).key ∧ f (i * 3 + 1) = .int .u64 (g xs i).turn ∧ f (i * 3 + 2) = .int .i64 (g xs i).num
/-- Block G is a row of c items, the first of which are xs. -/
def QRow (w : World) (G c : Nat) (xs : Array It) : Prop := xs.size ≤ c ∧ c ≤ maxLen ∧ ∃ f, w.rowIs G 201 (c * 3) f ∧ Cells f xs
theorem QRow.at_ {w : World} {G c : Nat} {xs : Array It} (h : QRow w G c xs) {i : Nat} (hi : i < xs.size) : At w G i (g xs i) := by
  obtain ⟨h1, h2, f, hf, hc⟩ := h
  obtain ⟨a, b, d⟩ := hc i hi
  exact ⟨by rw [hf.cell (by omega), a], by rw [hf.cell (by omega), b], by rw [hf.cell (by omega), d]⟩
theorem QRow.frozen {w : World} {G c : Nat} {xs : Array It} (h : QRow w G c xs) (o : Nat) : w.frozen? ⟨G, o, none⟩ = false := by
  obtain ⟨_, _, f, hf, _⟩ := h
  exact hf.frozen o
theorem QRow.lt {w : World} {G c : Nat} {xs : Array It} (h : QRow w G c xs) : G < w.heap.size := by
  obtain ⟨_, _, f, hf, _⟩ := h
  exact hf.lt
theorem QRow.of_block {w w' : World} {G c : Nat} {xs : Array It} (h : QRow w G c xs) (e : w'.heap[G]? = w.heap[G]?) : QRow w' G c xs := by
  obtain ⟨h1, h2, f, hf, hc⟩ := h
  exact ⟨h1, h2, f, hf.of_block e, hc⟩
theorem QRow.drew {w : World} {G c : Nat} {xs : Array It} (h : QRow w G c xs) : QRow w.drew G c xs := h.of_block rfl
/-- The world behind a store of an item. -/
def set3 (w : World) (G i : Nat) (y : It) : World := ((w.setCell ⟨G, i * 3, none⟩ (.int .i64 y.key)).setCell ⟨G, i * 3 + 1, none⟩ (.int .u64 y.turn)).setCell ⟨G, i * 3 + 2, none⟩ (.int .i64 y.num)
theorem g_set {xs : Array It} {i : Nat} (hi : i < xs.size) (y : It) (k : Nat) : g (xs.setIfInBounds i y) k = if k = i then y else g xs k := by
  unfold g
  simp only [Array.getD_eq_getD_getElem?, Array.getElem?_setIfInBounds]
  by_cases h : k = i
  · subst h; simp [hi]
  · simp [h, Ne.symm h]
theorem QRow.set {w : World} {G c : Nat} {xs : Array It} (h : QRow w G c xs) {i : Nat} (hi : i < xs.size) (y : It) : QRow (set3 w G i y) G c (xs.setIfInBounds i y) := by
  obtain ⟨h1, h2, f, hf, hc⟩ := h
  refine ⟨by simpa using h1, h2, _, ((hf.set _ _).set _ _).set _ _, fun k hk => ?_⟩
  rw [Array.size_setIfInBounds] at hk
  rw [g_set hi]
  obtain ⟨a, b, d⟩ := hc k hk
  by_cases e : k = i
  · subst e
    simp
  · have e1 : ¬ k * 3 = i * 3 := by omega
    have e2 : ¬ k * 3 = i * 3 + 1 := by omega
    have e3 : ¬ k * 3 = i * 3 + 2 := by omega
    have e4 : ¬ k * 3 + 1 = i * 3 := by omega
    have e6 : ¬ k * 3 + 2 = i * 3 := by omega
    have e7 : ¬ k * 3 + 2 = i * 3 + 1 := by omega
    simp [e, e1, e2, e3, e4, e6, e7, a, b, d]
theorem grownBy_trans {w w1 w2 : World} {r : Option Nat} (h : w.grownBy w1 r) (h' : w1.grownBy w2 r) : w.grownBy w2 r :=
  ⟨h'.os.trans h.os, h'.tape.trans h.tape, h'.output.trans h.output, Nat.le_trans h.size h'.size, fun k hk hr => (h'.block k (Nat.lt_of_lt_of_le hk h.size) hr).trans (h.block k hk hr)⟩
theorem grownBy_refl (w : World) (r : Option Nat) : w.grownBy w r := ⟨rfl, rfl, rfl, Nat.le_refl _, fun _ _ _ => rfl⟩
theorem grownBy_below {w w' : World} (h : Below w.heap.size w w') (r : Option Nat) : w.grownBy w' r := ⟨h.os, h.tape, h.output, h.size, fun k hk _ => h.block k hk⟩
theorem grownBy_set (w : World) (G o : Nat) (v : Value) : w.grownBy (w.setCell ⟨G, o, none⟩ v) (some G) :=
  ⟨rfl, rfl, rfl, by simp [World.setCell], fun k _ hr => Below.heap_setCell _ _ _ _ (fun e => hr (by rw [e]))⟩
theorem grownBy_set3 (w : World) (G i : Nat) (y : It) : w.grownBy (set3 w G i y) (some G) := grownBy_trans (grownBy_trans (grownBy_set _ _ _ _) (grownBy_set _ _ _ _)) (grownBy_set _ _ _ _)
theorem grownBy_drew (w : World) (r : Option Nat) : w.grownBy w.drew r := ⟨rfl, rfl, rfl, Nat.le_refl _, fun _ _ _ => rfl⟩

def SwapE (w : World) (G c : Nat) (ys : Array It) (e : Ending) (w' : World) : Prop := e = .returned (.tuple #[]) ∧ QRow w' G c ys ∧ w.grownBy w' (some G)
theorem swapE_of {w : World} {G c : Nat} {xs : Array It} (h : QRow w G c xs) {i j : Nat} (hi : i < xs.size) (hj : j < xs.size) : SwapE w G c (swp xs i j) (.returned (.tuple #[])) (set3 (set3 w G i (g xs j)) G j (g xs i)).drew :=
  ⟨rfl, ((h.set hi _).set (by simpa using hj) _).drew, grownBy_trans (grownBy_trans (grownBy_set3 _ _ _ _) (grownBy_set3 _ _ _ _)) (grownBy_drew _ _)⟩

set_option maxRecDepth 100000 in
set_option maxHeartbeats 2000000 in
theorem swap_ne (G c n i j : Nat) (xs : Array It) (w : World) (hn : n = xs.size) (hi : i < n) (hj : j < n) (hij : i ≠ j) (h : QRow w G c xs) (hN : n ≤ 1000000) :
    Calls Tryz.prog 239 #[.slice (some ⟨G, 0, none⟩) n c, .int .i64 i, .int .i64 j] w (SwapE w G c (swp xs i j)) := by
  have HF := Lib.hid (swapE_of h (i := i) (j := j) (by omega) (by omega))
  have hx := h.at_ (i := i) (by omega)
  have hy := h.at_ (i := j) (by omega)
  have hfz := h.frozen
  unfold set3 at HF
  generalize g xs i = x at *
  generalize g xs j = y at *
  generalize swp xs i j = ys at *
  have f0 := hx.k
  have f1 := hx.t
  have f2 := hx.m
  have f3 := hy.k
  have f4 := hy.t
  have f5 := hy.m
  have n0 : i * 3 ≠ j * 3 := by omega
  have n1 : i * 3 ≠ j * 3 + 1 := by omega
  have n2 : i * 3 ≠ j * 3 + 2 := by omega
  have n3 : i * 3 + 1 ≠ j * 3 := by omega
  have n5 : i * 3 + 1 ≠ j * 3 + 2 := by omega
  have n6 : i * 3 + 2 ≠ j * 3 := by omega
  have n7 : i * 3 + 2 ≠ j * 3 + 1 := by omega
  clear hx hy hn h
  go_enter Tryz.func239, Tryz.ntmps239
  go_wp2_with fail
  go_region
  all_goals (go_wp2_with fail; go_end0; exact HF.out)

set_option maxRecDepth 100000 in
set_option maxHeartbeats 2000000 in
theorem swap_eq (G c n i : Nat) (xs : Array It) (w : World) (hn : n = xs.size) (hi : i < n) (h : QRow w G c xs) (hN : n ≤ 1000000) :
    Calls Tryz.prog 239 #[.slice (some ⟨G, 0, none⟩) n c, .int .i64 i, .int .i64 i] w (SwapE w G c (swp xs i i)) := by
  have HF := Lib.hid (swapE_of h (i := i) (j := i) (by omega) (by omega))
  have hx := h.at_ (i := i) (by omega)
  have hfz := h.frozen
  unfold set3 at HF
  generalize g xs i = x at *
  generalize swp xs i i = ys at *
  have f0 := hx.k
  have f1 := hx.t
  have f2 := hx.m
  clear hx hn h
  go_enter Tryz.func239, Tryz.ntmps239
  go_wp2_with fail
  go_region
  all_goals (go_wp2_with fail; go_end0; exact HF.out)
set_option maxRecDepth 100000 in
theorem swap_any (G c n i j : Nat) (xs : Array It) (w : World) (hn : n = xs.size) (hi : i < n) (hj : j < n) (h : QRow w G c xs) (hN : n ≤ 1000000) :
    Calls Tryz.prog 239 #[.slice (some ⟨G, 0, none⟩) n c, .int .i64 i, .int .i64 j] w (SwapE w G c (swp xs i j)) := by
  by_cases e : i = j
  · subst e; exact swap_eq G c n i xs w hn hi h hN
  · exact swap_ne G c n i j xs w hn hi hj e h hN

set_option maxRecDepth 100000 in
theorem len_any (A : Option Addr) (n c : Nat) (w : World) : Calls Tryz.prog 237 #[.slice A n c] w (fun e w' => e = .returned (.int .i64 n) ∧ w = w') := by
  go_enter Tryz.func237, Tryz.ntmps237
  go_wp2
  go_ret
  exact ⟨rfl, rfl⟩
end Go.Proofs.YtnnaoldpacbagaaGreat.qu
end
section
namespace Go.Proofs.YtnnaoldpacbagaaGreat.qu
open Go.RowKit
set_option linter.unusedVariables false


abbrev Pq (Q : Nat) : Value := .pointer (some ⟨Q, 0, none⟩)
set_option maxRecDepth 100000 in
theorem e49 : Enters Tryz.prog 237 := enters_of Tryz.func237 (by kernel_rfl) rfl
set_option maxRecDepth 100000 in
theorem e50 : Enters Tryz.prog 238 := enters_of Tryz.func238 (by kernel_rfl) rfl
set_option maxRecDepth 100000 in
theorem e51 : Enters Tryz.prog 239 := enters_of Tryz.func239 (by kernel_rfl) rfl
set_option maxRecDepth 100000 in
theorem e53 : Enters Tryz.prog 241 := enters_of Tryz.func241 (by kernel_rfl) rfl
set_option maxRecDepth 100000 in
theorem e54 : Enters Tryz.prog 242 := enters_of Tryz.func242 (by kernel_rfl) rfl

/-- A queue's row, and the cell that leads to it. -/
structure Hp (w : World) (Q G c : Nat) (xs : Array It) : Prop where
  row : QRow w G c xs
  cell : w.cell? ⟨Q, 0, none⟩ = some (.slice (some ⟨G, 0, none⟩) xs.size c)
  ne : Q ≠ G
theorem Hp.lt {w : World} {Q G c : Nat} {xs : Array It} (h : Hp w Q G c xs) : Q < w.heap.size := World.block_lt_of_cell? w _ h.cell
theorem Hp.below {w w' : World} {Q G c : Nat} {xs : Array It} (h : Hp w Q G c xs) (hb : Below w.heap.size w w') : Hp w' Q G c xs :=
  ⟨h.row.of_block (hb.block _ h.row.lt), (hb.cell (p := ⟨Q, 0, none⟩) h.lt).trans h.cell, h.ne⟩
theorem Hp.swap {w w' : World} {Q G c : Nat} {xs ys : Array It} {e : Ending} (h : Hp w Q G c xs) (hs : SwapE w G c ys e w') (hz : ys.size = xs.size) : Hp w' Q G c ys :=
  ⟨hs.2.1, by rw [hz, ← h.cell]; exact World.cell?_of_block (hs.2.2.block Q h.lt (fun e => h.ne (by injection e))), h.ne⟩
set_option maxRecDepth 100000 in
theorem Hp.less {w : World} {Q G c : Nat} {xs : Array It} (h : Hp w Q G c xs) {n i j : Nat} (hn : n = xs.size) (hi : i < n) (hj : j < n) (hN : n ≤ 1000000) {b : Bool} (hb : ltB (g xs i).key (g xs i).turn (g xs j).key (g xs j).turn = b) :
    Calls Tryz.prog 238 #[.slice (some ⟨G, 0, none⟩) n c, .int .i64 i, .int .i64 j] w (RetB w b) := by
  subst hb
  exact less_at G n c i j _ _ w hi hj hN (h.row.at_ (by omega)) (h.row.at_ (by omega))
def UpE (w : World) (Q G c : Nat) (ys : Array It) (e : Ending) (w' : World) : Prop := e = .returned (.tuple #[]) ∧ Hp w' Q G c ys ∧ w.grownBy w' (some G)

set_option maxRecDepth 100000 in
set_option maxHeartbeats 2000000 in
theorem up_any (Q G c n j : Nat) (xs : Array It) (w : World) (hn : n = xs.size) (hj : j < n) (hN : n ≤ 1000000) (h : Hp w Q G c xs) :
    Calls Tryz.prog 168 #[.iface 199 (Pq Q), .int .i64 j] w (UpE w Q G c (up xs j)) := by
  have E50 := e50
  have E51 := e51
  unfold Enters at E50 E51
  generalize hr : up xs j = rs
  have HR := Lib.hid hr
  have HN := Lib.hid hn
  have HW := Lib.hid h
  clear hr hn h
  go_enter Tryz.func168, Tryz.ntmps168
  go_wp2_with fail
  go_loopg [1] j (fun k s wr => ∃ ys, s = .int .i64 k ∧ k < n ∧ Hid (n = ys.size) ∧ Hid (Hp wr Q G c ys) ∧ Hid (up ys k = rs) ∧ w.grownBy wr (some G))
  case atStart => exact ⟨xs, rfl, hj, HN, HW, HR, grownBy_refl _ _⟩
  case round =>
    clear HR HN HW
    obtain ⟨ys, rfl, hk, HN, HP, HR, hgr⟩ := hrel
    by_cases h0 : gk = 0
    · subst h0
      go_wp2_with fail
      go_end0
      exact ⟨rfl, by have := HR.out; rw [up_stop (.inl rfl)] at this; rw [← this]; exact HP.out, hgr⟩
    · obtain ⟨p, hp⟩ : ∃ p, (gk - 1) / 2 = p := ⟨_, rfl⟩
      have hpk : p < gk := by omega
      have hdiv : ((gk : Int) - 1) / 2 = (p : Int) := by omega
      have hne : ((p : Int) == (gk : Int)) = false := by simp; omega
      have hm := m_less Q wr _ HP.out.cell
      rw [← HN.out] at hm
      have HPP := Lib.hid hp
      have HK0 := Lib.hid h0
      clear hp h0
      by_cases hl : lt (g ys gk) (g ys p)
      · have HL := Lib.hid hl
        clear hl
        have HC := Lib.hid (HP.out.less HN.out hk (show p < n by omega) hN (b := true) HL.out)
        go_wp2_with fail
        refine HC.out.mono ?_
        rintro e w2 ⟨rfl, hb⟩
        have HP2 := Lib.hid (HP.out.below hb)
        have hm2 := m_swap Q w2 _ HP2.out.cell
        rw [← HN.out] at hm2
        have HS := Lib.hid (swap_any G c n p gk ys w2 HN.out (by omega) hk HP2.out.row hN)
        clear hm HC
        go_wp2_with fail
        refine HS.out.mono ?_
        rintro e w3 hs
        obtain ⟨rfl, hs2⟩ := id hs
        have HP3 := Lib.hid (HP2.out.swap hs (size_swp _ _ _))
        have hg3 := grownBy_trans (grownBy_trans hgr (grownBy_below hb _)) hs.2.2
        have HR3 := Lib.hid (show up (swp ys p gk) p = rs by
          have h1 := HR.out
          rw [up_go HK0.out (by rw [HPP.out]; exact HL.out), HPP.out] at h1
          exact h1)
        clear hm2 hs hs2 HS
        go_wp2_with fail
        go_roundg p
        case measure => omega
        case rel => exact ⟨_, rfl, by omega, Lib.hid (by rw [size_swp]; exact HN.out), HP3, HR3, hg3⟩
      · have HC := Lib.hid (HP.out.less HN.out hk (show p < n by omega) hN (b := false) (by simpa [lt] using hl))
        have HR3 := Lib.hid (show ys = rs by
          have h1 := HR.out
          rw [up_stop (.inr (by rw [HPP.out]; exact hl))] at h1
          exact h1)
        clear hl
        go_wp2_with fail
        refine HC.out.mono ?_
        rintro e w2 ⟨rfl, hb⟩
        have HP2 := Lib.hid (HP.out.below hb)
        go_wp2_with fail
        go_end0
        exact ⟨rfl, by rw [← HR3.out]; exact HP2.out, grownBy_trans hgr (grownBy_below hb _)⟩
end Go.Proofs.YtnnaoldpacbagaaGreat.qu
end
section
namespace Go.Proofs.YtnnaoldpacbagaaGreat.qu
open Go.RowKit
set_option linter.unusedVariables false


def DownE (w : World) (Q G c : Nat) (ys : Array It) (e : Ending) (w' : World) : Prop := (∃ b, e = .returned (.bool b)) ∧ Hp w' Q G c ys ∧ w.grownBy w' (some G)

set_option maxRecDepth 100000 in
set_option maxHeartbeats 4000000 in
theorem down_any (Q G c N i0 m : Nat) (xs : Array It) (w : World) (hn : N = xs.size) (hi0 : i0 ≤ m) (hm : m ≤ N) (hN : N ≤ 1000000) (h : Hp w Q G c xs) :
    Calls Tryz.prog 169 #[.iface 199 (Pq Q), .int .i64 i0, .int .i64 m] w (DownE w Q G c (down xs i0 m)) := by
  have E50 := e50
  have E51 := e51
  unfold Enters at E50 E51
  generalize hr : down xs i0 m = rs
  have HR := Lib.hid hr
  have HN := Lib.hid hn
  have HW := Lib.hid h
  clear hr hn h
  go_enter Tryz.func169, Tryz.ntmps169
  go_wp2_with fail
  go_loopg [7] (m - i0) (fun k s wr => ∃ (i : Nat) (ys : Array It), s = .int .i64 i ∧ k + i = m ∧ Hid (N = ys.size) ∧ Hid (Hp wr Q G c ys) ∧ Hid (down ys i m = rs) ∧ w.grownBy wr (some G))
  case atStart => exact ⟨i0, xs, rfl, by omega, HN, HW, HR, grownBy_refl _ _⟩
  case round =>
    clear HR HN HW
    obtain ⟨i, ys, rfl, hk, HN, HP, HR, hgr⟩ := hrel
    obtain ⟨a1, ha1⟩ : ∃ a, 2 * i + 1 = a := ⟨_, rfl⟩
    obtain ⟨a2, ha2⟩ : ∃ a, a1 + 1 = a := ⟨_, rfl⟩
    have hj1 : 2 * (i : Int) + 1 = (a1 : Int) := by omega
    have hj2 : (a1 : Int) + 1 = (a2 : Int) := by omega
    have hpos : ¬ ((a1 : Int) < 0) := by omega
    by_cases h0 : a1 < m
    · have hge : ¬ ((m : Int) ≤ (a1 : Int)) := by omega
      by_cases h2 : a2 < m
      · have hm1 := m_less Q wr _ HP.out.cell
        rw [← HN.out] at hm1
        have HC1 := Lib.hid (fun (b : Bool) hb => HP.out.less HN.out (show a2 < N by omega) (show a1 < N by omega) hN (b := b) hb)
        by_cases hl : lt (g ys a2) (g ys a1)
        · have HCC := Lib.hid (show child ys i m = a2 by unfold child; rw [show 2 * i + 2 = a2 by omega, ha1, if_pos ⟨h2, hl⟩])
          have HB1 := Lib.hid (HC1.out true hl)
          clear hl HC1
          have HA := Lib.hid (And.intro ha1 ha2)
          have hi2 : i < a1 := by omega
          have ha12 : a2 = a1 + 1 := by omega
          have HA12 := Lib.hid ha12
          clear ha1 ha2 ha12
          go_wp2_with fail
          refine HB1.out.mono ?_
          rintro e w2 ⟨rfl, hb⟩
          have HP2 := Lib.hid (HP.out.below hb)
          have hgr2 := grownBy_trans hgr (grownBy_below hb _)
          clear hm1 HB1
          have hi3 : i < a2 := by have := HA12.out; omega
          have hcm : a2 < m := by omega
          have HC := Lib.hid (fun (b : Bool) hb => HP2.out.less HN.out (show a2 < N by omega) (show i < N by omega) hN (b := b) hb)
          have hm2 := m_less Q w2 _ HP2.out.cell
          rw [← HN.out] at hm2
          by_cases hl2 : lt (g ys a2) (g ys i)
          · have HL2 := Lib.hid hl2
            have HB := Lib.hid (HC.out true hl2)
            clear hl2 HC
            go_wp2_with fail
            refine HB.out.mono ?_
            rintro e w3 ⟨rfl, hb3⟩
            have HP3 := Lib.hid (HP2.out.below hb3)
            have hm3 := m_swap Q w3 _ HP3.out.cell
            rw [← HN.out] at hm3
            have HS := Lib.hid (swap_any G c N i a2 ys w3 HN.out (by omega) (by omega) HP3.out.row hN)
            clear hm2 HB
            go_wp2_with fail
            refine HS.out.mono ?_
            rintro e w4 hs
            obtain ⟨rfl, hs2⟩ := id hs
            have HP4 := Lib.hid (HP3.out.swap hs (size_swp _ _ _))
            have hg4 := grownBy_trans (grownBy_trans hgr2 (grownBy_below hb3 _)) hs.2.2
            have HR4 := Lib.hid (show down (swp ys i a2) a2 m = rs by
              have h1 := HR.out
              rw [down_go (by omega) (by rw [HCC.out]; exact HL2.out), HCC.out] at h1
              exact h1)
            clear hm3 hs hs2 HS
            go_wp2_with fail
            go_roundg (m - a2)
            case measure => omega
            case rel => exact ⟨a2, _, rfl, by omega, Lib.hid (by rw [size_swp]; exact HN.out), HP4, HR4, hg4⟩
          · have HB := Lib.hid (HC.out false (by simpa [lt] using hl2))
            have HR3 := Lib.hid (show ys = rs by
              have h1 := HR.out
              rw [down_stop (.inr (by rw [HCC.out]; exact hl2))] at h1
              exact h1)
            clear hl2 HC
            go_wp2_with fail
            refine HB.out.mono ?_
            rintro e w3 ⟨rfl, hb3⟩
            have HP3 := Lib.hid (HP2.out.below hb3)
            go_wp2_with fail
            go_ret
            exact ⟨⟨_, rfl⟩, by rw [← HR3.out]; exact HP3.out, grownBy_trans hgr2 (grownBy_below hb3 _)⟩
        · have HCC := Lib.hid (show child ys i m = a1 by unfold child; rw [show 2 * i + 2 = a2 by omega, ha1, if_neg (fun h => hl h.2)])
          have HB1 := Lib.hid (HC1.out false (by simpa [lt] using hl))
          clear hl HC1
          have HA := Lib.hid (And.intro ha1 ha2)
          have hi2 : i < a1 := by omega
          clear ha1 ha2
          go_wp2_with fail
          refine HB1.out.mono ?_
          rintro e w2 ⟨rfl, hb⟩
          have HP2 := Lib.hid (HP.out.below hb)
          have hgr2 := grownBy_trans hgr (grownBy_below hb _)
          clear hm1 HB1
          have hcm : a1 < m := by omega
          have HC := Lib.hid (fun (b : Bool) hb => HP2.out.less HN.out (show a1 < N by omega) (show i < N by omega) hN (b := b) hb)
          have hm2 := m_less Q w2 _ HP2.out.cell
          rw [← HN.out] at hm2
          by_cases hl2 : lt (g ys a1) (g ys i)
          · have HL2 := Lib.hid hl2
            have HB := Lib.hid (HC.out true hl2)
            clear hl2 HC
            go_wp2_with fail
            refine HB.out.mono ?_
            rintro e w3 ⟨rfl, hb3⟩
            have HP3 := Lib.hid (HP2.out.below hb3)
            have hm3 := m_swap Q w3 _ HP3.out.cell
            rw [← HN.out] at hm3
            have HS := Lib.hid (swap_any G c N i a1 ys w3 HN.out (by omega) (by omega) HP3.out.row hN)
            clear hm2 HB
            go_wp2_with fail
            refine HS.out.mono ?_
            rintro e w4 hs
            obtain ⟨rfl, hs2⟩ := id hs
            have HP4 := Lib.hid (HP3.out.swap hs (size_swp _ _ _))
            have hg4 := grownBy_trans (grownBy_trans hgr2 (grownBy_below hb3 _)) hs.2.2
            have HR4 := Lib.hid (show down (swp ys i a1) a1 m = rs by
              have h1 := HR.out
              rw [down_go (by omega) (by rw [HCC.out]; exact HL2.out), HCC.out] at h1
              exact h1)
            clear hm3 hs hs2 HS
            go_wp2_with fail
            go_roundg (m - a1)
            case measure => omega
            case rel => exact ⟨a1, _, rfl, by omega, Lib.hid (by rw [size_swp]; exact HN.out), HP4, HR4, hg4⟩
          · have HB := Lib.hid (HC.out false (by simpa [lt] using hl2))
            have HR3 := Lib.hid (show ys = rs by
              have h1 := HR.out
              rw [down_stop (.inr (by rw [HCC.out]; exact hl2))] at h1
              exact h1)
            clear hl2 HC
            go_wp2_with fail
            refine HB.out.mono ?_
            rintro e w3 ⟨rfl, hb3⟩
            have HP3 := Lib.hid (HP2.out.below hb3)
            go_wp2_with fail
            go_ret
            exact ⟨⟨_, rfl⟩, by rw [← HR3.out]; exact HP3.out, grownBy_trans hgr2 (grownBy_below hb3 _)⟩
      · have HCC := Lib.hid (show child ys i m = a1 by unfold child; rw [show 2 * i + 2 = a2 by omega, ha1, if_neg (fun h => h2 h.1)])
        have HA := Lib.hid (And.intro ha1 ha2)
        have hi2 : i < a1 := by omega
        have hnl : ¬ ((a2 : Int) < (m : Int)) := by omega
        clear ha1 ha2 h2
        have HP2 := HP
        have hgr2 := hgr
        clear HP hgr
        generalize hww : wr = w2 at *
        clear hww
        have hcm : a1 < m := by omega
        have HC := Lib.hid (fun (b : Bool) hb => HP2.out.less HN.out (show a1 < N by omega) (show i < N by omega) hN (b := b) hb)
        have hm2 := m_less Q w2 _ HP2.out.cell
        rw [← HN.out] at hm2
        by_cases hl2 : lt (g ys a1) (g ys i)
        · have HL2 := Lib.hid hl2
          have HB := Lib.hid (HC.out true hl2)
          clear hl2 HC
          go_wp2_with fail
          refine HB.out.mono ?_
          rintro e w3 ⟨rfl, hb3⟩
          have HP3 := Lib.hid (HP2.out.below hb3)
          have hm3 := m_swap Q w3 _ HP3.out.cell
          rw [← HN.out] at hm3
          have HS := Lib.hid (swap_any G c N i a1 ys w3 HN.out (by omega) (by omega) HP3.out.row hN)
          clear hm2 HB
          go_wp2_with fail
          refine HS.out.mono ?_
          rintro e w4 hs
          obtain ⟨rfl, hs2⟩ := id hs
          have HP4 := Lib.hid (HP3.out.swap hs (size_swp _ _ _))
          have hg4 := grownBy_trans (grownBy_trans hgr2 (grownBy_below hb3 _)) hs.2.2
          have HR4 := Lib.hid (show down (swp ys i a1) a1 m = rs by
            have h1 := HR.out
            rw [down_go (by omega) (by rw [HCC.out]; exact HL2.out), HCC.out] at h1
            exact h1)
          clear hm3 hs hs2 HS
          go_wp2_with fail
          go_roundg (m - a1)
          case measure => omega
          case rel => exact ⟨a1, _, rfl, by omega, Lib.hid (by rw [size_swp]; exact HN.out), HP4, HR4, hg4⟩
        · have HB := Lib.hid (HC.out false (by simpa [lt] using hl2))
          have HR3 := Lib.hid (show ys = rs by
            have h1 := HR.out
            rw [down_stop (.inr (by rw [HCC.out]; exact hl2))] at h1
            exact h1)
          clear hl2 HC
          go_wp2_with fail
          refine HB.out.mono ?_
          rintro e w3 ⟨rfl, hb3⟩
          have HP3 := Lib.hid (HP2.out.below hb3)
          go_wp2_with fail
          go_ret
          exact ⟨⟨_, rfl⟩, by rw [← HR3.out]; exact HP3.out, grownBy_trans hgr2 (grownBy_below hb3 _)⟩
    · have HR3 := Lib.hid (show ys = rs by
        have h1 := HR.out
        rw [down_stop (.inl (by omega))] at h1
        exact h1)
      have hge : (m : Int) ≤ (a1 : Int) := by omega
      clear ha1 ha2 h0
      go_wp2_with fail
      go_ret
      exact ⟨⟨_, rfl⟩, by rw [← HR3.out]; exact HP.out, hgr⟩
end Go.Proofs.YtnnaoldpacbagaaGreat.qu
end
