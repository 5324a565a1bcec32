/- A queue as a list in order: what each call makes of the list. -/
import Derived.Test.YtadkhnenklkbmaaHeap
namespace Go.Proofs.Ytadkhnenklkbmaa
set_option linter.unusedVariables false

abbrev KN := Int × Int
def kn (x : It) : KN := (x.key, x.num)
/-- An item goes in behind all whose key isn't above. -/
def ins (x : KN) : List KN → List KN
  | [] => [x]
  | y :: l => if x.1 < y.1 then x :: y :: l else y :: ins x l
def insS (x : It) : List It → List It
  | [] => [x]
  | y :: l => if x.key < y.key then x :: y :: l else y :: insS x l
theorem insS_kn (x : It) (l : List It) : (insS x l).map kn = ins (kn x) (l.map kn) := by
  induction l with
  | nil => rfl
  | cons y l ih =>
    by_cases h : x.key < y.key
    · have h' : (kn x).1 < (kn y).1 := h
      simp only [insS, if_pos h, List.map_cons, ins, if_pos h']
    · have h' : ¬ (kn x).1 < (kn y).1 := h
      simp only [insS, if_neg h, List.map_cons, ins, if_neg h', ih]
theorem insS_perm (x : It) (l : List It) : (insS x l).Perm (x :: l) := by
  induction l with
  | nil => exact List.Perm.refl _
  | cons y l ih =>
    unfold insS
    split
    · exact List.Perm.refl _
    · exact (ih.cons y).trans (List.Perm.swap x y l)
theorem insS_sorted (x : It) (l : List It) (h : l.Pairwise lt) (hx : ∀ y ∈ l, y.turn < x.turn) : (insS x l).Pairwise lt := by
  induction l with
  | nil => simp [insS]
  | cons y l ih =>
    rw [List.pairwise_cons] at h
    unfold insS
    split
    · rename_i hk
      rw [List.pairwise_cons]
      refine ⟨fun z hz => ?_, List.pairwise_cons.2 h⟩
      have hxy : lt x y := by rw [lt_iff]; exact .inl hk
      rcases List.mem_cons.1 hz with rfl | hz
      · exact hxy
      · exact lt_trans hxy (h.1 z hz)
    · rename_i hk
      rw [List.pairwise_cons]
      refine ⟨fun z hz => ?_, ih h.2 (fun y' hy' => hx y' (by simp [hy']))⟩
      rcases List.mem_cons.1 ((insS_perm x l).mem_iff.1 hz) with rfl | hz
      · have := hx y (by simp)
        rw [lt_iff]; omega
      · exact h.1 z hz

/-- The array is a heap, of items with turns below T; in order they are L. -/
def Rep (xs : Array It) (T : Int) (L : List KN) : Prop :=
  Ok xs xs.size 0 ∧ ∃ S : List It, S.Perm xs.toList ∧ S.Pairwise lt ∧ (∀ x ∈ S, 0 ≤ x.turn ∧ x.turn < T) ∧ L = S.map kn

theorem Rep.size {xs : Array It} {T : Int} {L : List KN} (h : Rep xs T L) : xs.size = L.length := by
  obtain ⟨_, S, hp, _, _, rfl⟩ := h
  rw [List.length_map, hp.length_eq, Array.length_toList]
theorem Rep.nil (T : Int) : Rep #[] T [] := ⟨fun k hk => by simp at hk, [], List.Perm.refl _, List.Pairwise.nil, by simp, rfl⟩

theorem ok_pop_less {xs ys : Array It} {n : Nat} (h : Ok xs n 0) (e : ∀ k, k < n → g ys k = g xs k) : Ok ys n 0 := fun k hk h0 h1 => by
  rw [e k hk, e _ (by omega)]; exact h k hk h0 h1

theorem Rep.push {xs : Array It} {T : Int} {L : List KN} (h : Rep xs T L) (hT : 0 ≤ T) (k n : Int) : Rep (up (xs.push ⟨k, T, n⟩) xs.size) (T + 1) (ins (k, n) L) ∧ (up (xs.push ⟨k, T, n⟩) xs.size).size = xs.size + 1 := by
  obtain ⟨hok, S, hp, hs, ht, rfl⟩ := h
  have hg : ∀ i, i < xs.size → g (xs.push ⟨k, T, n⟩) i = g xs i := fun i hi => by
    rw [g_get hi, g_get (by simp; omega), Array.getElem_push_lt hi]
  obtain ⟨r1, r2, r3⟩ := up_ok (xs.push ⟨k, T, n⟩) (xs.size + 1) xs.size (by simp) (by omega)
    (fun i hi h0 hne => by rw [hg i (by omega), hg _ (by omega)]; exact hok i (by omega) h0 (by omega)) (fun i hi h0 h1 h2 => by omega)
  have hsz : (up (xs.push ⟨k, T, n⟩) xs.size).size = xs.size + 1 := by rw [r3]; simp
  refine ⟨⟨by rw [hsz]; exact r1, insS ⟨k, T, n⟩ S, ?_, insS_sorted _ _ hs (fun y hy => (ht y hy).2), ?_, (insS_kn ⟨k, T, n⟩ S).symm⟩, hsz⟩
  · refine (insS_perm _ _).trans (.trans ?_ r2.symm)
    rw [Array.toList_push]
    exact (hp.cons _).trans (List.perm_append_comm (l₁ := [_]))
  · intro x hx
    rcases List.mem_cons.1 ((insS_perm _ _).mem_iff.1 hx) with rfl | hx
    · exact ⟨hT, by show T < T + 1; omega⟩
    · have := ht x hx; omega

/-- The first item of the heap is the first in order. -/
theorem Rep.head {xs : Array It} {T : Int} {L : List KN} (h : Rep xs T L) (hn : 0 < xs.size) : ∃ S, (g xs 0 :: S).Perm xs.toList ∧ (g xs 0 :: S).Pairwise lt ∧ (∀ x ∈ g xs 0 :: S, 0 ≤ x.turn ∧ x.turn < T) ∧ L = kn (g xs 0) :: S.map kn := by
  obtain ⟨hok, S, hp, hs, ht, rfl⟩ := h
  cases S with
  | nil => have := hp.length_eq; simp at this; omega
  | cons s S =>
    have h0 : g xs 0 ∈ s :: S := hp.mem_iff.2 (by rw [g_get hn]; simp)
    have hs0 : s ∈ xs.toList := hp.mem_iff.1 (by simp)
    obtain ⟨k, hk, e⟩ := List.getElem_of_mem hs0
    have hk' : k < xs.size := by simpa using hk
    have hm := ok_min hok k hk'
    rw [g_get hk', show xs[k] = s by simpa using e] at hm
    have he : g xs 0 = s := by
      rcases List.mem_cons.1 h0 with h | h
      · exact h
      · exact absurd ((List.pairwise_cons.1 hs).1 _ h) hm
    rw [he]
    exact ⟨S, hp, hs, ht, rfl⟩

theorem Rep.pop {xs : Array It} {T : Int} {L : List KN} (h : Rep xs T L) (hn : 0 < xs.size) :
    Rep (down (swp xs 0 (xs.size - 1)) 0 (xs.size - 1)).pop T L.tail ∧ g (down (swp xs 0 (xs.size - 1)) 0 (xs.size - 1)) (xs.size - 1) = g xs 0 ∧ (down (swp xs 0 (xs.size - 1)) 0 (xs.size - 1)).size = xs.size ∧ L.head? = some (kn (g xs 0)) := by
  obtain ⟨S, hp, hs, ht, rfl⟩ := h.head hn
  have hok := h.1
  have hl : xs.size - 1 < xs.size := by omega
  have G := g_swp hn hl
  have hsz := size_swp xs 0 (xs.size - 1)
  have hpm := swp_perm hn hl
  obtain ⟨r1, r2, r3, r4⟩ := down_ok (swp xs 0 (xs.size - 1)) (xs.size - 1) 0 0 (by rw [hsz]; omega) (fun k hk h0 h1 h2 => by
    rw [G, G, if_neg (by omega), if_neg (by omega), if_neg (by omega), if_neg h2]
    exact hok k (by omega) h0 h1) (fun k hk h0 h1 h2 => by omega)
  have r5 := r4 (xs.size - 1) (Nat.le_refl _)
  rw [G, if_pos rfl] at r5
  rw [hsz] at r3
  generalize hd : down (swp xs 0 (xs.size - 1)) 0 (xs.size - 1) = zs at *
  have hg : ∀ k, k < xs.size - 1 → g zs.pop k = g zs k := fun k hk => by
    rw [g_get (by simp; omega), g_get (by omega)]; simp
  refine ⟨⟨?_, S, ?_, (List.pairwise_cons.1 hs).2, fun x hx => ht x (by simp [hx]), rfl⟩, r5, r3, rfl⟩
  · rw [show zs.pop.size = xs.size - 1 by simp [r3]]
    exact ok_pop_less r1 hg
  · have e : zs.toList = zs.pop.toList ++ [g xs 0] := by
      rw [← r5, g_get (by omega)]
      apply List.ext_getElem
      · simp; omega
      · intro k h1 h2
        rw [List.getElem_append]
        split
        · simp
        · rename_i hk
          simp at h1 hk
          have : k = xs.size - 1 := by omega
          subst this
          simp
    have : (g xs 0 :: S).Perm (g xs 0 :: zs.pop.toList) := by
      refine hp.trans ((r2.trans hpm).symm.trans ?_)
      rw [e]
      exact List.perm_append_comm
    exact this.cons_inv

theorem Rep.drop {xs ys : Array It} {T : Int} {L : List KN} (h : Rep xs T L) (m : Int) (hy : ys.toList = xs.toList.filter (fun x => !(x.num == m))) :
    Rep (initN ys.size (ys.size / 2) ys) T (L.filter (fun x => !(x.2 == m))) ∧ (initN ys.size (ys.size / 2) ys).size = ys.size := by
  obtain ⟨hok, S, hp, hs, ht, rfl⟩ := h
  obtain ⟨r1, r2, r3⟩ := initN_ok ys.size (ys.size / 2) ys (Nat.le_refl _) (ok_half _ _)
  refine ⟨⟨by rw [r3]; exact r1, S.filter (fun x => !(x.num == m)), ?_, hs.filter _, fun x hx => ht x (List.mem_filter.1 hx).1, ?_⟩, r3⟩
  · refine (hp.filter _).trans ?_
    rw [← hy]
    exact r2.symm
  · rw [List.filter_map]; rfl
theorem Rep.has {xs : Array It} {T : Int} {L : List KN} (h : Rep xs T L) (m : Int) : xs.toList.any (fun x => x.num == m) = L.any (fun x => x.2 == m) := by
  obtain ⟨hok, S, hp, hs, ht, rfl⟩ := h
  rw [Bool.eq_iff_iff]
  simp only [List.any_eq_true, List.any_map, Function.comp]
  constructor
  · rintro ⟨x, hx, e⟩; exact ⟨x, hp.mem_iff.2 hx, e⟩
  · rintro ⟨x, hx, e⟩; exact ⟨x, hp.mem_iff.1 hx, e⟩
end Go.Proofs.Ytadkhnenklkbmaa
