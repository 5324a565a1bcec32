/- Own rows of wants. -/
import Derived.Test.YtlplbpilpkmoaaaQa
import Derived.Laws.OwnMore
namespace Go.Proofs.Ytlplbpilpkmoaaa.pl
open Go.RowKit
set_option linter.unusedVariables false
set_option linter.unusedSimpArgs false

abbrev Wv (x : Wt) : Value := .agg #[.int .i64 x.d, .int .i64 x.n, .bool x.w]
def encW (xs : List Wt) : List Value := xs.flatMap fun x => [.int .i64 x.d, .int .i64 x.n, .bool x.w]
theorem encW_cons (x : Wt) (xs : List Wt) : encW (x :: xs) = .int .i64 x.d :: .int .i64 x.n :: .bool x.w :: encW xs := rfl
theorem encW_len : ∀ xs : List Wt, (encW xs).length = xs.length * 3
  | [] => rfl
  | x :: xs => by rw [encW_cons]; simp [encW_len xs]; omega
theorem encW_app (a b : List Wt) : encW (a ++ b) = encW a ++ encW b := by unfold encW; rw [List.flatMap_append]
theorem encW_get : ∀ (xs : List Wt) (i : Nat), i < xs.length → (encW xs)[i * 3]? = some (.int .i64 (gw xs i).d) ∧ (encW xs)[i * 3 + 1]? = some (.int .i64 (gw xs i).n) ∧ (encW xs)[i * 3 + 2]? = some (.bool (gw xs i).w)
  | [], i, h => by simp at h
  | x :: xs, 0, _ => by simp [encW_cons, gw]
  | x :: xs, i + 1, h => by
    obtain ⟨a, b, c⟩ := encW_get xs i (by simpa using h)
    have e : gw (x :: xs) (i + 1) = gw xs i := by simp [gw, List.getD]
    rw [e, encW_cons, show (i + 1) * 3 = i * 3 + 1 + 1 + 1 by omega]
    exact ⟨by simpa using a, by simpa using b, by simpa using c⟩
theorem encW_ext {L : List Value} {xs : List Wt} (hl : L.length = xs.length * 3) (h : ∀ i, i < xs.length → L[i * 3]? = some (.int .i64 (gw xs i).d) ∧ L[i * 3 + 1]? = some (.int .i64 (gw xs i).n) ∧ L[i * 3 + 2]? = some (.bool (gw xs i).w)) : L = encW xs := by
  refine List.ext_getElem? fun j => ?_
  by_cases hj : j < xs.length * 3
  · obtain ⟨a, b, c⟩ := h (j / 3) (by omega)
    obtain ⟨a', b', c'⟩ := encW_get xs (j / 3) (by omega)
    have hm : j % 3 < 3 := Nat.mod_lt _ (by omega)
    rcases (by omega : j = j / 3 * 3 ∨ j = j / 3 * 3 + 1 ∨ j = j / 3 * 3 + 2) with e | e | e
    · rw [e, a, a']
    · rw [e, b, b']
    · rw [e, c, c']
  · rw [List.getElem?_eq_none (by omega), List.getElem?_eq_none (by rw [encW_len]; omega)]
theorem gw_set {xs : List Wt} {i : Nat} (hi : i < xs.length) (y : Wt) (k : Nat) : gw (xs.set i y) k = if k = i then y else gw xs k := by
  unfold gw
  simp only [List.getD, List.getElem?_set]
  by_cases h : k = i
  · subst h; simp [hi]
  · simp [h, Ne.symm h]
theorem gw_push (xs : List Wt) (x : Wt) : gw (xs ++ [x]) xs.length = x := by simp [gw, List.getD]
theorem gw_old (xs : List Wt) (x : Wt) {k : Nat} (hk : k < xs.length) : gw (xs ++ [x]) k = gw xs k := by simp [gw, List.getD, List.getElem?_append_left hk]
/-- Another depth. -/
def Wt.dp (x : Wt) (d : Int) : Wt := ⟨d, x.n, x.w⟩
def Wt.wr (x : Wt) (b : Bool) : Wt := ⟨x.d, x.n, b⟩
theorem encW_dp {xs : List Wt} {i : Nat} (hi : i < xs.length) (d : Int) : (encW xs).set (i * 3) (.int .i64 d) = encW (xs.set i ((gw xs i).dp d)) := by
  refine encW_ext (by rw [List.length_set, List.length_set, encW_len]) fun k hk => ?_
  rw [List.length_set] at hk
  obtain ⟨a, b, c⟩ := encW_get xs k hk
  rw [gw_set hi]
  by_cases e : k = i
  · subst e
    rw [if_pos rfl, List.getElem?_set_self (by rw [encW_len]; omega), List.getElem?_set_ne (by omega), List.getElem?_set_ne (by omega)]
    exact ⟨rfl, b, c⟩
  · rw [if_neg e, List.getElem?_set_ne (by omega), List.getElem?_set_ne (by omega), List.getElem?_set_ne (by omega)]
    exact ⟨a, b, c⟩
theorem encW_wr {xs : List Wt} {i : Nat} (hi : i < xs.length) (w : Bool) : (encW xs).set (i * 3 + 2) (.bool w) = encW (xs.set i ((gw xs i).wr w)) := by
  refine encW_ext (by rw [List.length_set, List.length_set, encW_len]) fun k hk => ?_
  rw [List.length_set] at hk
  obtain ⟨a, b, c⟩ := encW_get xs k hk
  rw [gw_set hi]
  by_cases e : k = i
  · subst e
    rw [if_pos rfl, List.getElem?_set_self (by rw [encW_len]; omega), List.getElem?_set_ne (by omega), List.getElem?_set_ne (by omega)]
    exact ⟨a, b, rfl⟩
  · rw [if_neg e, List.getElem?_set_ne (by omega), List.getElem?_set_ne (by omega), List.getElem?_set_ne (by omega)]
    exact ⟨a, b, c⟩
/-- An own row of wants of type E, at lo or above. -/
def OW (w : World) (lo : Nat) (E : TypeId) (v : Value) (xs : List Wt) : Prop := w.ownsRow lo E 3 v xs.length (encW xs)
section
variable {w w' : World} {lo E : Nat} {v : Value} {xs : List Wt}
theorem OW.form (h : OW w lo E v xs) : ∃ A c, v = .slice A xs.length c := by
  rcases h.2 with ⟨h1, h2⟩ | ⟨g, c, cur, h1, _⟩
  · exact ⟨none, 0, by rw [h1, h2]⟩
  · exact ⟨_, c, h1⟩
theorem OW.some_ (h : OW w lo E v xs) (hn : 0 < xs.length) : ∃ g c, v = .slice (some ⟨g, 0, none⟩) xs.length c ∧ lo ≤ g ∧ g < w.heap.size := by
  rcases h.2 with ⟨h1, h2⟩ | ⟨g, c, cur, h1, h3, h4, _⟩
  · omega
  · refine ⟨g, c, h1, h3, ?_⟩
    rcases Nat.lt_or_ge g w.heap.size with h5 | h5
    · exact h5
    · rw [Array.getElem?_eq_none h5] at h4; cases h4
theorem OW.wan {A : Option Addr} {n c : Nat} (h : OW w lo E (.slice A n c) xs) : Wan w w.heap.size A xs := fun i hi => by
  obtain ⟨g, c', e, hlo, hlt⟩ := h.some_ (by omega)
  injection e with e1 e2 e3
  subst e1
  obtain ⟨a, b, d⟩ := encW_get xs i hi
  subst e2 e3
  unfold OW at h
  refine ⟨g, 0, rfl, hlt, ?_, ?_, ?_⟩
  · rw [Nat.zero_add, h.cellAt (i * 3) (by omega), a]
  · rw [Nat.zero_add, h.cellAt (i * 3 + 1) (by omega), b]
  · rw [Nat.zero_add, h.cellAt (i * 3 + 2) (by omega), d]
theorem OW.nil (w : World) (lo E : Nat) : OW w lo E (.slice none 0 0) [] := World.ownsRow_nil _ _ _ _
theorem OW.frz {g c : Nat} (h : OW w lo E (.slice (some ⟨g, 0, none⟩) xs.length c) xs) (j : Nat) : w.frozen? ⟨g, j, none⟩ = false := by unfold OW at h; exact h.frozenAt j
theorem OW.dp {g c : Nat} (h : OW w lo E (.slice (some ⟨g, 0, none⟩) xs.length c) xs) {i : Nat} (hi : i < xs.length) (d : Int) : OW (w.setCell ⟨g, i * 3, none⟩ (.int .i64 d)) lo E (.slice (some ⟨g, 0, none⟩) xs.length c) (xs.set i ((gw xs i).dp d)) := by
  unfold OW at h ⊢
  rw [List.length_set, ← encW_dp hi]
  exact (h.stored _ _).1
theorem OW.wr {g c : Nat} (h : OW w lo E (.slice (some ⟨g, 0, none⟩) xs.length c) xs) {i : Nat} (hi : i < xs.length) (b : Bool) : OW (w.setCell ⟨g, i * 3 + 2, none⟩ (.bool b)) lo E (.slice (some ⟨g, 0, none⟩) xs.length c) (xs.set i ((gw xs i).wr b)) := by
  unfold OW at h ⊢
  rw [List.length_set, ← encW_wr hi]
  exact (h.stored _ _).1
theorem below_set (h : OW w lo E v xs) {g c : Nat} {j : Nat} {u : Value} (e : v = .slice (some ⟨g, 0, none⟩) xs.length c) : Below lo w (w.setCell ⟨g, j, none⟩ u) := by
  have := h.lt g (by rw [e]; rfl)
  exact (Below.refl _ _).setCell this.1 _
end
end Go.Proofs.Ytlplbpilpkmoaaa.pl
