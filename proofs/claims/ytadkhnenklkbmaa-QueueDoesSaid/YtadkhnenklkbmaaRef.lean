/- The document's queue by definition, in memory: its list; 'Push'. -/
import Derived.Test.YtadkhnenklkbmaaAwake
namespace Go.Proofs.Ytadkhnenklkbmaa
open Go.RowKit
set_option linter.unusedVariables false

def ck (x : KN) : List Value := [.int .i64 x.1, .int .i64 x.2]
def cellsK (L : List KN) : List Value := L.flatMap ck
theorem cellsK_len (L : List KN) : (cellsK L).length = L.length * 2 := by
  induction L with
  | nil => rfl
  | cons a l ih => simp only [cellsK, List.flatMap_cons, List.length_append, List.length_cons] at ih ⊢; rw [ih]; simp [ck]; omega
theorem cellsK_app (L M : List KN) : cellsK (L ++ M) = cellsK L ++ cellsK M := by simp [cellsK]
theorem cellsK_get (L : List KN) (k : Nat) (y : KN) (h : L[k]? = some y) : (cellsK L)[k * 2]? = some (.int .i64 y.1) ∧ (cellsK L)[k * 2 + 1]? = some (.int .i64 y.2) := by
  induction L generalizing k with
  | nil => simp at h
  | cons a l ih =>
    cases k with
    | zero => simp at h; subst h; simp [cellsK, ck]
    | succ k =>
      simp at h
      obtain ⟨h1, h2⟩ := ih k h
      have e : cellsK (a :: l) = .int .i64 a.1 :: .int .i64 a.2 :: cellsK l := by simp [cellsK, ck]
      rw [e]
      have e1 : (k + 1) * 2 = k * 2 + 1 + 1 := by omega
      have e2 : (k + 1) * 2 + 1 = k * 2 + 1 + 1 + 1 := by omega
      rw [e1, List.getElem?_cons_succ, List.getElem?_cons_succ]
      refine ⟨h1, ?_⟩
      rw [List.getElem?_cons_succ, List.getElem?_cons_succ]
      exact h2
theorem cellsK_one (L : List KN) : ∀ u ∈ cellsK L, u.oneCell' = true := by
  intro u hu
  simp only [cellsK, List.mem_flatMap, ck] at hu
  obtain ⟨x, _, hu⟩ := hu
  simp at hu
  rcases hu with rfl | rfl <;> rfl

/-- The list of the document's queue at R; its row lies at lo or behind. -/
def RQ (w : World) (R lo : Nat) (L : List KN) : Prop := ∃ v, w.cell? ⟨R, 0, none⟩ = some v ∧ w.frozen? ⟨R, 0, none⟩ = false ∧ w.ownsRow lo 55 2 v L.length (cellsK L) ∧ v.ownBlock ≠ some R
theorem RQ.lt {w : World} {R lo : Nat} {L : List KN} (h : RQ w R lo L) : R < w.heap.size := by
  obtain ⟨v, h, _⟩ := h; exact World.block_lt_of_cell? w _ h
theorem RQ.kept {w w' : World} {R lo : Nat} {L : List KN} (h : RQ w R lo L) (hb : ∀ k, k < w.heap.size → (k = R ∨ ∃ v, w.cell? ⟨R, 0, none⟩ = some v ∧ v.ownBlock = some k) → w'.heap[k]? = w.heap[k]?) : RQ w' R lo L := by
  obtain ⟨v, h0, h1, h2, h3⟩ := h
  have hR := hb R (World.block_lt_of_cell? w _ h0) (.inl rfl)
  refine ⟨v, (World.cell?_of_block hR).trans h0, (World.frozen?_of_block (a := ⟨R, 0, none⟩) hR).trans h1, ⟨h2.1, ?_⟩, h3⟩
  rcases h2.2 with e | ⟨g, cap, cur, hv, hlo, hg, r⟩
  · exact .inl e
  · exact .inr ⟨g, cap, cur, hv, hlo, by rw [hb g (Array.getElem?_eq_some_iff.1 hg).1 (.inr ⟨v, h0, by rw [hv]; rfl⟩)]; exact hg, r⟩
theorem RQ.below {w w' : World} {R lo : Nat} {L : List KN} (h : RQ w R lo L) (hb : Below w.heap.size w w') : RQ w' R lo L := h.kept fun k hk _ => hb.block k hk
/-- The slice and its cells, for a place that is there. -/
theorem RQ.get {w : World} {R lo : Nat} {L : List KN} (h : RQ w R lo L) : ∃ A c, w.cell? ⟨R, 0, none⟩ = some (.slice A L.length c) ∧ (∀ k (y : KN), L[k]? = some y → ∃ b, A = some ⟨b, 0, none⟩ ∧ b < w.heap.size ∧ w.cell? ⟨b, k * 2, none⟩ = some (.int .i64 y.1) ∧ w.cell? ⟨b, k * 2 + 1, none⟩ = some (.int .i64 y.2)) ∧ L.length ≤ c ∧ c ≤ maxLen := by
  obtain ⟨v, h0, h1, h2, h3⟩ := h
  rcases h2.2 with ⟨e, hz⟩ | ⟨g, cap, cur, hv, hlo, hg, hc, hm, hs, ht⟩
  · refine ⟨none, 0, by rw [h0, e, hz], fun k y hy => ?_, by omega, by unfold maxLen; omega⟩
    have := (List.getElem?_eq_some_iff.1 hy).1
    omega
  · refine ⟨some ⟨g, 0, none⟩, cap, by rw [h0, hv], fun k y hy => ⟨g, rfl, (Array.getElem?_eq_some_iff.1 hg).1, ?_, ?_⟩, hc, hm⟩
    all_goals
      have hcell := World.ownsRow.cells h2 (g := g) (by rw [hv]; rfl)
      obtain ⟨c0, c1⟩ := cellsK_get L k y hy
    · have := hcell _ _ c0
      rwa [Go.WideShapes.add_plain, Nat.zero_add] at this
    · have := hcell _ _ c1
      rwa [Go.WideShapes.add_plain, Nat.zero_add] at this

theorem ins_app_le {x : KN} {A B : List KN} (h : ∀ a ∈ A, ¬ x.1 < a.1) : ins x (A ++ B) = A ++ ins x B := by
  induction A with
  | nil => rfl
  | cons a A ih =>
    have h1 := h a (by simp)
    have h2 := ih (fun b hb => h b (by simp [hb]))
    simp [ins, h1, h2]
theorem ins_app_gt {x : KN} {A B : List KN} (h : ∃ a ∈ A, x.1 < a.1) : ins x (A ++ B) = ins x A ++ B := by
  induction A with
  | nil => obtain ⟨a, ha, _⟩ := h; simp at ha
  | cons a A ih =>
    by_cases h1 : x.1 < a.1
    · simp [ins, h1]
    · have h2 := ih (by
        obtain ⟨b, hb, hx⟩ := h
        rcases List.mem_cons.1 hb with rfl | hb
        · exact absurd hx h1
        · exact ⟨b, hb, hx⟩)
      simp [ins, h1, h2]
/-- What the loop of 'Push' has made of the first k. -/
def PM (x : KN) (L : List KN) (k : Nat) (d : Bool) (M : List KN) : Prop :=
  if d then (∃ a ∈ L.take k, x.1 < a.1) ∧ M = ins x (L.take k) else (∀ a ∈ L.take k, ¬ x.1 < a.1) ∧ M = L.take k
theorem take_succ_k {L : List KN} {k : Nat} {y : KN} (h : L[k]? = some y) : L.take (k + 1) = L.take k ++ [y] := by
  obtain ⟨hk, rfl⟩ := List.getElem?_eq_some_iff.1 h
  exact List.take_succ_eq_append_getElem hk
theorem PM.done {x y : KN} {L M : List KN} {k : Nat} (h : PM x L k true M) (hy : L[k]? = some y) : PM x L (k + 1) true (M ++ [y]) := by
  unfold PM at *
  rw [if_pos rfl] at *
  obtain ⟨⟨a, ha, hx⟩, rfl⟩ := h
  rw [take_succ_k hy]
  exact ⟨⟨a, by simp [ha], hx⟩, (ins_app_gt ⟨a, ha, hx⟩).symm⟩
theorem PM.put {x y : KN} {L M : List KN} {k : Nat} (h : PM x L k false M) (hy : L[k]? = some y) (hx : x.1 < y.1) : PM x L (k + 1) true (M ++ [x] ++ [y]) := by
  unfold PM at *
  rw [if_neg (by decide)] at h
  rw [if_pos rfl]
  obtain ⟨h1, rfl⟩ := h
  rw [take_succ_k hy]
  exact ⟨⟨y, by simp, hx⟩, by rw [ins_app_le h1, show ins x [y] = [x, y] by simp [ins, hx]]; simp⟩
theorem PM.wait {x y : KN} {L M : List KN} {k : Nat} (h : PM x L k false M) (hy : L[k]? = some y) (hx : ¬ x.1 < y.1) : PM x L (k + 1) false (M ++ [y]) := by
  unfold PM at *
  rw [if_neg (by decide)] at *
  obtain ⟨h1, rfl⟩ := h
  rw [take_succ_k hy]
  refine ⟨fun a ha => ?_, rfl⟩
  rcases List.mem_append.1 ha with ha | ha
  · exact h1 a ha
  · simp at ha; subst ha; exact hx
theorem PM.end_ {x : KN} {L M : List KN} {d : Bool} (h : PM x L L.length d M) : (if d then M else M ++ [x]) = ins x L := by
  unfold PM at h
  cases d
  · rw [if_neg (by decide)] at h ⊢
    obtain ⟨h1, rfl⟩ := h
    rw [List.take_of_length_le (Nat.le_refl _)] at h1 ⊢
    have := ins_app_le (B := []) h1
    simpa [ins] using this.symm
  · rw [if_pos rfl] at h ⊢
    rw [h.2, List.take_of_length_le (Nat.le_refl _)]
theorem PM.len {x : KN} {L M : List KN} {k : Nat} {d : Bool} (h : PM x L k d M) : M.length ≤ L.length + 1 := by
  unfold PM at h
  have := List.length_take_le k L
  have h2 : (L.take k).length ≤ L.length := by rw [List.length_take]; omega
  cases d
  · rw [if_neg (by decide)] at h; rw [h.2]; omega
  · rw [if_pos rfl] at h; rw [h.2, ins_length]; omega
end Go.Proofs.Ytadkhnenklkbmaa
