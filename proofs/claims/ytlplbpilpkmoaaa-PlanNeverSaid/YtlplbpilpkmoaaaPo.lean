/- Wants, their order and who bars whom: the mathematics. -/
import Derived.Lib.Hide
namespace Go.Proofs.Ytlplbpilpkmoaaa.pl
set_option linter.unusedVariables false
set_option linter.unusedSimpArgs false

structure Wt where
  d : Int
  n : Int
  w : Bool
theorem Wt.same {x y : Wt} (h1 : x.d = y.d) (h2 : x.n = y.n) (h3 : x.w = true ↔ y.w = true) : x = y := by
  cases x; cases y
  simp only at h1 h2 h3
  subst h1 h2
  rw [Bool.eq_iff_iff.2 h3]
def wlt (x y : Wt) : Prop := x.d < y.d ∨ (x.d = y.d ∧ x.n < y.n)
theorem wlt_irr (x : Wt) : ¬ wlt x x := by unfold wlt; omega
theorem wlt_asym {x y : Wt} (h : wlt x y) : ¬ wlt y x := by unfold wlt at *; omega
theorem wlt_trans {x y z : Wt} (h : wlt x y) (h2 : wlt y z) : wlt x z := by unfold wlt at *; omega
theorem wlt_tri {x y : Wt} (h : ¬ wlt x y) : wlt y x ∨ (x.d = y.d ∧ x.n = y.n) := by unfold wlt at *; omega
theorem rise_ext : ∀ o o' : List Wt, o.Pairwise wlt → o'.Pairwise wlt → (∀ x, x ∈ o ↔ x ∈ o') → o = o'
  | [], [], _, _, _ => rfl
  | [], y :: o', _, _, h => by have := (h y).2 (by simp); simp at this
  | x :: o, [], _, _, h => by have := (h x).1 (by simp); simp at this
  | x :: o, y :: o', h1, h2, h => by
    obtain ⟨a1, a2⟩ := List.pairwise_cons.1 h1
    obtain ⟨b1, b2⟩ := List.pairwise_cons.1 h2
    have e : x = y := by
      rcases List.mem_cons.1 ((h x).1 (by simp)) with e | e
      · exact e
      · rcases List.mem_cons.1 ((h y).2 (by simp)) with e2 | e2
        · exact e2.symm
        · exact absurd (a1 y e2) (wlt_asym (b1 x e))
    subst e
    rw [rise_ext o o' a2 b2 fun z => ?_]
    constructor
    · intro hz
      rcases List.mem_cons.1 ((h z).1 (by simp [hz])) with e | e
      · subst e; exact absurd (a1 z hz) (wlt_irr z)
      · exact e
    · intro hz
      rcases List.mem_cons.1 ((h z).2 (by simp [hz])) with e | e
      · subst e; exact absurd (b1 z hz) (wlt_irr z)
      · exact e
/-- o tells of each number of l the least depth, and whether one is for writing. -/
structure Summ (l o : List Wt) : Prop where
  all : ∀ y ∈ l, ∃ x ∈ o, x.n = y.n
  deep : ∀ x ∈ o, ∃ y ∈ l, y.n = x.n ∧ y.d = x.d
  least : ∀ x ∈ o, ∀ y ∈ l, y.n = x.n → x.d ≤ y.d
  wr : ∀ x ∈ o, (x.w = true ↔ ∃ y ∈ l, y.n = x.n ∧ y.w = true)
theorem Summ.one {l o o' : List Wt} (h : Summ l o) (h' : Summ l o') {x y : Wt} (hx : x ∈ o) (hy : y ∈ o') (e : x.n = y.n) : x = y := by
  obtain ⟨u, u1, u2, u3⟩ := h.deep x hx
  obtain ⟨v, v1, v2, v3⟩ := h'.deep y hy
  have h1 := h.least x hx v v1 (v2.trans e.symm)
  have h2 := h'.least y hy u u1 (u2.trans e)
  refine Wt.same (by omega) e ?_
  rw [h.wr x hx, h'.wr y hy, e]
theorem Summ.sub {l o o' : List Wt} (h : Summ l o) (h' : Summ l o') {x : Wt} (hx : x ∈ o) : x ∈ o' := by
  obtain ⟨u, u1, u2, u3⟩ := h.deep x hx
  obtain ⟨y, hy, e⟩ := h'.all u u1
  rw [h.one h' hx hy (u2.symm.trans e.symm)]
  exact hy
/-- Only who is in the rows counts. -/
theorem Summ.cong {l l' o o' : List Wt} (h : Summ l o) (hl : ∀ x, x ∈ l ↔ x ∈ l') (ho : ∀ x, x ∈ o ↔ x ∈ o') : Summ l' o' := by
  refine ⟨fun y hy => ?_, fun x hx => ?_, fun x hx y hy e => h.least x ((ho x).2 hx) y ((hl y).2 hy) e, fun x hx => ?_⟩
  · obtain ⟨x, a, b⟩ := h.all y ((hl y).2 hy); exact ⟨x, (ho x).1 a, b⟩
  · obtain ⟨y, a, b⟩ := h.deep x ((ho x).2 hx); exact ⟨y, (hl y).1 a, b⟩
  · rw [h.wr x ((ho x).2 hx)]
    exact ⟨fun ⟨y, a, b⟩ => ⟨y, (hl y).1 a, b⟩, fun ⟨y, a, b⟩ => ⟨y, (hl y).2 a, b⟩⟩
theorem summ_nil : Summ [] [] := ⟨fun y hy => by simp at hy, fun y hy => by simp at hy, fun y hy => by simp at hy, fun y hy => by simp at hy⟩
/-- A number that was not there. -/
theorem Summ.more {l o : List Wt} (h : Summ l o) (y : Wt) (hn : ∀ x ∈ o, x.n ≠ y.n) : Summ (l ++ [y]) (o ++ [y]) := by
  have hl : ∀ z ∈ l, z.n ≠ y.n := fun z hz e => by obtain ⟨x, a, b⟩ := h.all z hz; exact hn x a (b.trans e)
  refine ⟨fun z hz => ?_, fun x hx => ?_, fun x hx z hz e => ?_, fun x hx => ?_⟩
  · rcases List.mem_append.1 hz with hz | hz
    · obtain ⟨x, a, b⟩ := h.all z hz; exact ⟨x, by simp [a], b⟩
    · exact ⟨y, by simp, by rw [List.mem_singleton.1 hz]⟩
  · rcases List.mem_append.1 hx with hx | hx
    · obtain ⟨z, a, b⟩ := h.deep x hx; exact ⟨z, by simp [a], b⟩
    · rw [List.mem_singleton.1 hx]; exact ⟨y, by simp, rfl, rfl⟩
  · rcases List.mem_append.1 hx with hx | hx
    · rcases List.mem_append.1 hz with hz | hz
      · exact h.least x hx z hz e
      · rw [List.mem_singleton.1 hz] at e; exact absurd e.symm (hn x hx)
    · rw [List.mem_singleton.1 hx] at e ⊢
      rcases List.mem_append.1 hz with hz | hz
      · exact absurd e (hl z hz)
      · rw [List.mem_singleton.1 hz]; exact Int.le_refl _
  · rcases List.mem_append.1 hx with hx | hx
    · rw [h.wr x hx]
      constructor
      · rintro ⟨z, a, b⟩; exact ⟨z, by simp [a], b⟩
      · rintro ⟨z, a, b, c⟩
        rcases List.mem_append.1 a with a | a
        · exact ⟨z, a, b, c⟩
        · rw [List.mem_singleton.1 a] at b; exact absurd b.symm (hn x hx)
    · rw [List.mem_singleton.1 hx]
      constructor
      · intro e; exact ⟨y, by simp, rfl, e⟩
      · rintro ⟨z, a, b, c⟩
        rcases List.mem_append.1 a with a | a
        · exact absurd b (hl z a)
        · rw [List.mem_singleton.1 a] at c; exact c
/-- One of a number that is there: x is what tells of it now, o' the row behind. -/
theorem Summ.again {l o o' : List Wt} (h : Summ l o) {x x' y : Wt} (hx : x ∈ o) (hn : x.n = y.n) (hn' : x'.n = y.n) (hd : x'.d = if y.d < x.d then y.d else x.d) (hw : x'.w = true ↔ x.w = true ∨ y.w = true)
    (ho : ∀ z, z ∈ o' ↔ z = x' ∨ (z ∈ o ∧ z.n ≠ y.n)) : Summ (l ++ [y]) o' := by
  have hle : x'.d ≤ y.d ∧ x'.d ≤ x.d ∧ (x'.d = y.d ∨ x'.d = x.d) := by rw [hd]; split <;> omega
  refine ⟨fun z hz => ?_, fun u hu => ?_, fun u hu z hz e => ?_, fun u hu => ?_⟩
  · by_cases e : z.n = y.n
    · exact ⟨x', (ho _).2 (.inl rfl), hn'.trans e.symm⟩
    · rcases List.mem_append.1 hz with hz | hz
      · obtain ⟨u, a, b⟩ := h.all z hz; exact ⟨u, (ho u).2 (.inr ⟨a, fun e2 => e (b.symm.trans e2)⟩), b⟩
      · rw [List.mem_singleton.1 hz] at e; exact absurd rfl e
  · rcases (ho u).1 hu with e | ⟨a, b⟩
    · rw [e]
      rcases hle.2.2 with e2 | e2
      · exact ⟨y, by simp, hn'.symm, e2.symm⟩
      · obtain ⟨z, a, b, c⟩ := h.deep x hx; exact ⟨z, by simp [a], by rw [b, hn, hn'], by rw [c, e2]⟩
    · obtain ⟨z, c, d⟩ := h.deep u a; exact ⟨z, by simp [c], d⟩
  · rcases (ho u).1 hu with e1 | ⟨a, b⟩
    · rw [e1] at e ⊢
      rcases List.mem_append.1 hz with hz | hz
      · have := h.least x hx z hz (by rw [e, hn', hn]); omega
      · rw [List.mem_singleton.1 hz]; exact hle.1
    · rcases List.mem_append.1 hz with hz | hz
      · exact h.least u a z hz e
      · rw [List.mem_singleton.1 hz] at e; exact absurd e.symm b
  · rcases (ho u).1 hu with e1 | ⟨a, b⟩
    · rw [e1, hw, h.wr x hx]
      constructor
      · rintro (⟨z, a, b, c⟩ | e)
        · exact ⟨z, by simp [a], by rw [b, hn, hn'], c⟩
        · exact ⟨y, by simp, hn'.symm, e⟩
      · rintro ⟨z, a, b, c⟩
        rcases List.mem_append.1 a with a | a
        · exact .inl ⟨z, a, by rw [b, hn', hn], c⟩
        · rw [List.mem_singleton.1 a] at c; exact .inr c
    · rw [h.wr u a]
      constructor
      · rintro ⟨z, c, d⟩; exact ⟨z, by simp [c], d⟩
      · rintro ⟨z, c, d, e⟩
        rcases List.mem_append.1 c with c | c
        · exact ⟨z, c, d, e⟩
        · rw [List.mem_singleton.1 c] at d; exact absurd d.symm b
/-- The order of a row of wants. -/
structure IsOrd (l o : List Wt) : Prop where
  summ : Summ l o
  rise : o.Pairwise wlt
theorem IsOrd.uniq {l o o' : List Wt} (h : IsOrd l o) (h' : IsOrd l o') : o = o' := rise_ext o o' h.rise h'.rise fun x => ⟨h.summ.sub h'.summ, h'.summ.sub h.summ⟩
theorem IsOrd.cong {l l' o : List Wt} (h : IsOrd l o) (hl : ∀ x, x ∈ l ↔ x ∈ l') : IsOrd l' o := ⟨h.summ.cong hl fun _ => Iff.rfl, h.rise⟩
theorem IsOrd.self {l o : List Wt} (h : IsOrd l o) : IsOrd o o := by
  refine ⟨⟨fun y hy => ⟨y, hy, rfl⟩, fun x hx => ⟨x, hx, rfl, rfl⟩, fun x hx y hy e => ?_, fun x hx => ⟨fun e => ⟨x, hx, rfl, e⟩, fun ⟨y, hy, e, hw⟩ => ?_⟩⟩, h.rise⟩
  · rw [h.summ.one h.summ hx hy e.symm]; exact Int.le_refl _
  · rw [h.summ.one h.summ hx hy e.symm]; exact hw
theorem IsOrd.idem {l o o' : List Wt} (h : IsOrd l o) (h' : IsOrd o o') : o' = o := h'.uniq h.self
theorem IsOrd.at_ {l o : List Wt} (h : IsOrd l o) {i j : Nat} (hij : i < j) (hj : j < o.length) : wlt (o[i]'(by omega)) o[j] := List.pairwise_iff_getElem.1 h.rise i j (by omega) hj hij
theorem IsOrd.nums {l o : List Wt} (h : IsOrd l o) {i j : Nat} (hi : i < o.length) (hj : j < o.length) (e : o[i].n = o[j].n) : i = j := by
  have e2 := h.summ.one h.summ (List.getElem_mem hi) (List.getElem_mem hj) e
  rcases Nat.lt_trichotomy i j with h1 | h1 | h1
  · have := h.at_ h1 hj; rw [e2] at this; exact absurd this (wlt_irr _)
  · exact h1
  · have := h.at_ h1 hi; rw [e2] at this; exact absurd this (wlt_irr _)
/-- Who bars whom. -/
def Bars (a b : List Wt) : Prop := ∃ x ∈ a, ∃ y ∈ b, x.n = y.n ∧ (x.w = true ∨ y.w = true)
theorem Bars.symm {a b : List Wt} (h : Bars a b) : Bars b a := by
  obtain ⟨x, hx, y, hy, e, hw⟩ := h
  exact ⟨y, hy, x, hx, e.symm, hw.symm⟩
theorem bars_nil (a : List Wt) : ¬ Bars a [] := fun ⟨x, hx, y, hy, _⟩ => by simp at hy
theorem bars_reads {a b : List Wt} (ha : ∀ x ∈ a, x.w = false) (hb : ∀ x ∈ b, x.w = false) : ¬ Bars a b := fun ⟨x, hx, y, hy, _, hw⟩ => by
  rw [ha x hx, hb y hy] at hw; simp at hw
theorem bars_ord {a b a' b' : List Wt} (ha : Summ a a') (hb : Summ b b') : Bars a b ↔ Bars a' b' := by
  constructor
  · rintro ⟨x, hx, y, hy, e, hw⟩
    obtain ⟨u, hu, e1⟩ := ha.all x hx
    obtain ⟨v, hv, e2⟩ := hb.all y hy
    refine ⟨u, hu, v, hv, by rw [e1, e2, e], hw.imp (fun h => (ha.wr u hu).2 ⟨x, hx, e1.symm, h⟩) (fun h => (hb.wr v hv).2 ⟨y, hy, e2.symm, h⟩)⟩
  · rintro ⟨u, hu, v, hv, e, hw⟩
    rcases hw with hw | hw
    · obtain ⟨x, hx, e1, h1⟩ := (ha.wr u hu).1 hw
      obtain ⟨y, hy, e2, _⟩ := hb.deep v hv
      exact ⟨x, hx, y, hy, by rw [e1, e2, e], .inl h1⟩
    · obtain ⟨y, hy, e2, h1⟩ := (hb.wr v hv).1 hw
      obtain ⟨x, hx, e1, _⟩ := ha.deep u hu
      exact ⟨x, hx, y, hy, by rw [e1, e2, e], .inr h1⟩
/-- Taking the least one out, again and again. -/
structure Sel (one out rest : List Wt) : Prop where
  mem : ∀ x, x ∈ one ↔ x ∈ out ∨ x ∈ rest
  rise : out.Pairwise wlt
  below : ∀ x ∈ out, ∀ y ∈ rest, wlt x y
  nums : rest.Pairwise fun x y => x.n ≠ y.n
theorem sel_start {one : List Wt} (h : one.Pairwise fun x y => x.n ≠ y.n) : Sel one [] one := ⟨fun x => by simp, .nil, fun x hx => by simp at hx, h⟩
theorem Sel.step {one out A B : List Wt} {x : Wt} (h : Sel one out (A ++ x :: B)) (hx : ∀ y ∈ A ++ x :: B, ¬ wlt y x) : Sel one (out ++ [x]) (A ++ B) := by
  have hn := List.pairwise_append.1 h.nums
  have hn2 := List.pairwise_cons.1 hn.2.1
  refine ⟨fun z => ?_, ?_, fun u hu v hv => ?_, ?_⟩
  · rw [h.mem z]
    simp only [List.mem_append, List.mem_cons, List.not_mem_nil, or_false]
    constructor
    · rintro (h1 | h1 | h1 | h1)
      · exact .inl (.inl h1)
      · exact .inr (.inl h1)
      · exact .inl (.inr h1)
      · exact .inr (.inr h1)
    · rintro ((h1 | h1) | h1 | h1)
      · exact .inl h1
      · exact .inr (.inr (.inl h1))
      · exact .inr (.inl h1)
      · exact .inr (.inr (.inr h1))
  · refine List.pairwise_append.2 ⟨h.rise, by simp, fun u hu v hv => ?_⟩
    rw [List.mem_singleton.1 hv]
    exact h.below u hu x (by simp)
  · have hv2 : v ∈ A ++ x :: B := by
      rcases List.mem_append.1 hv with h1 | h1
      · simp [h1]
      · simp [h1]
    rcases List.mem_append.1 hu with h1 | h1
    · exact h.below u h1 v hv2
    · rw [List.mem_singleton.1 h1]
      have hne : v.n ≠ x.n := by
        rcases List.mem_append.1 hv with h2 | h2
        · exact hn.2.2 v h2 x (by simp)
        · exact (hn2.1 v h2).symm
      rcases wlt_tri (hx v hv2) with h3 | ⟨_, h3⟩
      · exact h3
      · exact absurd h3 hne
  · refine List.pairwise_append.2 ⟨hn.1, hn2.2, fun u hu v hv => hn.2.2 u hu v (by simp [hv])⟩
theorem Sel.ends {l one out : List Wt} (h : Sel one out []) (hs : Summ l one) : IsOrd l out := ⟨hs.cong (fun _ => Iff.rfl) (fun x => by rw [h.mem x]; simp), h.rise⟩
end Go.Proofs.Ytlplbpilpkmoaaa.pl
