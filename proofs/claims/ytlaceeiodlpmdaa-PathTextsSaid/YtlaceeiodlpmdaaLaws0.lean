/- Plain facts for the laws: texts that are less, and what parsing a path's text gives. -/
import Derived.Test.YtlaceeiodlpmdaaText
namespace Go.Proofs.Ytlaceeiodlpmdaa
theorem bl_irrefl (a : Bs) : Op.bytesLess a a = false := by
  induction a with
  | nil => rfl
  | cons x a ih => simp [Op.bytesLess, ih]
theorem bl_total (a b : Bs) (h : a ≠ b) : Op.bytesLess a b = !Op.bytesLess b a := by
  induction a generalizing b with
  | nil =>
    cases b with
    | nil => exact absurd rfl h
    | cons y b => rfl
  | cons x a ih =>
    cases b with
    | nil => rfl
    | cons y b =>
      by_cases hxy : x = y
      · subst hxy
        simp [Op.bytesLess, ih b (fun e => h (by rw [e]))]
      · have h1 : x.toNat ≠ y.toNat := fun e => hxy (UInt8.toNat_inj.1 e)
        have h2 : (x == y) = false := by simpa using hxy
        have h3 : (y == x) = false := by simpa using fun e => hxy e.symm
        simp only [Op.bytesLess, h2, h3, Bool.false_and, Bool.or_false]
        rcases Nat.lt_or_ge x.toNat y.toNat with h | h
        · have a1 : x < y := UInt8.lt_iff_toNat_lt.2 h
          have a2 : ¬ y < x := fun e => by have := UInt8.lt_iff_toNat_lt.1 e; omega
          simp [a1, a2]
        · have a1 : y < x := UInt8.lt_iff_toNat_lt.2 (by omega)
          have a2 : ¬ x < y := fun e => by have := UInt8.lt_iff_toNat_lt.1 e; omega
          simp [a1, a2]
theorem bl_trans (a b c : Bs) (h1 : Op.bytesLess a b = true) (h2 : Op.bytesLess b c = true) : Op.bytesLess a c = true := by
  induction a generalizing b c with
  | nil =>
    cases c with
    | nil => cases b <;> simp [Op.bytesLess] at h2
    | cons z c => rfl
  | cons x a ih =>
    cases b with
    | nil => simp [Op.bytesLess] at h1
    | cons y b =>
      cases c with
      | nil => simp [Op.bytesLess] at h2
      | cons z c =>
        simp only [Op.bytesLess, Bool.or_eq_true, Bool.and_eq_true, decide_eq_true_eq, beq_iff_eq, UInt8.lt_iff_toNat_lt] at h1 h2 ⊢
        rcases h1 with h1 | ⟨rfl, h1⟩
        · rcases h2 with h2 | ⟨rfl, h2⟩
          · exact .inl (by omega)
          · exact .inl h1
        · rcases h2 with h2 | ⟨rfl, h2⟩
          · exact .inl h2
          · exact .inr ⟨rfl, ih b c h1 h2⟩
theorem bl_more (a b : Bs) : Op.bytesLess (a ++ b) a = false := by
  induction a with
  | nil => cases b <;> rfl
  | cons x a ih => simp [Op.bytesLess, ih]
theorem bl_less (a b : Bs) (h : b ≠ []) : Op.bytesLess a (a ++ b) = true := by
  induction a with
  | nil => cases b with
    | nil => exact absurd rfl h
    | cons _ _ => rfl
  | cons x a ih => simp [Op.bytesLess, ih]
end Go.Proofs.Ytlaceeiodlpmdaa
