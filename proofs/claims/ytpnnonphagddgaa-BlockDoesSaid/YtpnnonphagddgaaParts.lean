/- Written in two parts: the same body. -/
import Derived.Test.YtpnnonphagddgaaInts
namespace Go.Proofs.Ytpnnonphagddgaa
open Go.RowKit
set_option linter.unusedVariables false
set_option linter.unusedSimpArgs false

theorem wf16 {x : Int} (h : (Lit.int .u16 x).wf = true) : 0 ≤ x ∧ x ≤ 65535 := by
  simp only [Lit.wf, Bool.and_eq_true, decide_eq_true_eq] at h
  exact ⟨h.1, h.2⟩
theorem AB.ext' {a b : AB} (h1 : a.size = b.size) (h2 : ∀ k, a.th k = b.th k) (h3 : ∀ i, a.dat i = b.dat i) : a = b := by
  obtain ⟨n, t, d⟩ := a
  obtain ⟨m, u, e⟩ := b
  obtain rfl : n = m := h1
  obtain rfl : t = u := funext h2
  obtain rfl : d = e := funext h3
  rfl
theorem wrB_split (b : AB) (s k q : Nat) (f : Nat → UInt8) : wrB (wrB b s k f) (s + k) q (fun i => f (k + i)) = wrB b s (k + q) f := by
  apply AB.ext'
  · unfold wrB
    dsimp only
    split <;> split <;> (try split) <;> omega
  · intro x
    unfold wrB thW
    dsimp only
    rw [Bool.or_assoc]
    congr 1
    rw [← Bool.decide_or]
    apply decide_eq_decide.2
    constructor
    · rintro (⟨h1, h2, h3⟩ | ⟨h1, h2, h3⟩) <;> omega
    · rintro ⟨h1, h2, h3⟩
      by_cases h : 16 * x < s + k
      · by_cases h0 : k = 0
        · exact Or.inr (by omega)
        · exact Or.inl (by omega)
      · exact Or.inr (by omega)
  · intro i
    exact (over_step i).symm
theorem wrB_congr (b : AB) (s k : Nat) {f g : Nat → UInt8} (h : ∀ i, i < k → f i = g i) : wrB b s k f = wrB b s k g := by
  apply AB.ext'
  · rfl
  · intro x; rfl
  · intro i
    show over _ _ _ _ _ = over _ _ _ _ _
    unfold over
    by_cases h1 : s ≤ i ∧ i < s + k
    · rw [if_pos h1, if_pos h1, h _ (by omega)]
    · rw [if_neg h1, if_neg h1]
theorem cnt_max (N : Nat) (f : Nat → Bool) : cnt N f ≤ N := by
  unfold cnt
  exact Nat.le_trans (List.length_filter_le _ _) (by simp)
/-- How many bytes are written where there is room. -/
def full (off : Int) (len : Nat) : Nat := if off < 65536 then min len (65536 - off.toNat) else 0
theorem WR_full {b : AB} {off : Int} {len p : Nat} {err : Int} (h : WR b b.n 65536 off len p err) (h0 : 0 ≤ off) : p = full off len := by
  unfold Go.Proofs.Ytpnnonphagddgaa.full
  rcases h with ⟨h1, _⟩ | ⟨h1, h2, h3, _⟩ | ⟨h1, h2, h3, _⟩ | ⟨h1, h2, h3, h4, _⟩
  · omega
  · subst h2; rw [h3]; split <;> simp
  · rw [if_neg (by omega)]; exact h3
  · rw [if_pos h2]
    refine h4.eq ⟨Nat.le_refl _, fun q hq => Or.inr ?_, Or.inl rfl⟩
    unfold usedW
    have := cnt_max 4096 (thW b off.toNat (off.toNat + q))
    omega
theorem parts_eq {off : Int} {len k : Nat} (h0 : 0 ≤ off) (h1 : off ≤ 65536) (hk : k ≤ len) (f : Nat → UInt8) :
    wr (wr AB.empty off (full off k) f) (off + (k : Int)) (full (off + (k : Int)) (len - k)) (fun i => f (k + i)) = wr AB.empty off (full off len) f := by
  unfold Go.Proofs.Ytpnnonphagddgaa.wr
  by_cases h : off + (k : Int) < 65536
  · have e1 : full off k = k := by unfold full; rw [if_pos (by omega)]; omega
    have e2 : full off len = k + full (off + (k : Int)) (len - k) := by unfold full; rw [if_pos (by omega), if_pos h]; omega
    rw [e1, e2, show (off + (k : Int)).toNat = off.toNat + k from by omega]
    exact wrB_split _ _ _ _ _
  · have e0 : full (off + (k : Int)) (len - k) = 0 := by unfold full; rw [if_neg h]
    have e2 : full off len = full off k := by
      unfold full
      by_cases h2 : off < 65536
      · rw [if_pos h2, if_pos h2]; omega
      · rw [if_neg h2, if_neg h2]
    rw [e0, e2]
    exact wrB_zero _ _ _

theorem sub_bytes {w : World} {F : Nat → Prop} {b off n K : Nat} {f : Nat → UInt8} (h : BytesIn w F (some ⟨b, off, none⟩) n f) (i : Nat) (hi : K + i < n) : ∃ b' off', (some ⟨b, off + K, none⟩ : Option Addr) = some ⟨b', off', none⟩ ∧ ¬ F b' ∧ b' < w.heap.size ∧ w.cell? ⟨b', off' + i, none⟩ = some (U8 (f (K + i))) := by
  obtain ⟨b', off', e, hF, hl, h0⟩ := h (K + i) hi
  injection e with e
  injection e with e1 e2
  subst e1; subst e2
  exact ⟨b, off + K, rfl, hF, hl, by rw [Nat.add_assoc]; exact h0⟩
theorem own_ne {w : World} {b e sz n : Nat} {v : Value} {L : List Value} (h : w.ownsRow b e sz v n L) : v.ownBlock ≠ none ∨ v.ownBlock = none := by
  by_cases h : v.ownBlock = none
  · exact Or.inr h
  · exact Or.inl h
end Go.Proofs.Ytpnnonphagddgaa
