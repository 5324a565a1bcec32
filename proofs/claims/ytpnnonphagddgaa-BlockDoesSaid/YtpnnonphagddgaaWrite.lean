/- Write. -/
import Derived.Test.YtpnnonphagddgaaCut
namespace Go.Proofs.Ytpnnonphagddgaa
open Go.RowKit
set_option linter.unusedVariables false
set_option linter.unusedSimpArgs false

/-- Bytes that lie in memory, in no block of F. -/
def BytesIn (w : World) (F : Nat → Prop) (A : Option Addr) (n : Nat) (f : Nat → UInt8) : Prop := ∀ i, i < n → ∃ b off, A = some ⟨b, off, none⟩ ∧ ¬ F b ∧ b < w.heap.size ∧ w.cell? ⟨b, off + i, none⟩ = some (U8 (f i))
theorem BytesIn.only {w w' : World} {F : Nat → Prop} {A : Option Addr} {n : Nat} {f : Nat → UInt8} (h : BytesIn w F A n f) (ho : Only F w w') : BytesIn w' F A n f := fun i hi => by
  obtain ⟨b, off, e, hF, hl, h0⟩ := h i hi
  exact ⟨b, off, e, hF, Nat.lt_of_lt_of_le hl ho.size, (World.cell?_of_block (a := ⟨b, off + i, none⟩) (ho.block b hl hF)).trans h0⟩
theorem BytesIn.part {w : World} {F : Nat → Prop} {b off n p T : Nat} {f : Nat → UInt8} (h : BytesIn w F (some ⟨b, off, none⟩) n f) (hT : T ≤ n) : Bytes w w.heap.size (some ⟨b, off + p, none⟩) (T - p) (fun i => f (p + i)) := fun i hi => by
  obtain ⟨b', off', e, hF, hl, h0⟩ := h (p + i) (by omega)
  injection e with e
  injection e with e1 e2
  subst e1; subst e2
  exact ⟨b, off + p, rfl, hl, by rw [Nat.add_assoc]; exact h0⟩

def thW (b : AB) (s a : Nat) : Nat → Bool := fun k => b.th k || decide (s < a ∧ s < 16 * k + 16 ∧ 16 * k < a)
def usedW (b : AB) (used s a : Nat) : Nat := used + cnt 4096 (thW b s a) - b.n
def okW (b : AB) (used room s q : Nat) : Prop := thW b s (s + q) ((s + q) / 16) = true ∨ usedW b used s (s + q) < room
/-- Where writing ends. -/
structure IsStop (b : AB) (used room s T p : Nat) : Prop where
  le : p ≤ T
  ok : ∀ q, q < p → okW b used room s q
  stop : p = T ∨ ¬ okW b used room s p
theorem IsStop.eq {b : AB} {used room s T p q : Nat} (h : IsStop b used room s T p) (k : IsStop b used room s T q) : p = q := by
  rcases Nat.lt_trichotomy p q with hl | e | hl
  · exfalso
    rcases h.stop with e | e
    · have := k.le; omega
    · exact e (k.ok p hl)
  · exact e
  · exfalso
    rcases k.stop with e | e
    · have := h.le; omega
    · exact e (h.ok q hl)
def wrB (b : AB) (s p : Nat) (f : Nat → UInt8) : AB := ⟨if p = 0 then b.size else max b.size (s + p), thW b s (s + p), over b.dat s p f⟩
theorem thW_self (b : AB) (s : Nat) (k : Nat) : thW b s (s + 0) k = b.th k := by
  unfold thW
  have : ¬ (s < s + 0 ∧ s < 16 * k + 16 ∧ 16 * k < s + 0) := by omega
  simp only [decide_eq_false this, Bool.or_false]
theorem over_self (d f : Nat → UInt8) (s : Nat) (i : Nat) : over d s 0 f i = d i := by unfold over; rw [if_neg (by omega)]
theorem wrB_zero (b : AB) (s : Nat) (f : Nat → UInt8) : wrB b s 0 f = b := by
  obtain ⟨n, th, dat⟩ := b
  unfold wrB
  congr 1
  · funext k; exact thW_self _ s k
  · funext i; exact over_self _ _ _ _
theorem thW_lt {b : AB} (ok : b.Ok) {s a k : Nat} (ha : a ≤ 65536) (h : thW b s a k = true) : k < 4096 := by
  unfold thW at h
  simp only [Bool.or_eq_true, decide_eq_true_eq] at h
  rcases h with h | h
  · have h1 := ok.th k h; have h2 := ok.size; omega
  · omega
theorem wrB_ok {b : AB} (ok : b.Ok) {s p : Nat} (h : s + p ≤ 65536) (f : Nat → UInt8) : (wrB b s p f).Ok := by
  have h1 := ok.size
  refine ⟨?_, fun k hk => ?_, fun i hi => ?_⟩
  · unfold wrB; dsimp only; split <;> omega
  · unfold wrB at hk ⊢
    dsimp only at hk ⊢
    unfold thW at hk
    simp only [Bool.or_eq_true, decide_eq_true_eq] at hk
    rcases hk with hk | hk
    · have h2 := ok.th k hk; split <;> omega
    · split <;> omega
  · unfold wrB at hi ⊢
    dsimp only at hi ⊢
    unfold over
    split at hi
    · rw [if_neg (by omega)]; exact ok.dat i hi
    · rw [if_neg (by omega)]; exact ok.dat i (by omega)
theorem thW_step {b : AB} {s p m k : Nat} (hk : (s + p) / 16 = k) (hm : 0 < m) (hm2 : s + p + m ≤ 16 * k + 16) (x : Nat) : thW b s (s + (p + m)) x = updB (thW b s (s + p)) k true x := by
  unfold updB
  by_cases e : x = k
  · subst e
    rw [if_pos rfl]
    unfold thW
    have : s < s + (p + m) ∧ s < 16 * x + 16 ∧ 16 * x < s + (p + m) := by omega
    simp only [decide_eq_true this, Bool.or_true]
  · rw [if_neg e]
    unfold thW
    congr 1
    apply decide_eq_decide.2
    constructor
    · rintro ⟨h1, h2, h3⟩
      have : x < k := by omega
      omega
    · rintro ⟨h1, h2, h3⟩
      omega
theorem over_step {d f : Nat → UInt8} {s p m : Nat} (i : Nat) : over d s (p + m) f i = over (over d s p f) (s + p) m (fun i => f (p + i)) i := by
  unfold over
  by_cases h1 : s + p ≤ i ∧ i < s + p + m
  · rw [if_pos h1, if_pos (by omega)]; congr 1; omega
  · rw [if_neg h1]
    by_cases h2 : s ≤ i ∧ i < s + p
    · rw [if_pos h2, if_pos (by omega)]
    · rw [if_neg h2, if_neg (by omega)]

def wr (b : AB) (off : Int) (p : Nat) (f : Nat → UInt8) : AB := wrB b off.toNat p f
def WR (b : AB) (used room : Nat) (off : Int) (len p : Nat) (err : Int) : Prop :=
  (off < 0 ∧ p = 0 ∧ err = 22) ∨ (0 ≤ off ∧ len = 0 ∧ p = 0 ∧ err = 0) ∨ (65536 ≤ off ∧ 0 < len ∧ p = 0 ∧ err = 27) ∨
  (0 ≤ off ∧ off < 65536 ∧ 0 < len ∧ IsStop b used room off.toNat (min len (65536 - off.toNat)) p ∧ err = if p = 0 then 28 else 0)
def WriteE (w : World) (S B M room used : Nat) (b : AB) (off : Int) (len : Nat) (f : Nat → UInt8) (e : Ending) (w' : World) : Prop :=
  ∃ (p : Nat) (err : Int), e = .returned (.tuple #[.int .i64 (p : Int), .int .i64 err]) ∧ WR b used room off len p err ∧ used + (wr b off p f).n - b.n ≤ room ∧ BodE w S B M room used b (wr b off p f) w'
end Go.Proofs.Ytpnnonphagddgaa
