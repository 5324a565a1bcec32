/- 'bit', 'Kind', 'writesFile': what a call's number and flags tell. -/
import Derived.Test.YtlplbpilpkmoaaaQr
import Derived.Laws.BitsLemmas
namespace Go.Proofs.Ytlplbpilpkmoaaa.pl
open Go.RowKit
set_option linter.unusedVariables false
set_option linter.unusedSimpArgs false

theorem wrap_u64 (n : Int) : IntKind.u64.wrap n = n % 18446744073709551616 := by simp [IntKind.wrap, IntKind.bits, IntKind.signed]
def bitU (fl : Int) (k : Nat) : Bool := decide ((IntKind.u64.wrap fl / 2 ^ k) % 2 = 1)
theorem half {U v : Int} {i : Nat} (h : U / 2 ^ i = v) : U / 2 ^ (i + 1) = v / 2 := by
  rw [← h, Int.pow_succ, Int.ediv_ediv_of_nonneg (Int.le_of_lt (Int.pow_pos (by decide)))]
theorem and_pow (n i : Nat) : n &&& 2 ^ i = 2 ^ i * (n / 2 ^ i % 2) := by
  apply Nat.eq_of_testBit_eq
  intro j
  rw [Nat.testBit_and, Nat.testBit_two_pow, Nat.testBit_two_pow_mul, show n / 2 ^ i % 2 = n / 2 ^ i % 2 ^ 1 by rw [Nat.pow_one], Nat.testBit_mod_two_pow, Nat.testBit_div_two_pow]
  by_cases e : i = j
  · subst e; simp
  · by_cases h : j ≥ i
    · have : ¬ (j - i < 1) := by omega
      simp [e, this]
    · simp [e, h]
theorem bits_bit (fl : Int) (k : Nat) (hk : k = 1 ∨ k = 2) : bits .and .i64 fl (2 ^ k) = if bitU fl k then 2 ^ k else 0 := by
  have key : (BitVec.ofInt 64 fl &&& BitVec.ofInt 64 (2 ^ k)).toNat = 2 ^ k * ((fl % ((2 ^ 64 : Nat) : Int)).toNat / 2 ^ k % 2) := by
    rw [BitVec.toNat_and, BitVec.toNat_ofInt]
    rcases hk with rfl | rfl
    · rw [show (BitVec.ofInt 64 (2 ^ 1)).toNat = 2 ^ 1 by decide, and_pow]
    · rw [show (BitVec.ofInt 64 (2 ^ 2)).toNat = 2 ^ 2 by decide, and_pow]
  show IntKind.i64.wrap ((BitVec.ofInt 64 fl &&& BitVec.ofInt 64 (2 ^ k)).toNat : Nat) = _
  rw [key, IntKind.wrap_i64]
  unfold bitU
  rw [wrap_u64]
  rcases hk with rfl | rfl
  · by_cases e : fl % 18446744073709551616 / 2 ^ 1 % 2 = 1
    · rw [if_pos (by simpa using e)]; simp at e ⊢; omega
    · rw [if_neg (by simpa using e)]; simp at e ⊢; omega
  · by_cases e : fl % 18446744073709551616 / 2 ^ 2 % 2 = 1
    · rw [if_pos (by simpa using e)]; simp at e ⊢; omega
    · rw [if_neg (by simpa using e)]; simp at e ⊢; omega
set_option maxHeartbeats 4000000 in
theorem bit_any (fl : Int) (k : Nat) (hk : k ≤ 60) (w : World) : Calls Try.prog 30 #[.int .i64 fl, .int .i64 (k : Int)] w (RetB w (bitU fl k)) := by
  unfold RetB bitU
  obtain ⟨U, hU⟩ : ∃ U, IntKind.u64.wrap fl = U := ⟨_, rfl⟩
  have hU0 : 0 ≤ U ∧ U < 18446744073709551616 := by
    rw [← hU, wrap_u64]; omega
  rw [hU]
  go_enter Try.func30, Try.ntmps30
  go_wp2_with fail
  go_loopg [5, 6] k (fun gk u5 u6 wx => ∃ (i : Nat) (v : Int), u5 = .int .u64 v ∧ u6 = .int .i64 i ∧ gk + i = k ∧ 0 ≤ v ∧ v < 18446744073709551616 ∧ Hid (U / 2 ^ i = v) ∧ w = wx)
  case atStart => exact ⟨0, U, by rfl, rfl, by omega, hU0.1, hU0.2, Lib.hid (by simp), rfl⟩
  case round =>
    obtain ⟨i, v, rfl, rfl, hg, h0, h1, HV, rfl⟩ := hrel
    by_cases hi : i < k
    · have hi2 : (i : Int) < (k : Int) := by omega
      go_wp2_with fail
      go_roundg (gk - 1)
      case measure => omega
      case rel => exact ⟨i + 1, v / 2, by first | rfl | (congr 1; omega), by go_num, by omega, by omega, by omega, Lib.hid (half HV.out), rfl⟩
    · have HE := Lib.hid (show U / 2 ^ k = v from by have : i = k := by omega
                                                     rw [← this]; exact HV.out)
      clear hU
      go_wp2_with fail
      go_ret
      exact ⟨by rw [HE.out]; first | rfl | (congr 1; simp; omega), Below.refl _ _⟩
end Go.Proofs.Ytlplbpilpkmoaaa.pl
