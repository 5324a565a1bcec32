/- The document's 'Less' by definition: it hands back what the program's does. -/
import Derived.Test.YtlaceeiodlpmdaaRef
import Derived.Test.YtlaceeiodlpmdaaLaws0
namespace Go.Proofs.Ytlaceeiodlpmdaa
open Go.RowKit

theorem bl_pre (p a b : Bs) : Op.bytesLess (p ++ a) (p ++ b) = Op.bytesLess a b := by
  induction p with
  | nil => rfl
  | cons x p ih => simp [Op.bytesLess, ih]
theorem bl_at (a b : Bs) (j : Nat) (h : a.take j = b.take j) : Op.bytesLess a b = Op.bytesLess (a.drop j) (b.drop j) := by
  conv => lhs; rw [← List.take_append_drop j a, ← List.take_append_drop j b, h]
  exact bl_pre _ _ _
theorem bl_head (x y : UInt8) (a b : Bs) (h : x ≠ y) : Op.bytesLess (x :: a) (y :: b) = decide (x.toNat < y.toNat) := by
  have h2 : (x == y) = false := by simpa using h
  simp only [Op.bytesLess, h2, Bool.false_and, Bool.or_false]
  by_cases hl : x < y
  · rw [decide_eq_true hl, decide_eq_true (UInt8.lt_iff_toNat_lt.1 hl)]
  · rw [decide_eq_false hl, decide_eq_false (fun e => hl (UInt8.lt_iff_toNat_lt.2 e))]
theorem bl_nil (a b : Bs) (h : a = [] ∨ b = []) : Op.bytesLess a b = decide (a.length < b.length) := by
  cases a with
  | nil => cases b <;> simp [Op.bytesLess]
  | cons x a =>
    rcases h with h | h
    · exact absurd h (by simp)
    · subst h; simp [Op.bytesLess]

set_option maxHeartbeats 2000000 in
theorem rless_any (a b : ByteArray) (w : World) (ha : a.size ≤ 9223372036854775807) (hb : b.size ≤ 9223372036854775807) : Calls Try.prog 26 #[.string a, .string b] w fun e w' => e = .returned (.bool (lessB a b)) ∧ Below w.heap.size w w' := by
  have HB : ∀ r, Op.bytesLess a.data.toList b.data.toList = r → Hid (lessB a b = r) := fun r h => Lib.hid (by rw [← h]; simp [lessB, Lib.toList_data])
  go_enter Try.func26, Try.ntmps26
  go_wp2_with fail
  go_loopg [5] a.size (fun g i wr => ∃ j : Nat, j ≤ a.size ∧ j ≤ b.size ∧ g + j = a.size ∧ i = .int .i64 j ∧ Hid (a.data.toList.take j = b.data.toList.take j) ∧ Below w.heap.size w wr)
  case atStart => exact ⟨0, by omega, by omega, by omega, rfl, Lib.hid (by simp), Below.refl _ _⟩
  case round =>
    obtain ⟨j, hja, hjb, hg, rfl, HT, hbr⟩ := hrel
    by_cases h1 : j < a.size
    · by_cases h2 : j < b.size
      · have hA : j < a.data.toList.length := by rw [← Lib.size_eq]; exact h1
        have hB : j < b.data.toList.length := by rw [← Lib.size_eq]; exact h2
        have dA : a.data.toList.drop j = a[j] :: a.data.toList.drop (j + 1) := by rw [List.drop_eq_getElem_cons hA, getD_data a j h1]
        have dB : b.data.toList.drop j = b[j] :: b.data.toList.drop (j + 1) := by rw [List.drop_eq_getElem_cons hB, getD_data b j h2]
        by_cases h : a[j] = b[j]
        · have hT : (((a[j]).toNat : Int) != ((b[j]).toNat : Int)) = false := by rw [h]; simp
          have HT' := Lib.hid (show a.data.toList.take (j + 1) = b.data.toList.take (j + 1) by
            rw [List.take_succ_eq_append_getElem hA, List.take_succ_eq_append_getElem hB, HT.out, ← getD_data a j h1, ← getD_data b j h2, h])
          clear h dA dB HB
          go_wp2_with fail
          go_region
          all_goals
            go_wp2_with fail
            go_roundg (gk - 1)
            case measure => omega
            case rel => exact ⟨j + 1, by omega, by omega, by omega, by go_num, HT', hbr.drew⟩
        · have hT : (((a[j]).toNat : Int) != ((b[j]).toNat : Int)) = true := by
            rw [bne_iff_ne]; intro e; exact h (UInt8.toNat_inj.1 (by omega))
          have HR := HB (decide ((a[j]).toNat < (b[j]).toNat)) (by rw [bl_at _ _ j HT.out, dA, dB, bl_head _ _ _ _ h])
          clear h dA dB HB
          go_wp2_with fail
          go_region
          all_goals
            go_wp2_with fail
            go_region
            all_goals
              go_wp2_with fail
              try rw [Exit.noGoto_ret]
              go_ret
              exact ⟨by rw [HR.out]; rfl, hbr.drew.drew⟩
      · have HR := HB (decide (a.size < b.size)) (by
          rw [bl_at _ _ j HT.out, bl_nil _ _ (.inr (List.drop_eq_nil_of_le (by rw [← Lib.size_eq]; omega))), List.length_drop, List.length_drop, ← Lib.size_eq, ← Lib.size_eq]
          rw [Bool.eq_iff_iff]; simp; omega)
        have hjn : ¬ ((j : Int) < (b.size : Int)) := by omega
        clear HB h2
        go_wp2_with fail
        go_ret
        exact ⟨by rw [HR.out]; rfl, hbr⟩
    · have HR := HB (decide (a.size < b.size)) (by
        rw [bl_at _ _ j HT.out, bl_nil _ _ (.inl (List.drop_eq_nil_of_le (by rw [← Lib.size_eq]; omega))), List.length_drop, List.length_drop, ← Lib.size_eq, ← Lib.size_eq]
        rw [Bool.eq_iff_iff]; simp; omega)
      have hjn : ¬ ((j : Int) < (a.size : Int)) := by omega
      clear HB h1
      go_wp2_with fail
      go_ret
      exact ⟨by rw [HR.out]; rfl, hbr⟩
end Go.Proofs.Ytlaceeiodlpmdaa
