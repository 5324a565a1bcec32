/- 'large': when it returns false, the path is small. -/
import Derived.Test.YtlaceeiodlpmdaaSame
namespace Go.Proofs.Ytlaceeiodlpmdaa
open Go.RowKit

def cut (x : Bs) : Nat := min x.length 65536
def mass (xs : List Bs) : Nat := (xs.map cut).sum
theorem mass_take (xs : List Bs) (k : Nat) (x : Bs) (h : xs[k]? = some x) : mass (xs.take (k + 1)) = mass (xs.take k) + cut x := by
  obtain ⟨hk, rfl⟩ := List.getElem?_eq_some_iff.1 h
  unfold mass
  rw [List.take_succ_eq_append_getElem hk, List.map_append, List.sum_append]
  simp

def LargeE (w : World) (xs : List Bs) (e : Ending) (w' : World) : Prop :=
  (e = .returned (.bool true) ∧ Below w.heap.size w w') ∨ (e = .returned (.bool false) ∧ (xs.length ≤ 201 ∧ mass xs ≤ 65536) ∧ Below w.heap.size w w')

set_option maxHeartbeats 1000000 in
set_option maxRecDepth 100000 in
theorem large_any (A : Option Addr) (n c B : Nat) (d : Bool) (xs : List Bs) (w : World) (hn : n = xs.length) (hc : n ≤ c) (hcm : c ≤ maxLen) (hB : B ≤ w.heap.size) (hx : Strs w B A xs) :
    Calls Try.prog 18 #[Pv A n c d] w (LargeE w xs) := by
  have HN := Lib.hid hn
  clear hn
  unfold maxLen at hcm
  have b2 := (Below.refl w.heap.size w).alloc (Nat.le_refl _) (.cells #[.slice A n c, .bool d] 25)
  have hx2 := hx.below (b2.mono hB)
  clear hx
  go_enter Try.func18, Try.ntmps18
  go_wp2
  go_loopg [3, 8] n (fun g s i wr => ∃ (k : Nat) (a : Int), k ≤ n ∧ g + k = n ∧ k ≤ 201 ∧ i = .int .i64 k ∧ s = .int .i64 a ∧ 0 ≤ a ∧ a ≤ 65536 ∧ Hid (a = ((mass (xs.take k) : Nat) : Int)) ∧ (w.alloc (.cells #[.slice A n c, .bool d] 25)) = wr)
  case atStart => exact ⟨0, 0, by omega, by omega, by omega, rfl, rfl, by omega, by omega, rfl, rfl⟩
  case round =>
    obtain ⟨k, a, hk, hg, hk2, rfl, rfl, ha0, ha1, HA, rfl⟩ := hrel
    by_cases hlt : k < n
    · obtain ⟨ad, x, rfl, _, hxk, hcx⟩ := hx2.get (k := k) (by rw [← HN.out]; exact hlt)
      have HX := Lib.hid (mass_take xs k x hxk)
      clear hxk
      have HC := Lib.hid (show ∀ v : Int, v = a + (cut x : Nat) → Hid (v = ((mass (xs.take (k + 1)) : Nat) : Int)) by
        intro v hv
        show _ = _
        rw [HX.out, hv, HA.out]
        omega)
      clear HX HA
      by_cases hbig : 65536 < x.length
      · have HXc := Lib.hid (show cut x = 65536 by unfold cut; omega)
        have hbI : (65536 : Int) < (x.length : Int) := by omega
        clear hbig
        by_cases hm0 : a = 0
        · subst hm0
          by_cases hk200 : k ≤ 200
          · go_wp2
            go_roundg (gk - 1)
            case measure => omega
            case rel => exact ⟨k + 1, _, by omega, by omega, by omega, by go_num, rfl, by omega, by omega, HC.out _ (by rw [HXc.out]; rfl), rfl⟩
          · go_wp2
            go_ret
            exact .inl ⟨rfl, b2⟩
        · have h0 : 0 < a := by omega
          clear hm0
          go_wp2
          go_ret
          exact .inl ⟨rfl, b2⟩
      · have HXc := Lib.hid (show cut x = x.length by unfold cut; omega)
        have hbI : ¬ (65536 : Int) < (x.length : Int) := by omega
        clear hbig
        by_cases hk200 : k ≤ 200
        · by_cases hsum : 65536 < a + (x.length : Int)
          · go_wp2
            go_ret
            exact .inl ⟨rfl, b2⟩
          · go_wp2
            go_roundg (gk - 1)
            case measure => omega
            case rel => exact ⟨k + 1, _, by omega, by omega, by omega, by go_num, rfl, by omega, by omega, HC.out _ (by rw [HXc.out]), rfl⟩
        · go_wp2
          all_goals (go_ret; exact .inl ⟨rfl, b2⟩)
    · have HM := Lib.hid (show mass xs ≤ 65536 by
        have := HA.out
        rw [List.take_of_length_le (by rw [← HN.out]; omega)] at this
        omega)
      clear HA
      go_wp2
      go_ret
      exact .inr ⟨rfl, ⟨by rw [← HN.out]; omega, HM.out⟩, b2⟩
end Go.Proofs.Ytlaceeiodlpmdaa
