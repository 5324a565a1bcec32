/- The document's 'Text' and 'Last' by definition. -/
import Derived.Test.YtlaceeiodlpmdaaRef
import Derived.Test.YtlaceeiodlpmdaaPth
import Derived.Test.YtlaceeiodlpmdaaText
import Derived.Test.YtlaceeiodlpmdaaBack
import Derived.Test.YtlaceeiodlpmdaaBytes
namespace Go.Proofs.Ytlaceeiodlpmdaa
open Go.RowKit

/-- What the loop of 'Text' has made of the first names. -/
def tx (d : Bool) (n : Nat) : Nat → List Bs → Bs
  | _, [] => []
  | i, x :: xs => x ++ (if decide (i + 1 < n) || d then [47] else []) ++ tx d n (i + 1) xs
theorem tx_snoc (d : Bool) (n : Nat) (xs : List Bs) (x : Bs) (i : Nat) : tx d n i (xs ++ [x]) = tx d n i xs ++ (x ++ if decide (i + xs.length + 1 < n) || d then [47] else []) := by
  induction xs generalizing i with
  | nil => simp [tx]
  | cons y ys ih => simp [tx, ih, Nat.add_assoc, Nat.add_comm 1]
theorem tx_app (d : Bool) (n : Nat) (xs ys : List Bs) (i : Nat) : tx d n i (xs ++ ys) = tx d n i xs ++ tx d n (i + xs.length) ys := by
  induction xs generalizing i with
  | nil => simp [tx]
  | cons y zs ih => simp [tx, ih, Nat.add_assoc, Nat.add_comm 1]
theorem tx_le (d : Bool) (n : Nat) (xs : List Bs) (k : Nat) : (tx d n 0 (xs.take k)).length ≤ (tx d n 0 xs).length := by
  conv => rhs; rw [← List.take_append_drop k xs, tx_app, List.length_append]
  omega
theorem tx_all (d : Bool) (n : Nat) (xs : List Bs) (i : Nat) (h : i + xs.length = n) : tx d n i xs = Lib.join xs [47] ++ if d && !xs.isEmpty then [47] else [] := by
  induction xs generalizing i with
  | nil => simp [tx, Lib.join]
  | cons x xs ih =>
    cases xs with
    | nil =>
      simp at h
      have : ¬ (i + 1 < n) := by omega
      simp [tx, Lib.join, this]
    | cons y ys =>
      have hl : i + 1 < n := by simp at h; omega
      have := ih (i + 1) (by simp at h ⊢; omega)
      rw [tx, this]
      simp [hl, Lib.join]
theorem tx_text (d : Bool) (xs : List Bs) : 47 :: tx d xs.length 0 xs = textL xs d := by
  rw [tx_all d xs.length xs 0 (by omega)]; rfl
theorem sv_cat (x y : Bs) : Value.string ((⟨x.toArray⟩ : ByteArray) ++ ⟨y.toArray⟩) = Sv (x ++ y) := by
  refine congrArg Value.string ?_
  apply ByteArray.ext
  simp

set_option maxHeartbeats 2000000 in
theorem rtext_any (A : Option Addr) (n c : Nat) (d : Bool) (xs : List Bs) (w : World) (hn : n = xs.length) (hN : n ≤ 65536) (hx : Strs w w.heap.size A xs) (hj : (Lib.join xs [47]).length ≤ 200000) :
    Calls Try.prog 24 #[Pv A n c d] w (TextE w xs d) := by
  have HN := Lib.hid hn
  have HZ := Lib.hid (show ∀ k, (tx d n 0 (xs.take k)).length ≤ 200001 from fun k => by
    refine Nat.le_trans (tx_le d n xs k) ?_
    rw [hn, tx_all d xs.length xs 0 (by omega), List.length_append]
    split <;> simp <;> omega)
  clear hj
  have hxr := hx.up (below_alloc w (.cells #[.slice A n c, .bool d] 25))
  have hbw := below_alloc w (.cells #[.slice A n c, .bool d] 25)
  clear hn hx
  go_enter Try.func24, Try.ntmps24
  go_wp2_with fail
  go_loopg [3, 4] n (fun g v i wr => ∃ k : Nat, k ≤ n ∧ g + k = n ∧ i = .int .i64 k ∧ v = Sv (47 :: tx d n 0 (xs.take k)) ∧ wr = w.alloc (.cells #[.slice A n c, .bool d] 25))
  case atStart => exact ⟨0, by omega, by omega, rfl, rfl, rfl⟩
  case round =>
    obtain ⟨k, hk, hg, rfl, rfl, rfl⟩ := hrel
    by_cases hlt : k < n
    · obtain ⟨ad, x, rfl, hab, hxk, hcx⟩ := hxr.get (k := k) (by rw [← HN.out]; exact hlt)
      have HT := Lib.hid (show tx d n 0 (xs.take (k + 1)) = tx d n 0 (xs.take k) ++ (x ++ if decide (k + 1 < n) || d then [47] else []) by
        obtain ⟨hk', rfl⟩ := List.getElem?_eq_some_iff.1 hxk
        rw [List.take_succ_eq_append_getElem hk', tx_snoc, List.length_take, Nat.min_eq_left (by omega), Nat.zero_add])
      clear hxk hab
      have hz1 := HZ.out (k + 1)
      rw [HT.out, List.length_append, List.length_append] at hz1
      have hz2 : (tx d n 0 (xs.take k)).length + x.length ≤ 200001 := by omega
      have z1 : (⟨(47 :: tx d n 0 (xs.take k)).toArray⟩ : ByteArray).size + (⟨x.toArray⟩ : ByteArray).size ≤ 200002 := by
        rw [Lib.size_eq, Lib.size_eq]; simp; omega
      have z2 : ((⟨(47 :: tx d n 0 (xs.take k)).toArray⟩ : ByteArray) ++ (⟨x.toArray⟩ : ByteArray)).size ≤ 200002 := by
        rw [ByteArray.size_append]; exact z1
      have z3 : ((⟨(47 :: tx d n 0 (xs.take k)).toArray⟩ : ByteArray) ++ (⟨x.toArray⟩ : ByteArray)).size + (⟨#[47]⟩ : ByteArray).size ≤ 200003 := Nat.add_le_add_right z2 1
      have z4 : ((⟨(47 :: tx d n 0 (xs.take k)).toArray⟩ : ByteArray) ++ (⟨x.toArray⟩ : ByteArray)).size + 1 ≤ 200003 := z3
      have z5 : (⟨(47 :: tx d n 0 (xs.take k)).toArray⟩ : ByteArray).size + (⟨x.toArray⟩ : ByteArray).size + 1 ≤ 200003 := by omega
      have z6 : (⟨(47 :: tx d n 0 (xs.take k)).toArray⟩ : ByteArray).size + (⟨x.toArray⟩ : ByteArray).size + (⟨#[47]⟩ : ByteArray).size ≤ 200003 := z5
      clear hz1 hz2
      generalize tx d n 0 (xs.take k) = ps at *
      by_cases hl : k + 1 < n
      · have hT : decide ((k : Int) < (n : Int) - 1) = true := decide_eq_true (by omega)
        have HQ := Lib.hid (show tx d n 0 (xs.take (k + 1)) = ps ++ (x ++ [47]) by rw [HT.out, decide_eq_true hl]; rfl)
        clear HT
        go_wp2_with fail
        go_roundg (gk - 1)
        case measure => omega
        case rel => exact ⟨k + 1, by omega, by omega, by go_num, by rw [HQ.out]; exact congrArg Value.string (by apply ByteArray.ext; simp), rfl⟩
      · have hT : ¬ ((k : Int) < (n : Int) - 1) := by omega
        cases d
        · have HQ := Lib.hid (show tx false n 0 (xs.take (k + 1)) = ps ++ x by rw [HT.out, decide_eq_false hl]; simp)
          clear HT
          go_wp2_with fail
          go_roundg (gk - 1)
          case measure => omega
          case rel => exact ⟨k + 1, by omega, by omega, by go_num, by rw [HQ.out]; exact congrArg Value.string (by apply ByteArray.ext; simp), rfl⟩
        · have HQ := Lib.hid (show tx true n 0 (xs.take (k + 1)) = ps ++ (x ++ [47]) by rw [HT.out, Bool.or_true]; rfl)
          clear HT
          go_wp2_with fail
          go_roundg (gk - 1)
          case measure => omega
          case rel => exact ⟨k + 1, by omega, by omega, by go_num, by rw [HQ.out]; exact congrArg Value.string (by apply ByteArray.ext; simp), rfl⟩
    · have hke : k = n := by omega
      subst hke
      have HF := Lib.hid (show 47 :: tx d k 0 (xs.take k) = textL xs d by rw [HN.out, List.take_length, tx_text])
      have hkl : ¬ ((k : Int) < (k : Int)) := by omega
      go_wp2_with fail
      go_ret
      exact ⟨by rw [← HF.out]; rfl, hbw⟩
end Go.Proofs.Ytlaceeiodlpmdaa
