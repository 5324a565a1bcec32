/- 'Text' of the program and of the document, of names as long as strings may be. -/
import Derived.Test.YtlaceeiodlpmdaaRText
namespace Go.Proofs.Ytlaceeiodlpmdaa
open Go.RowKit

/-- strings.Join, of a slice that reads as a list. -/
theorem join_big (A : Option Addr) (n c B : Nat) (xs : List Bs) (w : World) (hn : n = xs.length) (hc : n ≤ c) (hB : B ≤ w.heap.size) (hx : Strs w B A xs) (hl : (Lib.join xs [47]).length ≤ 140737488355328) (hN : n ≤ 65536) :
    Calls Try.prog 35 #[.slice A n c, .string ⟨#[47]⟩] w fun e w' => e = .returned (Sv (Lib.join xs [47])) ∧ Below w.heap.size w w' := by
  subst hn
  cases xs with
  | nil => exact (Try.strings_Join_none A c ⟨#[47]⟩ w).mono fun e w' ⟨he, hw⟩ => ⟨he, by rw [hw]; exact Below.refl _ _⟩
  | cons x xs =>
    obtain ⟨b, off, rfl, hb, hcell⟩ := hx.plain (by simp)
    have e : ((x :: xs).map fun y => (⟨y.toArray⟩ : ByteArray)).map (·.data.toList) = x :: xs := by simp [List.map_map, Function.comp_def]
    have hl2 : ((x :: xs).map fun y => (⟨y.toArray⟩ : ByteArray)).length = (x :: xs).length := List.length_map _
    have := Try.strings_Join b off c ((x :: xs).map fun y => (⟨y.toArray⟩ : ByteArray)) ⟨#[47]⟩ w (fun j y hy => by
      rw [List.getElem?_map, Option.map_eq_some_iff] at hy
      obtain ⟨z, hz, rfl⟩ := hy
      exact hcell j z hz) (by omega) (by rw [hl2]; omega) (by rw [hl2]; exact hc) (by rw [e]; show (Lib.join (x :: xs) [47]).length ≤ _; omega)
    rw [hl2, e] at this
    exact this

set_option maxHeartbeats 400000 in
theorem text_big (A : Option Addr) (n c B : Nat) (d : Bool) (xs : List Bs) (w : World) (hn : n = xs.length) (hc : n ≤ c) (hB : B ≤ w.heap.size) (hx : Strs w B A xs) (hl : (Lib.join xs [47]).length ≤ 140737488355328) (hN : n ≤ 65536) :
    Calls Try.prog 23 #[Pv A n c d] w (TextE w xs d) := by
  have b1 : Below w.heap.size w (w.alloc (.cells #[.slice A n c, .bool d] 25)) := (Below.refl _ _).alloc (Nat.le_refl _) _
  have HJ := join_big A n c B xs (w.alloc (.cells #[.slice A n c, .bool d] 25)) hn hc (by simp; omega) (hx.below (b1.mono hB)) hl hN
  have HN := Lib.hid hn
  clear hn hx
  generalize hj : Lib.join xs [47] = js at *
  have HJS := Lib.hid hj
  clear hj
  have hsz : (⟨js.toArray⟩ : ByteArray).size ≤ 140737488355328 := by rw [Lib.size_eq]; simpa using hl
  have HT := Lib.hid (show textL xs false = 47 :: js by simp [textL, HJS.out])
  have HT1 := Lib.hid (show n = 0 → textL xs true = 47 :: js by
    intro h0
    have : xs = [] := List.eq_nil_of_length_eq_zero (by rw [← HN.out]; exact h0)
    subst this
    simp [textL, HJS.out])
  have HT2 := Lib.hid (show 0 < n → textL xs true = 47 :: (js ++ [47]) by
    intro h0
    have : xs ≠ [] := fun h => by have := HN.out; rw [h] at this; simp at this; omega
    cases xs with
    | nil => exact absurd rfl this
    | cons x xs => simp [textL, HJS.out])
  have e1 : (⟨#[47]⟩ : ByteArray) ++ ⟨js.toArray⟩ = ⟨(47 :: js).toArray⟩ := by
    apply ByteArray.ext
    simp
  have e2 : (⟨(47 :: js).toArray⟩ : ByteArray) ++ ⟨#[47]⟩ = ⟨(47 :: (js ++ [47])).toArray⟩ := by
    apply ByteArray.ext
    simp
  have HE := Lib.hid (And.intro e1 e2)
  clear e1 e2
  by_cases h0 : 0 < n
  all_goals
    cases d
    all_goals
      go_enter Try.func23, Try.ntmps23
      go_wp2_with (go_at_call 35; refine HJ.mono ?_; rintro e w1 ⟨rfl, hb⟩; obtain ⟨q0, q1, -, -, -⟩ := box_kept (by simp) hb)
      go_ret
      refine ⟨?_, b1.trans (hb.mono (by simp))⟩
      first
        | (rw [HT.out]; exact congrArg (fun z => Ending.returned (Value.string z)) HE.out.1)
        | (rw [HT2.out h0]; exact congrArg (fun z => Ending.returned (Value.string z)) (by rw [HE.out.1, HE.out.2]))
        | (rw [HT1.out (by omega)]; exact congrArg (fun z => Ending.returned (Value.string z)) HE.out.1)

set_option maxHeartbeats 2000000 in
theorem rtext_big (A : Option Addr) (n c : Nat) (d : Bool) (xs : List Bs) (w : World) (hn : n = xs.length) (hN : n ≤ 65536) (hx : Strs w w.heap.size A xs) (hj : (Lib.join xs [47]).length ≤ 140737488355328) :
    Calls Try.prog 24 #[Pv A n c d] w (TextE w xs d) := by
  have HN := Lib.hid hn
  have HZ := Lib.hid (show ∀ k, (tx d n 0 (xs.take k)).length ≤ 140737488355329 from fun k => by
    refine Nat.le_trans (tx_le d n xs k) ?_
    rw [hn, tx_all d xs.length xs 0 (by omega), List.length_append]
    split <;> simp <;> omega)
  clear hj
  have hxr := hx.up (below_alloc w (.cells #[.slice A n c, .bool d] 25))
  have hbw := below_alloc w (.cells #[.slice A n c, .bool d] 25)
  clear hn hx
  go_enter Try.func24, Try.ntmps24
  go_wp2_with fail
  go_loopg [3, 4] n (fun g v i wr => ∃ k : Nat, k ≤ n ∧ g + k = n ∧ i = .int .i64 k ∧ v = Sv (47 :: tx d n 0 (xs.take k)) ∧ wr = w.alloc (.cells #[.slice A n c, .bool d] 25))
  case atStart => exact ⟨0, by omega, by omega, rfl, rfl, rfl⟩
  case round =>
    obtain ⟨k, hk, hg, rfl, rfl, rfl⟩ := hrel
    by_cases hlt : k < n
    · obtain ⟨ad, x, rfl, hab, hxk, hcx⟩ := hxr.get (k := k) (by rw [← HN.out]; exact hlt)
      have HT := Lib.hid (show tx d n 0 (xs.take (k + 1)) = tx d n 0 (xs.take k) ++ (x ++ if decide (k + 1 < n) || d then [47] else []) by
        obtain ⟨hk', rfl⟩ := List.getElem?_eq_some_iff.1 hxk
        rw [List.take_succ_eq_append_getElem hk', tx_snoc, List.length_take, Nat.min_eq_left (by omega), Nat.zero_add])
      clear hxk hab
      have hz1 := HZ.out (k + 1)
      rw [HT.out, List.length_append, List.length_append] at hz1
      have hz2 : (tx d n 0 (xs.take k)).length + x.length ≤ 140737488355329 := by omega
      have z1 : (⟨(47 :: tx d n 0 (xs.take k)).toArray⟩ : ByteArray).size + (⟨x.toArray⟩ : ByteArray).size ≤ 140737488355330 := by
        rw [Lib.size_eq, Lib.size_eq]; simp; omega
      have z2 : ((⟨(47 :: tx d n 0 (xs.take k)).toArray⟩ : ByteArray) ++ (⟨x.toArray⟩ : ByteArray)).size ≤ 140737488355330 := by
        rw [ByteArray.size_append]; exact z1
      have z3 : ((⟨(47 :: tx d n 0 (xs.take k)).toArray⟩ : ByteArray) ++ (⟨x.toArray⟩ : ByteArray)).size + (⟨#[47]⟩ : ByteArray).size ≤ 140737488355331 := Nat.add_le_add_right z2 1
      have z4 : ((⟨(47 :: tx d n 0 (xs.take k)).toArray⟩ : ByteArray) ++ (⟨x.toArray⟩ : ByteArray)).size + 1 ≤ 140737488355331 := z3
      have z5 : (⟨(47 :: tx d n 0 (xs.take k)).toArray⟩ : ByteArray).size + (⟨x.toArray⟩ : ByteArray).size + 1 ≤ 140737488355331 := by omega
      have z6 : (⟨(47 :: tx d n 0 (xs.take k)).toArray⟩ : ByteArray).size + (⟨x.toArray⟩ : ByteArray).size + (⟨#[47]⟩ : ByteArray).size ≤ 140737488355331 := z5
      clear hz1 hz2
      generalize tx d n 0 (xs.take k) = ps at *
      by_cases hl : k + 1 < n
      · have hT : decide ((k : Int) < (n : Int) - 1) = true := decide_eq_true (by omega)
        have HQ := Lib.hid (show tx d n 0 (xs.take (k + 1)) = ps ++ (x ++ [47]) by rw [HT.out, decide_eq_true hl]; rfl)
        clear HT
        go_wp2_with fail
        go_roundg (gk - 1)
        case measure => omega
        case rel => exact ⟨k + 1, by omega, by omega, by go_num, by rw [HQ.out]; exact congrArg Value.string (by apply ByteArray.ext; simp), rfl⟩
      · have hT : ¬ ((k : Int) < (n : Int) - 1) := by omega
        cases d
        · have HQ := Lib.hid (show tx false n 0 (xs.take (k + 1)) = ps ++ x by rw [HT.out, decide_eq_false hl]; simp)
          clear HT
          go_wp2_with fail
          go_roundg (gk - 1)
          case measure => omega
          case rel => exact ⟨k + 1, by omega, by omega, by go_num, by rw [HQ.out]; exact congrArg Value.string (by apply ByteArray.ext; simp), rfl⟩
        · have HQ := Lib.hid (show tx true n 0 (xs.take (k + 1)) = ps ++ (x ++ [47]) by rw [HT.out, Bool.or_true]; rfl)
          clear HT
          go_wp2_with fail
          go_roundg (gk - 1)
          case measure => omega
          case rel => exact ⟨k + 1, by omega, by omega, by go_num, by rw [HQ.out]; exact congrArg Value.string (by apply ByteArray.ext; simp), rfl⟩
    · have hke : k = n := by omega
      subst hke
      have HF := Lib.hid (show 47 :: tx d k 0 (xs.take k) = textL xs d by rw [HN.out, List.take_length, tx_text])
      have hkl : ¬ ((k : Int) < (k : Int)) := by omega
      go_wp2_with fail
      go_ret
      exact ⟨by rw [← HF.out]; rfl, hbw⟩
theorem joined_len (xs : List Bs) : (Lib.join xs [47]).length ≤ (xs.map List.length).sum + xs.length := by
  induction xs with
  | nil => simp [Lib.join]
  | cons x xs ih =>
    cases xs with
    | nil => simp [Lib.join]
    | cons y ys => simp [Lib.join] at ih ⊢; omega
theorem mass_cons (x : Bs) (xs : List Bs) : mass (x :: xs) = cut x + mass xs := by simp [mass]
theorem sum_small (xs : List Bs) (h : mass xs < 65536) : (xs.map List.length).sum = mass xs := by
  induction xs with
  | nil => simp [mass]
  | cons x xs ih =>
    rw [mass_cons] at h ⊢
    have := ih (by omega)
    have hc : cut x = x.length := by unfold cut at h ⊢; omega
    simp [this, hc]
theorem sum_le (M : Nat) (hM : 65536 ≤ M) (xs : List Bs) (h : mass xs ≤ 65536) (hx : ∀ x ∈ xs, x.length ≤ M) : (xs.map List.length).sum ≤ M := by
  induction xs with
  | nil => simp
  | cons x xs ih =>
    rw [mass_cons] at h
    have h1 := hx x (by simp)
    simp only [List.map_cons, List.sum_cons]
    by_cases h0 : x.length = 0
    · have := ih (by omega) (fun y hy => hx y (by simp [hy])); omega
    · have hp : 0 < cut x := by unfold cut; omega
      have hs := sum_small xs (by omega)
      rw [hs]
      by_cases hb : x.length ≤ 65536
      · have hc : cut x = x.length := by unfold cut; omega
        omega
      · have hc : cut x = 65536 := by unfold cut; omega
        omega
end Go.Proofs.Ytlaceeiodlpmdaa
