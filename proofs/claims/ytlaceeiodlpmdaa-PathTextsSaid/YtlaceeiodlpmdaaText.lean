/- 'Text', 'Less', and 'Name' at one text: what they hand back. -/
import Derived.Test.YtlaceeiodlpmdaaSame
import Derived.Test.YtlaceeiodlpmdaaShelf
import Derived.OpenShut
namespace Go.Proofs.Ytlaceeiodlpmdaa
open Go.RowKit

theorem Strs.plain {w : World} {B : Nat} {A : Option Addr} {xs : List Bs} (h : Strs w B A xs) (hn : 0 < xs.length) :
    ∃ b off, A = some ⟨b, off, none⟩ ∧ b < B ∧ ∀ (j : Nat) x, xs[j]? = some x → w.cell? ⟨b, off + j, none⟩ = some (Sv x) := by
  obtain ⟨⟨b, off, spot⟩, e, hb, hc⟩ := h hn
  have h0 := hc 0 _ (List.getElem?_eq_getElem hn)
  have hspot : spot = none := by simpa [Addr.add] using World.cell?_spot h0
  subst hspot
  exact ⟨b, off, e, hb, fun j x hx => by rw [← Go.WideShapes.add_plain]; exact hc j x hx⟩

def lessB (a b : ByteArray) : Bool := Op.bytesLess a.toList b.toList
set_option maxHeartbeats 400000 in
theorem less_any (a b : ByteArray) (w : World) : Calls Try.prog 25 #[.string a, .string b] w fun e w' => e = .returned (.bool (lessB a b)) ∧ w = w' := by
  go_enter Try.func25, Try.ntmps25
  go_wp2
  go_ret
  exact ⟨rfl, rfl⟩

def textL (xs : List Bs) (d : Bool) : Bs := 47 :: (Lib.join xs [47] ++ if d && !xs.isEmpty then [47] else [])
def TextE (w : World) (xs : List Bs) (d : Bool) (e : Ending) (w' : World) : Prop := e = .returned (Sv (textL xs d)) ∧ Below w.heap.size w w'

/-- strings.Join, of a slice that reads as a list. -/
theorem join_any (A : Option Addr) (n c B : Nat) (xs : List Bs) (w : World) (hn : n = xs.length) (hc : n ≤ c) (hB : B ≤ w.heap.size) (hx : Strs w B A xs) (hl : (Lib.join xs [47]).length ≤ 200000) (hN : n ≤ 65536) :
    Calls Try.prog 35 #[.slice A n c, .string ⟨#[47]⟩] w fun e w' => e = .returned (Sv (Lib.join xs [47])) ∧ Below w.heap.size w w' := by
  subst hn
  cases xs with
  | nil => exact (Try.strings_Join_none A c ⟨#[47]⟩ w).mono fun e w' ⟨he, hw⟩ => ⟨he, by rw [hw]; exact Below.refl _ _⟩
  | cons x xs =>
    obtain ⟨b, off, rfl, hb, hcell⟩ := hx.plain (by simp)
    have e : ((x :: xs).map fun y => (⟨y.toArray⟩ : ByteArray)).map (·.data.toList) = x :: xs := by simp [List.map_map, Function.comp_def]
    have hl2 : ((x :: xs).map fun y => (⟨y.toArray⟩ : ByteArray)).length = (x :: xs).length := List.length_map _
    have := Try.strings_Join b off c ((x :: xs).map fun y => (⟨y.toArray⟩ : ByteArray)) ⟨#[47]⟩ w (fun j y hy => by
      rw [List.getElem?_map, Option.map_eq_some_iff] at hy
      obtain ⟨z, hz, rfl⟩ := hy
      exact hcell j z hz) (by omega) (by rw [hl2]; omega) (by rw [hl2]; exact hc) (by rw [e]; show (Lib.join (x :: xs) [47]).length ≤ _; omega)
    rw [hl2, e] at this
    exact this

set_option maxHeartbeats 400000 in
theorem text_any (A : Option Addr) (n c B : Nat) (d : Bool) (xs : List Bs) (w : World) (hn : n = xs.length) (hc : n ≤ c) (hB : B ≤ w.heap.size) (hx : Strs w B A xs) (hl : (Lib.join xs [47]).length ≤ 200000) (hN : n ≤ 65536) :
    Calls Try.prog 23 #[Pv A n c d] w (TextE w xs d) := by
  have b1 : Below w.heap.size w (w.alloc (.cells #[.slice A n c, .bool d] 25)) := (Below.refl _ _).alloc (Nat.le_refl _) _
  have HJ := join_any A n c B xs (w.alloc (.cells #[.slice A n c, .bool d] 25)) hn hc (by simp; omega) (hx.below (b1.mono hB)) hl hN
  have HN := Lib.hid hn
  clear hn hx
  generalize hj : Lib.join xs [47] = js at *
  have HJS := Lib.hid hj
  clear hj
  have hsz : (⟨js.toArray⟩ : ByteArray).size ≤ 200000 := by rw [Lib.size_eq]; simpa using hl
  have HT := Lib.hid (show textL xs false = 47 :: js by simp [textL, HJS.out])
  have HT1 := Lib.hid (show n = 0 → textL xs true = 47 :: js by
    intro h0
    have : xs = [] := List.eq_nil_of_length_eq_zero (by rw [← HN.out]; exact h0)
    subst this
    simp [textL, HJS.out])
  have HT2 := Lib.hid (show 0 < n → textL xs true = 47 :: (js ++ [47]) by
    intro h0
    have : xs ≠ [] := fun h => by have := HN.out; rw [h] at this; simp at this; omega
    cases xs with
    | nil => exact absurd rfl this
    | cons x xs => simp [textL, HJS.out])
  have e1 : (⟨#[47]⟩ : ByteArray) ++ ⟨js.toArray⟩ = ⟨(47 :: js).toArray⟩ := by
    apply ByteArray.ext
    simp
  have e2 : (⟨(47 :: js).toArray⟩ : ByteArray) ++ ⟨#[47]⟩ = ⟨(47 :: (js ++ [47])).toArray⟩ := by
    apply ByteArray.ext
    simp
  have HE := Lib.hid (And.intro e1 e2)
  clear e1 e2
  by_cases h0 : 0 < n
  all_goals
    cases d
    all_goals
      go_enter Try.func23, Try.ntmps23
      go_wp2_with (go_at_call 35; refine HJ.mono ?_; rintro e w1 ⟨rfl, hb⟩; obtain ⟨q0, q1, -, -, -⟩ := box_kept (by simp) hb)
      go_ret
      refine ⟨?_, b1.trans (hb.mono (by simp))⟩
      first
        | (rw [HT.out]; exact congrArg (fun z => Ending.returned (Value.string z)) HE.out.1)
        | (rw [HT2.out h0]; exact congrArg (fun z => Ending.returned (Value.string z)) (by rw [HE.out.1, HE.out.2]))
        | (rw [HT1.out (by omega)]; exact congrArg (fun z => Ending.returned (Value.string z)) HE.out.1)

theorem name_slash (w : World) : Calls Try.prog 16 #[.string ⟨#[97, 47]⟩] w fun e w' => e = .returned (.int .i64 22) ∧ Below w.heap.size w w' := by
  have HC := Try.strings_ContainsAny_laid ⟨#[97, 47]⟩ ⟨#[0, 47]⟩ w (by decide) (by decide) (by
    intro j b hj
    match j, hj with
    | 0, hj => simp at hj; subst hj; decide
    | 1, hj => simp at hj; subst hj; decide) (by
    intro j b hj
    match j, hj with
    | 0, hj => simp at hj; subst hj; decide
    | 1, hj => simp at hj; subst hj; decide)
  rw [show Lib.containsAny (⟨#[97, 47]⟩ : ByteArray).data.toList (⟨#[0, 47]⟩ : ByteArray).data.toList = true by decide] at HC
  go_enter Try.func16, Try.ntmps16
  go_wp2_with (go_at_call 32; refine HC.mono ?_; rintro e w1 ⟨rfl, hb⟩)
  go_ret
  exact ⟨rfl, hb⟩
end Go.Proofs.Ytlaceeiodlpmdaa
