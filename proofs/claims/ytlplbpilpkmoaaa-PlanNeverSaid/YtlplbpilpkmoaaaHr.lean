/- The row of a queue's items: how it is stored into; 'Swap'. -/
import Derived.Test.YtlplbpilpkmoaaaHn
import Derived.Deep.OwnRows
import Derived.Laws.AppendOwn
namespace Go.Proofs.Ytlplbpilpkmoaaa.hp
open Go.RowKit
set_option linter.unusedVariables false

def Cells (f : Nat → Value) (xs : Array It) : Prop := ∀ i, i < xs.size → f (i * 3) = .int .i64 (g xs i).d ∧ f (i * 3 + 1) = .int .i64 (g xs i).n ∧ f (i * 3 + 2) = .bool (g xs i).w
/-- Block G is a row of c items, the first of which are xs. -/
def QRow (w : World) (G c : Nat) (xs : Array It) : Prop := xs.size ≤ c ∧ c ≤ maxLen ∧ ∃ f, w.rowIs G 39 (c * 3) f ∧ Cells f xs
theorem QRow.at_ {w : World} {G c : Nat} {xs : Array It} (h : QRow w G c xs) {i : Nat} (hi : i < xs.size) : At w G i (g xs i) := by
  obtain ⟨h1, h2, f, hf, hc⟩ := h
  obtain ⟨a, b, d⟩ := hc i hi
  exact ⟨by rw [hf.cell (by omega), a], by rw [hf.cell (by omega), b], by rw [hf.cell (by omega), d]⟩
theorem QRow.frozen {w : World} {G c : Nat} {xs : Array It} (h : QRow w G c xs) (o : Nat) : w.frozen? ⟨G, o, none⟩ = false := by
  obtain ⟨_, _, f, hf, _⟩ := h
  exact hf.frozen o
theorem QRow.lt {w : World} {G c : Nat} {xs : Array It} (h : QRow w G c xs) : G < w.heap.size := by
  obtain ⟨_, _, f, hf, _⟩ := h
  exact hf.lt
theorem QRow.of_block {w w' : World} {G c : Nat} {xs : Array It} (h : QRow w G c xs) (e : w'.heap[G]? = w.heap[G]?) : QRow w' G c xs := by
  obtain ⟨h1, h2, f, hf, hc⟩ := h
  exact ⟨h1, h2, f, hf.of_block e, hc⟩
theorem QRow.drew {w : World} {G c : Nat} {xs : Array It} (h : QRow w G c xs) : QRow w.drew G c xs := h.of_block rfl
/-- The world behind a store of an item. -/
def set3 (w : World) (G i : Nat) (y : It) : World := ((w.setCell ⟨G, i * 3, none⟩ (.int .i64 y.d)).setCell ⟨G, i * 3 + 1, none⟩ (.int .i64 y.n)).setCell ⟨G, i * 3 + 2, none⟩ (.bool y.w)
theorem g_set {xs : Array It} {i : Nat} (hi : i < xs.size) (y : It) (k : Nat) : g (xs.setIfInBounds i y) k = if k = i then y else g xs k := by
  unfold g
  simp only [Array.getD_eq_getD_getElem?, Array.getElem?_setIfInBounds]
  by_cases h : k = i
  · subst h; simp [hi]
  · simp [h, Ne.symm h]
theorem QRow.set {w : World} {G c : Nat} {xs : Array It} (h : QRow w G c xs) {i : Nat} (hi : i < xs.size) (y : It) : QRow (set3 w G i y) G c (xs.setIfInBounds i y) := by
  obtain ⟨h1, h2, f, hf, hc⟩ := h
  refine ⟨by simpa using h1, h2, _, ((hf.set _ _).set _ _).set _ _, fun k hk => ?_⟩
  rw [Array.size_setIfInBounds] at hk
  rw [g_set hi]
  obtain ⟨a, b, d⟩ := hc k hk
  by_cases e : k = i
  · subst e
    simp
  · have e1 : ¬ k * 3 = i * 3 := by omega
    have e2 : ¬ k * 3 = i * 3 + 1 := by omega
    have e3 : ¬ k * 3 = i * 3 + 2 := by omega
    have e4 : ¬ k * 3 + 1 = i * 3 := by omega
    have e6 : ¬ k * 3 + 2 = i * 3 := by omega
    have e7 : ¬ k * 3 + 2 = i * 3 + 1 := by omega
    simp [e, e1, e2, e3, e4, e6, e7, a, b, d]
theorem grownBy_trans {w w1 w2 : World} {r : Option Nat} (h : w.grownBy w1 r) (h' : w1.grownBy w2 r) : w.grownBy w2 r :=
  ⟨h'.os.trans h.os, h'.tape.trans h.tape, h'.output.trans h.output, Nat.le_trans h.size h'.size, fun k hk hr => (h'.block k (Nat.lt_of_lt_of_le hk h.size) hr).trans (h.block k hk hr)⟩
theorem grownBy_refl (w : World) (r : Option Nat) : w.grownBy w r := ⟨rfl, rfl, rfl, Nat.le_refl _, fun _ _ _ => rfl⟩
theorem grownBy_below {w w' : World} (h : Below w.heap.size w w') (r : Option Nat) : w.grownBy w' r := ⟨h.os, h.tape, h.output, h.size, fun k hk _ => h.block k hk⟩
theorem grownBy_set (w : World) (G o : Nat) (v : Value) : w.grownBy (w.setCell ⟨G, o, none⟩ v) (some G) :=
  ⟨rfl, rfl, rfl, by simp [World.setCell], fun k _ hr => Below.heap_setCell _ _ _ _ (fun e => hr (by rw [e]))⟩
theorem grownBy_set3 (w : World) (G i : Nat) (y : It) : w.grownBy (set3 w G i y) (some G) := grownBy_trans (grownBy_trans (grownBy_set _ _ _ _) (grownBy_set _ _ _ _)) (grownBy_set _ _ _ _)
theorem grownBy_drew (w : World) (r : Option Nat) : w.grownBy w.drew r := ⟨rfl, rfl, rfl, Nat.le_refl _, fun _ _ _ => rfl⟩

def SwapE (w : World) (G c : Nat) (ys : Array It) (e : Ending) (w' : World) : Prop := e = .returned (.tuple #[]) ∧ QRow w' G c ys ∧ w.grownBy w' (some G)
theorem swapE_of {w : World} {G c : Nat} {xs : Array It} (h : QRow w G c xs) {i j : Nat} (hi : i < xs.size) (hj : j < xs.size) : SwapE w G c (swp xs i j) (.returned (.tuple #[])) (set3 (set3 w G i (g xs j)) G j (g xs i)).drew :=
  ⟨rfl, ((h.set hi _).set (by simpa using hj) _).drew, grownBy_trans (grownBy_trans (grownBy_set3 _ _ _ _) (grownBy_set3 _ _ _ _)) (grownBy_drew _ _)⟩

set_option maxHeartbeats 2000000 in
theorem swap_ne (G c n i j : Nat) (xs : Array It) (w : World) (hn : n = xs.size) (hi : i < n) (hj : j < n) (hij : i ≠ j) (h : QRow w G c xs) (hN : n ≤ 1000000) :
    Calls Try.prog 65 #[.slice (some ⟨G, 0, none⟩) n c, .int .i64 i, .int .i64 j] w (SwapE w G c (swp xs i j)) := by
  have HF := Lib.hid (swapE_of h (i := i) (j := j) (by omega) (by omega))
  have hx := h.at_ (i := i) (by omega)
  have hy := h.at_ (i := j) (by omega)
  have hfz := h.frozen
  unfold set3 at HF
  generalize g xs i = x at *
  generalize g xs j = y at *
  generalize swp xs i j = ys at *
  have f0 := hx.k
  have f1 := hx.t
  have f2 := hx.m
  have f3 := hy.k
  have f4 := hy.t
  have f5 := hy.m
  have n0 : i * 3 ≠ j * 3 := by omega
  have n1 : i * 3 ≠ j * 3 + 1 := by omega
  have n2 : i * 3 ≠ j * 3 + 2 := by omega
  have n3 : i * 3 + 1 ≠ j * 3 := by omega
  have n5 : i * 3 + 1 ≠ j * 3 + 2 := by omega
  have n6 : i * 3 + 2 ≠ j * 3 := by omega
  have n7 : i * 3 + 2 ≠ j * 3 + 1 := by omega
  clear hx hy hn h
  go_enter Try.func65, Try.ntmps65
  go_wp2_with fail
  go_region
  all_goals (go_wp2_with fail; go_end0; exact HF.out)

set_option maxHeartbeats 2000000 in
theorem swap_eq (G c n i : Nat) (xs : Array It) (w : World) (hn : n = xs.size) (hi : i < n) (h : QRow w G c xs) (hN : n ≤ 1000000) :
    Calls Try.prog 65 #[.slice (some ⟨G, 0, none⟩) n c, .int .i64 i, .int .i64 i] w (SwapE w G c (swp xs i i)) := by
  have HF := Lib.hid (swapE_of h (i := i) (j := i) (by omega) (by omega))
  have hx := h.at_ (i := i) (by omega)
  have hfz := h.frozen
  unfold set3 at HF
  generalize g xs i = x at *
  generalize swp xs i i = ys at *
  have f0 := hx.k
  have f1 := hx.t
  have f2 := hx.m
  clear hx hn h
  go_enter Try.func65, Try.ntmps65
  go_wp2_with fail
  go_region
  all_goals (go_wp2_with fail; go_end0; exact HF.out)
theorem swap_any (G c n i j : Nat) (xs : Array It) (w : World) (hn : n = xs.size) (hi : i < n) (hj : j < n) (h : QRow w G c xs) (hN : n ≤ 1000000) :
    Calls Try.prog 65 #[.slice (some ⟨G, 0, none⟩) n c, .int .i64 i, .int .i64 j] w (SwapE w G c (swp xs i j)) := by
  by_cases e : i = j
  · subst e; exact swap_eq G c n i xs w hn hi h hN
  · exact swap_ne G c n i j xs w hn hi hj e h hN

theorem len_any (A : Option Addr) (n c : Nat) (w : World) : Calls Try.prog 63 #[.slice A n c] w (fun e w' => e = .returned (.int .i64 n) ∧ w = w') := by
  go_enter Try.func63, Try.ntmps63
  go_wp2
  go_ret
  exact ⟨rfl, rfl⟩
end Go.Proofs.Ytlplbpilpkmoaaa.hp
