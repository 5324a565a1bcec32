/- Memory's words: rows of claims; worlds that turn nothing below. -/
import Derived.Test.YtlplbpilpkmoaaaRows
import Derived.Test.YtlplbpilpkmoaaaMa
import Derived.WalkKit
import Derived.WalkSpells
import Derived.WalkLawsBesides
import Derived.Lib.Hide
import Derived.Deep.LoopGhost
import Derived.Deep.DeepMust
import Derived.Deep.DeepFit
import Derived.Deep.QuietTactic
import Derived.BigQuiet
import Derived.Below
import Derived.Deep.DeepCutAuto
import Derived.Deep.OwnRows
import Derived.Laws.AppendOwn
import Derived.Deep.MidRow
import Derived.Lib.SliceRun
namespace Go.Proofs.Ytlplbpilpkmoaaa.sc
open Go.RowKit
set_option linter.unusedVariables false
set_option linter.unusedSimpArgs false

theorem below_alloc (w : World) (o : Obj) : Below w.heap.size w (w.alloc o) := (Below.refl _ _).alloc (Nat.le_refl _) _
theorem below_step {w0 w w' : World} (h : Below w0.heap.size w0 w) (hb : Below w.heap.size w w') : Below w0.heap.size w0 w' := h.trans (hb.mono h.size)
theorem grownBy_trans {w w1 w2 : World} {r : Option Nat} (h : w.grownBy w1 r) (h' : w1.grownBy w2 r) : w.grownBy w2 r :=
  ⟨h'.os.trans h.os, h'.tape.trans h.tape, h'.output.trans h.output, Nat.le_trans h.size h'.size, fun k hk hr => (h'.block k (Nat.lt_of_lt_of_le hk h.size) hr).trans (h.block k hk hr)⟩
theorem grownBy_refl (w : World) (r : Option Nat) : w.grownBy w r := ⟨rfl, rfl, rfl, Nat.le_refl _, fun _ _ _ => rfl⟩
theorem grownBy_below {w w' : World} (h : Below w.heap.size w w') (r : Option Nat) : w.grownBy w' r := ⟨h.os, h.tape, h.output, h.size, fun k hk _ => h.block k hk⟩
theorem grownBy_set (w : World) (G o : Nat) (v : Value) : w.grownBy (w.setCell ⟨G, o, none⟩ v) (some G) :=
  ⟨rfl, rfl, rfl, by simp [World.setCell], fun k _ hr => Below.heap_setCell _ _ _ _ (fun e => hr (by rw [e]))⟩
def RetB (w : World) (b : Bool) (e : Ending) (w' : World) : Prop := e = .returned (.bool b) ∧ Below w.heap.size w w'

abbrev Pq (B : Nat) : Value := .pointer (some ⟨B, 0, none⟩)
abbrev Cv (k : Nat) (x y : Bool) : Value := .agg #[.int .i64 (k : Int), .bool x, .bool y]
def Cl.v (c : Cl) : Value := Cv c.task c.write c.held
def g (xs : List Cl) (i : Nat) : Cl := xs.getD i ⟨0, false, false⟩
theorem g_get {xs : List Cl} {i : Nat} (hi : i < xs.length) : g xs i = xs[i] := by simp [g, List.getD, List.getElem?_eq_getElem hi]
theorem g_mem {xs : List Cl} {i : Nat} (hi : i < xs.length) : g xs i ∈ xs := by rw [g_get hi]; exact List.getElem_mem hi
theorem g_set {xs : List Cl} {i : Nat} (hi : i < xs.length) (y : Cl) (k : Nat) : g (xs.set i y) k = if k = i then y else g xs k := by
  unfold g
  simp only [List.getD, List.getElem?_set]
  by_cases h : k = i
  · subst h; simp [hi]
  · simp [h, Ne.symm h]
theorem g_push (xs : List Cl) (x : Cl) (k : Nat) (hk : k ≤ xs.length) : g (xs ++ [x]) k = if k = xs.length then x else g xs k := by
  unfold g
  by_cases h : k = xs.length
  · subst h; simp [List.getD]
  · simp [List.getD, h, List.getElem?_append_left (show k < xs.length by omega)]
theorem g_app {pre r : List Cl} {c : Cl} : g (pre ++ c :: r) pre.length = c := by simp [g, List.getD]
structure At (w : World) (G i : Nat) (x : Cl) : Prop where
  k : w.cell? ⟨G, i * 3, none⟩ = some (.int .i64 (x.task : Int))
  t : w.cell? ⟨G, i * 3 + 1, none⟩ = some (.bool x.write)
  m : w.cell? ⟨G, i * 3 + 2, none⟩ = some (.bool x.held)
def Cells (f : Nat → Value) (xs : List Cl) : Prop := ∀ i, i < xs.length → f (i * 3) = .int .i64 ((g xs i).task : Int) ∧ f (i * 3 + 1) = .bool (g xs i).write ∧ f (i * 3 + 2) = .bool (g xs i).held
/-- Block G is a row of c claims, the first of which are xs. -/
def QRow (w : World) (G c : Nat) (xs : List Cl) : Prop := xs.length ≤ c ∧ c ≤ maxLen ∧ ∃ f, w.rowIs G 80 (c * 3) f ∧ Cells f xs
section
variable {w w' : World} {G c : Nat} {xs : List Cl}
theorem QRow.at_ (h : QRow w G c xs) {i : Nat} (hi : i < xs.length) : At w G i (g xs i) := by
  obtain ⟨h1, h2, f, hf, hc⟩ := h
  obtain ⟨a, b, d⟩ := hc i hi
  exact ⟨by rw [hf.cell (by omega), a], by rw [hf.cell (by omega), b], by rw [hf.cell (by omega), d]⟩
theorem QRow.frozen (h : QRow w G c xs) (o : Nat) : w.frozen? ⟨G, o, none⟩ = false := by
  obtain ⟨_, _, f, hf, _⟩ := h
  exact hf.frozen o
theorem QRow.lt (h : QRow w G c xs) : G < w.heap.size := by
  obtain ⟨_, _, f, hf, _⟩ := h
  exact hf.lt
theorem QRow.of_block (h : QRow w G c xs) (e : w'.heap[G]? = w.heap[G]?) : QRow w' G c xs := by
  obtain ⟨h1, h2, f, hf, hc⟩ := h
  exact ⟨h1, h2, f, hf.of_block e, hc⟩
/-- The world behind a store of a claim. -/
def set3 (w : World) (G i : Nat) (y : Cl) : World := ((w.setCell ⟨G, i * 3, none⟩ (.int .i64 (y.task : Int))).setCell ⟨G, i * 3 + 1, none⟩ (.bool y.write)).setCell ⟨G, i * 3 + 2, none⟩ (.bool y.held)
theorem QRow.set (h : QRow w G c xs) {i : Nat} (hi : i < xs.length) (y : Cl) : QRow (set3 w G i y) G c (xs.set i y) := by
  obtain ⟨h1, h2, f, hf, hc⟩ := h
  refine ⟨by simpa using h1, h2, _, ((hf.set _ _).set _ _).set _ _, fun k hk => ?_⟩
  rw [List.length_set] at hk
  rw [g_set hi]
  obtain ⟨a, b, d⟩ := hc k hk
  by_cases e : k = i
  · subst e
    simp
  · have e1 : ¬ k * 3 = i * 3 := by omega
    have e2 : ¬ k * 3 = i * 3 + 1 := by omega
    have e3 : ¬ k * 3 = i * 3 + 2 := by omega
    have e4 : ¬ k * 3 + 1 = i * 3 := by omega
    have e6 : ¬ k * 3 + 2 = i * 3 := by omega
    have e7 : ¬ k * 3 + 2 = i * 3 + 1 := by omega
    simp [e, e1, e2, e3, e4, e6, e7, a, b, d]
/-- The held flag alone. -/
theorem QRow.hold (h : QRow w G c xs) {i : Nat} (hi : i < xs.length) : QRow (w.setCell ⟨G, i * 3 + 2, none⟩ (.bool true)) G c (xs.set i (g xs i).hold) := by
  obtain ⟨h1, h2, f, hf, hc⟩ := h
  refine ⟨by simpa using h1, h2, _, hf.set _ _, fun k hk => ?_⟩
  rw [List.length_set] at hk
  rw [g_set hi]
  obtain ⟨a, b, d⟩ := hc k hk
  by_cases e : k = i
  · subst e
    simp [Cl.hold, a, b]
  · have e1 : ¬ k * 3 = i * 3 + 2 := by omega
    have e2 : ¬ k * 3 + 1 = i * 3 + 2 := by omega
    have e3 : ¬ k * 3 + 2 = i * 3 + 2 := by omega
    have e4 : ¬ k * 3 = i * 3 := by omega
    have e5 : ¬ k * 3 = i * 3 + 1 := by omega
    simp [e, e1, e2, e3, e4, e5, a, b, d]
theorem grownBy_set3 (w : World) (G i : Nat) (y : Cl) : w.grownBy (set3 w G i y) (some G) := grownBy_trans (grownBy_trans (grownBy_set _ _ _ _) (grownBy_set _ _ _ _)) (grownBy_set _ _ _ _)
end
/-- Block o of the row, if there is one. -/
abbrev Ao (o : Option Nat) : Option Addr := o.map fun G => ⟨G, 0, none⟩
/-- A slice of claims, nil or not. -/
def Sl (w : World) (o : Option Nat) (c : Nat) (xs : List Cl) : Prop := match o with | none => xs = [] ∧ c = 0 | some G => QRow w G c xs
theorem Sl.of_block {w w' : World} {o : Option Nat} {c : Nat} {xs : List Cl} (h : Sl w o c xs) (hb : ∀ G, o = some G → w'.heap[G]? = w.heap[G]?) : Sl w' o c xs := by
  cases o with
  | none => exact h
  | some G => exact QRow.of_block h (hb G rfl)
theorem Sl.below {w w' : World} {o : Option Nat} {c : Nat} {xs : List Cl} (h : Sl w o c xs) (hb : Below w.heap.size w w') : Sl w' o c xs := by
  cases o with
  | none => exact h
  | some G => exact QRow.of_block h (hb.block _ (QRow.lt h))
theorem Sl.nil {w : World} : Sl w none 0 [] := ⟨rfl, rfl⟩

/-! The row as the append laws tell it. -/
def CellsL (L : List Value) (xs : List Cl) : Prop := L.length = xs.length * 3 ∧ ∀ i, i < xs.length → L[i * 3]? = some (.int .i64 ((g xs i).task : Int)) ∧ L[i * 3 + 1]? = some (.bool (g xs i).write) ∧ L[i * 3 + 2]? = some (.bool (g xs i).held)
theorem QRow.owns {w : World} {G c lo : Nat} {xs : List Cl} (h : QRow w G c xs) (hlo : lo ≤ G) : ∃ L, w.ownsRow lo 80 3 (.slice (some ⟨G, 0, none⟩) xs.length c) xs.length L ∧ CellsL L xs := by
  obtain ⟨h1, h2, f, ⟨cur, hg, hs, hf⟩, hc⟩ := h
  have hl : (cur.toList.take (xs.length * 3)).length = xs.length * 3 := by rw [List.length_take]; simp; omega
  refine ⟨cur.toList.take (xs.length * 3), ⟨hl, .inr ⟨G, c, cur, rfl, hlo, hg, h1, h2, hs, rfl⟩⟩, hl, fun i hi => ?_⟩
  obtain ⟨a, b, d⟩ := hc i hi
  have hq : ∀ k, k < xs.length * 3 → (cur.toList.take (xs.length * 3))[k]? = some (f k) := fun k hk => by
    rw [List.getElem?_take_of_lt hk, Array.getElem?_toList]; exact hf k (by omega)
  exact ⟨by rw [hq _ (by omega), a], by rw [hq _ (by omega), b], by rw [hq _ (by omega), d]⟩
theorem QRow.of_owns {w : World} {G c n lo : Nat} {xs : List Cl} {L : List Value} (h : w.ownsRow lo 80 3 (.slice (some ⟨G, 0, none⟩) n c) n L) (hn : n = xs.length) (hL : CellsL L xs) : QRow w G c xs ∧ lo ≤ G := by
  subst hn
  rcases h.2 with ⟨e, _⟩ | ⟨G', c', cur, hv, hb, hg, h1, h2, hs, ht⟩
  · cases e
  · injection hv with e1 e2 e3
    injection e1 with e1
    injection e1 with e1
    subst e1; subst e3
    have hq : ∀ k, k < xs.length * 3 → L[k]? = cur[k]? := fun k hk => by rw [← ht, List.getElem?_take_of_lt hk, Array.getElem?_toList]
    have hz : xs.length * 3 ≤ c * 3 := by omega
    refine ⟨⟨h1, h2, fun k => cur.getD k undef, ⟨cur, hg, hs, fun i hi => by simp [Array.getD_eq_getD_getElem?, Array.getElem?_eq_getElem (show i < cur.size by omega)]⟩, fun i hi => ?_⟩, hb⟩
    obtain ⟨a, b, d⟩ := hL.2 i hi
    rw [hq _ (by omega)] at a b d
    simp [Array.getD_eq_getD_getElem?, a, b, d]
theorem CellsL.push {L : List Value} {xs : List Cl} (h : CellsL L xs) (x : Cl) : CellsL (L ++ [.int .i64 (x.task : Int), .bool x.write, .bool x.held]) (xs ++ [x]) := by
  refine ⟨by rw [List.length_append, h.1]; simp; omega, fun i hi => ?_⟩
  rw [List.length_append] at hi
  simp only [List.length_cons, List.length_nil] at hi
  rw [g_push xs x i (by omega)]
  by_cases e : i = xs.length
  · subst e
    simp [h.1]
  · obtain ⟨a, b, d⟩ := h.2 i (by omega)
    rw [if_neg e, List.getElem?_append_left (by rw [h.1]; omega), List.getElem?_append_left (by rw [h.1]; omega), List.getElem?_append_left (by rw [h.1]; omega)]
    exact ⟨a, b, d⟩
theorem CellsL.nil : CellsL [] [] := ⟨rfl, fun i hi => by simp at hi⟩
theorem Sl.owns {w : World} {o : Option Nat} {c lo : Nat} {xs : List Cl} (h : Sl w o c xs) (hlo : ∀ G, o = some G → lo ≤ G) : ∃ L, w.ownsRow lo 80 3 (.slice (Ao o) xs.length c) xs.length L ∧ CellsL L xs := by
  cases o with
  | none =>
    obtain ⟨h1, h2⟩ := h
    subst h1; subst h2
    exact ⟨[], World.ownsRow_nil _ _ _ _, CellsL.nil⟩
  | some G => exact QRow.owns h (hlo G rfl)

end Go.Proofs.Ytlplbpilpkmoaaa.sc
