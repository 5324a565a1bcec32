/- The closure that takes bytes one by one, and what is made of them. -/
import Derived.Test.YtoomdgjppfmdlaaCf
namespace Go.Proofs.Ytoomdgjppfmdlaa
open Go.RowKit
set_option linter.unusedVariables false
set_option linter.unusedSimpArgs false

abbrev Pq (B : Nat) : Value := .pointer (some ⟨B, 0, none⟩)
/-- The closure's value: its place and its bytes lie in boxes P and Q. -/
abbrev Fv (P Q : Nat) : Value := .func (.func 20) #[] #[Pq P, Pq Q]
/-- All that is turned of what was there is block P. -/
structure OnlyP (P : Nat) (w w' : World) : Prop where
  os : w'.os = w.os
  tape : w'.tape = w.tape
  output : w'.output = w.output
  size : w.heap.size ≤ w'.heap.size
  block : ∀ k, k < w.heap.size → k ≠ P → w'.heap[k]? = w.heap[k]?
theorem OnlyP.refl (P : Nat) (w : World) : OnlyP P w w := ⟨rfl, rfl, rfl, Nat.le_refl _, fun _ _ _ => rfl⟩
theorem OnlyP.trans {P : Nat} {w w1 w2 : World} (h : OnlyP P w w1) (k : OnlyP P w1 w2) : OnlyP P w w2 :=
  ⟨k.os.trans h.os, k.tape.trans h.tape, k.output.trans h.output, Nat.le_trans h.size k.size, fun j hj hP => (k.block j (Nat.lt_of_lt_of_le hj h.size) hP).trans (h.block j hj hP)⟩
theorem OnlyP.of_below {P : Nat} {w w' : World} (h : Below w.heap.size w w') : OnlyP P w w' := ⟨h.os, h.tape, h.output, h.size, fun k hk _ => h.block k hk⟩
theorem OnlyP.cell (w : World) (P : Nat) (v : Value) : OnlyP P w (w.setCell ⟨P, 0, none⟩ v) := ⟨rfl, rfl, rfl, by simp [World.setCell], fun k hk hF => Below.heap_setCell _ _ _ _ hF⟩
theorem OnlyP.below {P B : Nat} {w0 w w' : World} (h : Below B w0 w) (ho : OnlyP P w w') (hB : B ≤ w.heap.size) (hP : B ≤ P) : Below B w0 w' :=
  h.trans ⟨ho.os, ho.tape, ho.output, by exact ho.size, fun k hk => ho.block k (by omega) (by omega)⟩
/-- The closure stands at place i of the bytes l. -/
structure Nx (w : World) (P Q : Nat) (A : Option Addr) (n c : Nat) (l : Bs) (i : Nat) : Prop where
  at_ : w.cell? ⟨P, 0, none⟩ = some (.int .i64 ((min i n : Nat) : Int))
  fz : w.frozen? ⟨P, 0, none⟩ = false
  sl : w.cell? ⟨Q, 0, none⟩ = some (.slice A n c)
  byt : Byt w Q A l
  len : n = l.length
  le : n ≤ 100000
  ne : Q < P
  lt : P < w.heap.size
theorem Nx.below {w w' : World} {P Q n c i : Nat} {A : Option Addr} {l : Bs} (h : Nx w P Q A n c l i) (hb : Below w.heap.size w w') : Nx w' P Q A n c l i :=
  have hQ : Q < w.heap.size := by have := h.ne; have := h.lt; omega
  ⟨(hb.cell (p := ⟨P, 0, none⟩) h.lt).trans h.at_, (hb.frozen (p := ⟨P, 0, none⟩) h.lt).trans h.fz, (hb.cell (p := ⟨Q, 0, none⟩) hQ).trans h.sl, h.byt.keep fun b hb2 => hb.block b (by omega), h.len, h.le, h.ne, by have := hb.size; have := h.lt; omega⟩
/-- What is made of bytes: the value, and the closure stands behind them. -/
def NextE (w : World) (P Q : Nat) (A : Option Addr) (n c : Nat) (l : Bs) (v : Value) (i : Nat) (e : Ending) (w' : World) : Prop := e = .returned v ∧ Nx w' P Q A n c l i ∧ OnlyP P w w'

theorem Nx.far {w : World} {P Q n c i X j : Nat} {A : Option Addr} {l : Bs} (h : Nx w P Q A n c l i) (hX : P < X) (v : Value) : Nx (w.setCell ⟨X, j, none⟩ v) P Q A n c l i := by
  have hne := h.ne
  refine ⟨?_, ?_, ?_, ?_, h.len, h.le, h.ne, by rw [World.size_setCell]; exact h.lt⟩
  · exact (World.cell?_setCell_other w _ _ _ (by intro e; injection e with e; omega)).trans h.at_
  · rw [World.frozen?_setCell]; exact h.fz
  · exact (World.cell?_setCell_other w _ _ _ (by intro e; injection e with e; omega)).trans h.sl
  · exact h.byt.keep fun b hb2 => Below.heap_setCell _ _ _ _ (by show b ≠ X; omega)
theorem OnlyP.far {P X j : Nat} {w w' : World} (h : OnlyP P w w') (hX : w.heap.size ≤ X) (v : Value) : OnlyP P w (w'.setCell ⟨X, j, none⟩ v) :=
  ⟨h.os, h.tape, h.output, by rw [World.size_setCell]; exact h.size, fun k hk hP => (Below.heap_setCell _ _ _ _ (by show k ≠ X; omega)).trans (h.block k hk hP)⟩
theorem next_end {w : World} {P Q n c i : Nat} {A : Option Addr} {l : Bs} (h : Nx w P Q A n c l i) (hi : n ≤ i) : Nx w P Q A n c l (i + 1) ∧ at_ l i = 0 :=
  ⟨⟨by rw [Nat.min_eq_right (by omega)]; have := h.at_; rwa [Nat.min_eq_right hi] at this, h.fz, h.sl, h.byt, h.len, h.le, h.ne, h.lt⟩, at_out (by have := h.len; omega)⟩
theorem next_on {w : World} {P Q n c i : Nat} {A : Option Addr} {l : Bs} (h : Nx w P Q A n c l i) (hi : i < n) : Nx (w.setCell ⟨P, 0, none⟩ (.int .i64 ((i + 1 : Nat) : Int))) P Q A n c l (i + 1) := by
  have hne := h.ne
  refine ⟨?_, ?_, ?_, ?_, h.len, h.le, h.ne, by rw [World.size_setCell]; exact h.lt⟩
  · rw [Nat.min_eq_left (by omega)]
    exact World.cell?_setCell_same w _ _ h.at_
  · rw [World.frozen?_setCell]; exact h.fz
  · exact (World.cell?_setCell_other w _ _ _ (by intro e; injection e with e; omega)).trans h.sl
  · exact h.byt.keep fun b hb2 => Below.heap_setCell _ _ _ _ (by show b ≠ P; omega)

set_option maxHeartbeats 1000000 in
theorem next_any {P Q n c i : Nat} {A : Option Addr} {l : Bs} (w : World) (h : Nx w P Q A n c l i) : Calls Try.prog 20 #[Pq P, Pq Q] w (NextE w P Q A n c l (.int .i64 (at_ l i : Nat)) (i + 1)) := by
  by_cases hi : n ≤ i
  · obtain ⟨h1, h2⟩ := next_end h hi
    rw [h2]
    have H1 := Lib.hid h1
    have hat := h.at_
    have hsl := h.sl
    rw [Nat.min_eq_right hi] at hat
    have hle := h.le
    clear h h1 h2
    go_enter Try.func20, Try.ntmps20
    go_wp2_with fail
    go_ret
    exact ⟨rfl, H1.out, OnlyP.refl _ _⟩
  · have hin : i < n := by omega
    have H1 := Lib.hid (next_on h hin)
    have hil : i < l.length := by have := h.len; omega
    obtain ⟨G, off, rfl, hG, hc⟩ := h.byt i _ (List.getElem?_eq_getElem hil)
    have hv := at_in hil
    rw [hv]
    have h256 := (l[i]).toNat_lt
    generalize l[i] = x at *
    have hat := h.at_
    have hsl := h.sl
    have hfz := h.fz
    have hne := h.ne
    rw [Nat.min_eq_left (by omega)] at hat
    have hle := h.le
    have hPG : G ≠ P := by omega
    have hb : ((i : Int) == (n : Int)) = false := by simp; omega
    clear h hv hil
    go_enter Try.func20, Try.ntmps20
    go_wp2_with fail
    go_ret
    exact ⟨rfl, by first | exact H1.out | simpa using H1.out, OnlyP.cell _ _ _⟩
end Go.Proofs.Ytoomdgjppfmdlaa
