/- Rows that are cut at the front; one act on one lock. -/
import Derived.Test.YtlplbpilpkmoaaaRc
namespace Go.Proofs.Ytlplbpilpkmoaaa.sc
open Go.RowKit Go.Shelf
set_option linter.unusedVariables false
set_option linter.unusedSimpArgs false

/-- Rows of numbers from some place on. -/
def IO (w : World) (A : Option Addr) (n : Nat) (L : List Int) : Prop := n = L.length ∧ ∀ j, j < n → ∃ gg o, A = some ⟨gg, o, none⟩ ∧ gg < w.heap.size ∧ w.cell? ⟨gg, o + j, none⟩ = some (.int .i64 (L.getD j 0))
theorem IR.io {w : World} {A : Option Addr} {n : Nat} {L : List Int} (h : IR w A n L) : IO w A n L :=
  ⟨h.1, fun j hj => by obtain ⟨gg, e, hl, hc⟩ := h.2 j hj; exact ⟨gg, 0, e, hl, by rw [Nat.zero_add]; exact hc⟩⟩
theorem IO.below {w w' : World} {A : Option Addr} {n : Nat} {L : List Int} (h : IO w A n L) (hb : Below w.heap.size w w') : IO w' A n L :=
  ⟨h.1, fun j hj => by obtain ⟨gg, o, e, hl, hc⟩ := h.2 j hj; exact ⟨gg, o, e, Nat.lt_of_lt_of_le hl hb.size, (hb.cell (p := ⟨gg, o + j, none⟩) hl).trans hc⟩⟩
theorem size34 (W : World) : (sizeOf (Try.prog.elem 33)).run Try.prog W = .ok 1 W := by kernel_rfl
/-- The first one off. -/
theorem run_tail34 (g0 o0 q c : Nat) (hl : q + 1 ≤ c) : ∃ ad' c', (∀ W, (Instr.slice 33 (.slice (some ⟨g0, o0, none⟩) (q + 1) c) (some (.int .i64 1)) none none).run Try.prog W = .ok (.slice (some ad') q c') W) ∧ ((q = 0 ∨ ad' = ⟨g0, o0 + 1, none⟩) ∧ q ≤ c') := by
  refine ⟨if c = 1 then ⟨g0, o0, none⟩ else ⟨g0, o0 + 1, none⟩, c - 1, fun W => ?_, ?_, by omega⟩
  · rw [run_slice_l (P := Try.prog) W 33 _ _ _ (by kernel_rfl) .i64 1 (by decide) (by omega), size34]
    by_cases hc : c = 1 <;> simp [Result.andThen, sliced, hc, Addr.add]
  · by_cases hc : c = 1
    · exact .inl (by omega)
    · rw [if_neg hc]; exact .inr rfl
theorem IO.tail {w : World} {g0 o0 q : Nat} {x : Int} {L : List Int} {ad' : Addr} (h : IO w (some ⟨g0, o0, none⟩) (q + 1) (x :: L)) (ha : q = 0 ∨ ad' = ⟨g0, o0 + 1, none⟩) : IO w (some ad') q L := by
  have hl : q = L.length := by have := h.1; simpa using this
  refine ⟨hl, fun j hj => ?_⟩
  obtain ⟨gg, o, e, hlt, hc⟩ := h.2 (j + 1) (by omega)
  injection e with e
  injection e with e1 e2
  subst e1; subst e2
  rcases ha with h0 | h0
  · omega
  · refine ⟨g0, o0 + 1, by rw [h0], hlt, ?_⟩
    rw [show o0 + 1 + j = o0 + (j + 1) by omega, hc]
    rfl
theorem IO.head {w : World} {A : Option Addr} {q : Nat} {x : Int} {L : List Int} (h : IO w A (q + 1) (x :: L)) : ∃ g0 o0, A = some ⟨g0, o0, none⟩ ∧ g0 < w.heap.size ∧ w.cell? ⟨g0, o0, none⟩ = some (.int .i64 x) := by
  obtain ⟨gg, o, e, hlt, hc⟩ := h.2 0 (by omega)
  exact ⟨gg, o, e, hlt, hc⟩
theorem IO.ad {w : World} {A : Option Addr} {n : Nat} {L : List Int} (h : IO w A n L) (hn : 0 < n) : ∃ g0 o0, A = some ⟨g0, o0, none⟩ ∧ ∀ j, j < n → w.cell? ⟨g0, o0 + j, none⟩ = some (.int .i64 (L.getD j 0)) := by
  obtain ⟨gg, o, e, hlt, hc⟩ := h.2 0 hn
  refine ⟨gg, o, e, fun j hj => ?_⟩
  obtain ⟨g2, o2, e2, _, hc2⟩ := h.2 j hj
  rw [e] at e2
  injection e2 with e2
  injection e2 with e3 e4
  subst e3; subst e4
  exact hc2
/-- An act on lock 0 alone: those of kind 2 do nothing. -/
def act0 (s : Sd) (x : Ac) : Sd := if x.kind = 0 then (s.lock x.task 0 x.wr).2.2 else if x.kind = 1 then (s.unlock x.task 0).2 else s
theorem mem_take_succ {T : List Int} {k : Nat} {a : Int} (hk : k < T.length) : a ∈ T.take (k + 1) ↔ a ∈ T.take k ∨ T.getD k 0 = a := by
  rw [List.take_succ_eq_append_getElem hk, List.mem_append]
  simp only [List.mem_singleton, List.getD, List.getElem?_eq_getElem hk, Option.getD_some]
  exact or_congr Iff.rfl eq_comm
/-- Whether it came among the first j. -/
def Seen (bb : Bool) (b : Int) (T : List Int) (j : Nat) : Prop := bb = true ↔ b ∈ T.take j
theorem nat_at {L : List Nat} {j : Nat} (hj : j < L.length) : (nat L).getD j 0 = ((L[j] : Nat) : Int) := by
  unfold nat
  rw [List.getD, List.getElem?_map, List.getElem?_eq_getElem hj]
  rfl
theorem nat_app (L K : List Nat) : nat (L ++ K) = nat L ++ nat K := by simp [nat]
theorem nat_cons (a : Nat) (L : List Nat) : nat (a :: L) = (a : Int) :: nat L := rfl
theorem nat_len (L : List Nat) : (nat L).length = L.length := by simp [nat]

end Go.Proofs.Ytlplbpilpkmoaaa.sc
