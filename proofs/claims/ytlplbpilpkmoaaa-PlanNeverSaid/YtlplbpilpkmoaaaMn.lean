/- A schedule with what it may not touch; 'play', 'same'. -/
import Derived.Test.YtlplbpilpkmoaaaMl
import Derived.Test.YtlplbpilpkmoaaaMm
import Derived.Test.YtlplbpilpkmoaaaMf
namespace Go.Proofs.Ytlplbpilpkmoaaa.sc
open Go.RowKit Go.Shelf
set_option linter.unusedVariables false
set_option linter.unusedSimpArgs false

section
variable {w0 w w' : World} {P : Nat} {X : Nat → Prop} {s : Sd}
theorem SY.step {B M : Nat} {tg tg' : Nat → Tag} {f' : Int → Option Value} {r : Sd} (hx : ∀ b, X b → b < w.heap.size ∧ tg b = .no) (h' : SbX w0 w' P B M tg' f' r) (hk : Kp tg tg' w w') : SY w0 w' P X r ∧ Same X w w' :=
  ⟨⟨B, M, tg', f', h', fun b hb => ⟨Nat.lt_of_lt_of_le (hx b hb).1 hk.only.size, Classical.byContradiction fun e => hk.tag b (hx b hb).1 e (hx b hb).2⟩⟩, fun b hb => hk.only.block b (hx b hb).1 (by rw [(hx b hb).2]; simp)⟩
theorem y_new (hb : Below w0.heap.size w0 w) (n : Nat) (hn : n ≤ 64) : Calls Try.prog 20 #[.int .i64 (n : Int)] w (fun e w' => ∃ P, e = .returned (Pq P) ∧ SY w0 w' P (fun b => b < w.heap.size) (Sd.new n) ∧ Below w.heap.size w w') :=
  (new_any hb n hn).mono fun e w' ⟨P, B, M, tg, f, he, hs, hb2, ht⟩ => ⟨P, he, ⟨B, M, tg, f, hs, fun b hb3 => ⟨Nat.lt_of_lt_of_le hb3 hb2.size, ht b hb3⟩⟩, hb2⟩
def YL (w0 w : World) (P : Nat) (X : Nat → Prop) (r : Bool × Int × Sd) (e : Ending) (w' : World) : Prop := e = .returned (.tuple #[.bool r.1, .int .i64 r.2.1]) ∧ SY w0 w' P X r.2.2 ∧ Same X w w'
def YU (w0 w : World) (P : Nat) (X : Nat → Prop) (r : Int × Sd) (e : Ending) (w' : World) : Prop := e = .returned (.int .i64 r.1) ∧ SY w0 w' P X r.2 ∧ Same X w w'
theorem y_lock (h : SY w0 w P X s) (hN : s.N ≤ 900000) {t l : Int} (hl : Wf l) (wr : Bool) : Calls Try.prog 24 #[Pq P, .int .i64 t, .int .i64 l, .bool wr] w (YL w0 w P X (s.lock t l wr)) := by
  obtain ⟨B, M, tg, f, h, hx⟩ := h
  refine (lock_any h hN hl wr).mono ?_
  rintro e w' ⟨he, tg', f', h', hk⟩
  exact ⟨he, SY.step hx h' hk⟩
theorem y_unlock (h : SY w0 w P X s) (hN : s.N ≤ 900000) {t l : Int} (hl : Wf l) : Calls Try.prog 25 #[Pq P, .int .i64 t, .int .i64 l] w (YU w0 w P X (s.unlock t l)) := by
  obtain ⟨B, M, tg, f, h, hx⟩ := h
  refine (unlock_any h (by omega) hl).mono ?_
  rintro e w' ⟨he, f', h', hk⟩
  exact ⟨he, SY.step hx h' (Kp.of_only hk)⟩
theorem y_done (h : SY w0 w P X s) (t : Int) : Calls Try.prog 26 #[Pq P, .int .i64 t] w (YU w0 w P X (s.done t)) := by
  obtain ⟨B, M, tg, f, h, hx⟩ := h
  refine (done_any h).mono ?_
  rintro e w' ⟨he, h', hk⟩
  exact ⟨he, SY.step hx h' (Kp.of_only hk)⟩
theorem y_ready (h : SY w0 w P X s) : Calls Try.prog 32 #[Pq P] w (IntsE w (s.at_ 0)) := by obtain ⟨B, M, tg, f, h, hx⟩ := h; exact ready_any h
theorem y_waiting (h : SY w0 w P X s) : Calls Try.prog 23 #[Pq P] w (IntsE w (s.at_ 1)) := by obtain ⟨B, M, tg, f, h, hx⟩ := h; exact waiting_any h
theorem y_stuck (h : SY w0 w P X s) : Calls Try.prog 22 #[Pq P] w (RetB w s.stuck) := by obtain ⟨B, M, tg, f, h, hx⟩ := h; exact stuck_any h
theorem y_pick (h : SY w0 w P X s) (n : Nat) (hn : n ≤ 1000000) : Calls Try.prog 21 #[Pq P, .int .i64 (n : Int)] w (PickE w (s.pick n)) := by obtain ⟨B, M, tg, f, h, hx⟩ := h; exact pick_any h n hn
theorem SY.n64 (h : SY w0 w P X s) : s.n ≤ 64 := by obtain ⟨B, M, tg, f, h, hx⟩ := h; exact h.n64
theorem SY.few (h : SY w0 w P X s) (l : Int) : (s.cl l).length ≤ s.N := by obtain ⟨B, M, tg, f, h, hx⟩ := h; exact h.few l
theorem SY.fit (h : SY w0 w P X s) (l : Int) : ∀ c ∈ s.cl l, c.task < s.n := by obtain ⟨B, M, tg, f, h, hx⟩ := h; exact h.fit l
end
theorem lock_N (s : Sd) (t l : Int) (w : Bool) : (s.lock t l w).2.2.N ≤ s.N + 1 ∧ (s.lock t l w).2.2.n = s.n := by
  unfold Sd.lock
  split
  · split
    · exact ⟨Nat.le_succ _, rfl⟩
    · exact ⟨Nat.le_refl _, rfl⟩
  · exact ⟨Nat.le_succ _, rfl⟩
theorem unlock_N (s : Sd) (t l : Int) : (s.unlock t l).2.N = s.N ∧ (s.unlock t l).2.n = s.n := by
  unfold Sd.unlock
  split
  · split
    · exact ⟨rfl, rfl⟩
    · exact ⟨rfl, rfl⟩
  · exact ⟨rfl, rfl⟩
theorem done_N (s : Sd) (t : Int) : (s.done t).2.N = s.N ∧ (s.done t).2.n = s.n := by
  unfold Sd.done
  split
  · split
    · exact ⟨rfl, rfl⟩
    · exact ⟨rfl, rfl⟩
  · exact ⟨rfl, rfl⟩

structure Ac where
  kind : Int
  task : Int
  num : Int
  wr : Bool
instance : Inhabited Ac := ⟨⟨0, 0, 0, false⟩⟩
/-- What an act makes. -/
def act (s : Sd) (x : Ac) : Sd := if x.kind = 0 then (s.lock x.task x.num x.wr).2.2 else if x.kind = 1 then (s.unlock x.task x.num).2 else if x.kind = 2 then (s.done x.task).2 else s
theorem act_N (s : Sd) (x : Ac) : (act s x).N ≤ s.N + 1 ∧ (act s x).n = s.n := by
  unfold act
  split
  · exact lock_N _ _ _ _
  · split
    · exact ⟨by have := (unlock_N s x.task x.num).1; omega, (unlock_N s x.task x.num).2⟩
    · split
      · exact ⟨by have := (done_N s x.task).1; omega, (done_N s x.task).2⟩
      · exact ⟨Nat.le_succ _, rfl⟩
def PlayE (w0 w : World) (P : Nat) (X : Nat → Prop) (s : Sd) (e : Ending) (w' : World) : Prop := e = .returned (.tuple #[]) ∧ SY w0 w' P X s ∧ Same X w w'
/-- Rows of numbers as 'same' reads them. -/
def IR (w : World) (A : Option Addr) (n : Nat) (L : List Int) : Prop := n = L.length ∧ ∀ j, j < n → ∃ gg, A = some ⟨gg, 0, none⟩ ∧ gg < w.heap.size ∧ w.cell? ⟨gg, j, none⟩ = some (.int .i64 (L.getD j 0))
theorem IR.below {w w' : World} {A : Option Addr} {n : Nat} {L : List Int} (h : IR w A n L) (hb : Below w.heap.size w w') : IR w' A n L :=
  ⟨h.1, fun j hj => by obtain ⟨gg, e, hl, hc⟩ := h.2 j hj; exact ⟨gg, e, Nat.lt_of_lt_of_le hl hb.size, (hb.cell (p := ⟨gg, j, none⟩) hl).trans hc⟩⟩
theorem IR.keep {w w' : World} {A : Option Addr} {n : Nat} {L : List Int} (h : IR w A n L) (hs : w.heap.size ≤ w'.heap.size) (hb : ∀ gg, A = some ⟨gg, 0, none⟩ → w'.heap[gg]? = w.heap[gg]?) : IR w' A n L :=
  ⟨h.1, fun j hj => by obtain ⟨gg, e, hl, hc⟩ := h.2 j hj; exact ⟨gg, e, Nat.lt_of_lt_of_le hl hs, (World.cell?_of_block (a := ⟨gg, j, none⟩) (hb gg e)).trans hc⟩⟩
theorem IR.keep2 {w w' : World} {A : Option Addr} {n : Nat} {L : List Int} (h : IR w A n L) (hb : ∀ gg, A = some ⟨gg, 0, none⟩ → gg < w'.heap.size ∧ w'.heap[gg]? = w.heap[gg]?) : IR w' A n L :=
  ⟨h.1, fun j hj => by obtain ⟨gg, e, hl, hc⟩ := h.2 j hj; exact ⟨gg, e, (hb gg e).1, (World.cell?_of_block (a := ⟨gg, j, none⟩) (hb gg e).2).trans hc⟩⟩
def nat (L : List Nat) : List Int := L.map fun k : Nat => (k : Int)
theorem ir_ints {w : World} {b n c : Nat} {A : Option Addr} {T : List Int} (h : w.ownsRow b 3 1 (.slice A n c) n (T.map (Value.int .i64))) : IR w A n T := by
  have hl : T.length = n := by have := h.1; simpa using this
  refine ⟨hl.symm, fun j hj => ?_⟩
  rcases h.2 with ⟨h1, h2⟩ | ⟨gg, cap, cur, h1, hb2, h3, _⟩
  · omega
  · injection h1 with h1 h4 h5
    subst h1; subst h5
    refine ⟨gg, rfl, (Array.getElem?_eq_some_iff.1 h3).1, ?_⟩
    rw [h.cellAt j (by omega), List.getElem?_map, List.getElem?_eq_getElem (show j < T.length by omega)]
    simp [List.getD, List.getElem?_eq_getElem (show j < T.length by omega)]
theorem ir_nat {w : World} {b n c : Nat} {A : Option Addr} {L : List Nat} (h : w.ownsRow b 3 1 (.slice A n c) n (L.map Iv)) : IR w A n (nat L) :=
  ir_ints (b := b) (c := c) (by rw [show (nat L).map (Value.int .i64) = L.map Iv by simp [nat, Iv, List.map_map, Function.comp_def]]; exact h)
theorem own_ab {w : World} {b n c : Nat} {A : Option Addr} {L : List Value} (h : w.ownsRow b 3 1 (.slice A n c) n L) : n ≤ c ∧ ∀ gg, A = some ⟨gg, 0, none⟩ → b ≤ gg ∧ gg < w.heap.size := by
  rcases h.2 with ⟨h1, h2⟩ | ⟨gg, cap, cur, h1, hb2, h3, h4, _⟩
  · injection h1 with h1 h4 h5
    exact ⟨by omega, fun gg e => by rw [h1] at e; cases e⟩
  · injection h1 with h1 h6 h7
    subst h7
    refine ⟨h4, fun g2 e => ?_⟩
    rw [h1] at e
    injection e with e
    injection e with e
    subst e
    exact ⟨hb2, (Array.getElem?_eq_some_iff.1 h3).1⟩
def YesE (w : World) (e : Ending) (w' : World) : Prop := e = .returned (.bool true) ∧ Below w.heap.size w w'
end Go.Proofs.Ytlplbpilpkmoaaa.sc
