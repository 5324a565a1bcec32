/- One queue and a map beside it. -/
import Derived.Test.YtadkhnenklkbmaaOpen2
namespace Go.Proofs.Ytadkhnenklkbmaa
open Go.RowKit
set_option linter.unusedVariables false

/-- A queue; the blocks X are none of its own. -/
def One (w wr : World) (Q : Nat) (X : Nat → Prop) (L : List KN) (T : Nat) : Prop :=
  ∃ oq T1, QL wr Q w.heap.size oq L T1 ∧ T1 ≤ T ∧ w.heap.size ≤ Q ∧ (∀ b, X b → b < wr.heap.size ∧ b ≠ Q ∧ oq ≠ some b) ∧ Below w.heap.size w wr
theorem One.bel {w wr : World} {Q T : Nat} {X : Nat → Prop} {L : List KN} (h : One w wr Q X L T) : Below w.heap.size w wr := by
  obtain ⟨_, _, _, _, _, _, hb⟩ := h; exact hb
theorem One.len {w wr : World} {Q T : Nat} {X : Nat → Prop} {L : List KN} (h : One w wr Q X L T) : L.length ≤ T := by
  obtain ⟨oq, T1, ⟨c, xs, _, _, hl⟩, ht, _⟩ := h; omega
theorem One.sorted {w wr : World} {Q T : Nat} {X : Nat → Prop} {L : List KN} (h : One w wr Q X L T) : Sorted L := by
  obtain ⟨_, _, h1, _⟩ := h; exact h1.sorted
theorem One.below {w wr w' : World} {Q T : Nat} {X : Nat → Prop} {L : List KN} (h : One w wr Q X L T) (hb' : Below wr.heap.size wr w') : One w w' Q X L T := by
  obtain ⟨oq, T1, h1, t1, q1, hX, hb⟩ := h
  exact ⟨oq, T1, h1.below hb', t1, q1, fun b hx => ⟨Nat.lt_of_lt_of_le (hX b hx).1 hb'.size, (hX b hx).2⟩, below_step hb hb'⟩
/-- A box that is laid behind joins the blocks that are none of the queue's. -/
theorem One.box {w wr : World} {Q T : Nat} {X : Nat → Prop} {L : List KN} (h : One w wr Q X L T) (o : Obj) : One w (wr.alloc o) Q (fun b => X b ∨ b = wr.heap.size) L T := by
  have h' := h.below (below_alloc wr o)
  obtain ⟨oq, T1, h1, t1, q1, hX, hb⟩ := h
  refine ⟨oq, T1, h1.below (below_alloc wr o), t1, q1, fun b hx => ?_, h'.bel⟩
  rcases hx with hx | hx
  · exact ⟨Nat.lt_of_lt_of_le (hX b hx).1 (below_alloc wr o).size, (hX b hx).2⟩
  · subst hx
    have a1 := h1.lt
    exact ⟨by simp, by omega, fun e => by have := (h1.old _ e).1; omega⟩
theorem One.weak {w wr : World} {Q T T' : Nat} {X X' : Nat → Prop} {L : List KN} (h : One w wr Q X L T) (hT : T ≤ T') (hX' : ∀ b, X' b → X b) : One w wr Q X' L T' := by
  obtain ⟨oq, T1, h1, t1, q1, hX, hb⟩ := h
  exact ⟨oq, T1, h1, by omega, q1, fun b hb => hX b (hX' b hb), hb⟩
theorem One.step {w wr w' : World} {Q T T' T1 T1' : Nat} {X : Nat → Prop} {L L' : List KN} {oq : Option Nat} {v : Value} {e : Ending}
    (h1 : QL wr Q w.heap.size oq L T1) (r : T1 ≤ T ∧ w.heap.size ≤ Q ∧ (∀ b, X b → b < wr.heap.size ∧ b ≠ Q ∧ oq ≠ some b) ∧ Below w.heap.size w wr) (hT : T1' ≤ T') (hs : StepE wr Q w.heap.size oq v L' T1' e w') :
    e = .returned v ∧ One w w' Q X L' T' ∧ Same X wr w' := by
  obtain ⟨t1, q1, hX, hb⟩ := r
  obtain ⟨he, o', hq, ho, hf⟩ := hs
  refine ⟨he, ⟨o', T1', hq, hT, q1, fun b hx => ?_, hf.belowOf hb hb.size q1 h1.lo_⟩, fun b hx => hf.block b (hX b hx).1 (hX b hx).2.1 (hX b hx).2.2⟩
  obtain ⟨b1, b2, b4⟩ := hX b hx
  refine ⟨Nat.lt_of_lt_of_le b1 hf.size, b2, fun e => ?_⟩
  rcases ho b e with e | e
  · exact b4 e
  · omega
/-- The queue, while a map of the call's own is written. -/
theorem One.grown {w wr w' : World} {Q T M : Nat} {X : Nat → Prop} {L : List KN} (h : One w wr Q X L T) (hg : wr.grownBy w' (some M)) (hM : X M) (hlo : w.heap.size ≤ M) : One w w' Q X L T := by
  obtain ⟨oq, T1, h1, t1, q1, hX, hb⟩ := h
  obtain ⟨m1, m2, m4⟩ := hX M hM
  have hf := fr_grown hg
  exact ⟨oq, T1, h1.other hf m2.symm (by simp) (fun G e => ⟨fun e2 => by subst e2; exact m4 e, by simp⟩), t1, q1, fun b hx => ⟨Nat.lt_of_lt_of_le (hX b hx).1 hg.size, (hX b hx).2⟩, hf.belowOf hb hb.size hlo (by simp)⟩
theorem one_push {w wr : World} {Q T : Nat} {X : Nat → Prop} {L : List KN} (h : One w wr Q X L T) (hT : T ≤ 900000) (k m : Int) :
    Calls Try.prog 10 #[Pq Q, .int .i64 k, .int .i64 m] wr (fun e w' => e = .returned (.tuple #[]) ∧ One w w' Q X (ins (k, m) L) (T + 1) ∧ Same X wr w') := by
  obtain ⟨oq, T1, h1, r⟩ := h
  exact (lpush Q w.heap.size T1 oq L k m wr r.2.2.2.size (by omega) h1).mono fun _ _ hs => One.step h1 r (by omega) hs
theorem one_pop {w wr : World} {Q T : Nat} {X : Nat → Prop} {L : List KN} (h : One w wr Q X L T) (hT : T ≤ 900000) :
    Calls Try.prog 12 #[Pq Q] wr (fun e w' => e = .returned (popV L) ∧ One w w' Q X L.tail T ∧ Same X wr w') := by
  obtain ⟨oq, T1, h1, r⟩ := h
  exact (lpop Q w.heap.size T1 oq L wr (by omega) h1).mono fun _ _ hs => One.step h1 r r.1 hs
theorem one_drop {w wr : World} {Q T : Nat} {X : Nat → Prop} {L : List KN} (h : One w wr Q X L T) (hT : T ≤ 900000) (m : Int) :
    Calls Try.prog 14 #[Pq Q, .int .i64 m] wr (fun e w' => e = .returned (.int .i64 ((L.length : Int) - ((L.filter (keepN m)).length : Int))) ∧ One w w' Q X (L.filter (keepN m)) T ∧ Same X wr w') := by
  obtain ⟨oq, T1, h1, r⟩ := h
  exact (ldrop Q w.heap.size T1 oq L m wr (by omega) h1).mono fun _ _ hs => One.step h1 r r.1 hs
theorem one_peek {w wr : World} {Q T : Nat} {X : Nat → Prop} {L : List KN} (h : One w wr Q X L T) (hT : T ≤ 900000) :
    Calls Try.prog 16 #[Pq Q] wr (fun e w' => e = .returned (popV L) ∧ One w w' Q X L T ∧ Below wr.heap.size wr w') := by
  have h0 := h
  obtain ⟨oq, T1, h1, r⟩ := h
  exact (lpeek Q _ T1 oq L wr (by omega) h1).mono fun _ _ ⟨he, hb⟩ => ⟨he, h0.below hb, hb⟩
theorem one_len {w wr : World} {Q T : Nat} {X : Nat → Prop} {L : List KN} (h : One w wr Q X L T) : Calls Try.prog 18 #[Pq Q] wr (fun e w' => e = .returned (.int .i64 L.length) ∧ wr = w') := by
  obtain ⟨oq, T1, h1, r⟩ := h
  exact llen Q _ T1 oq L wr h1
theorem one_has {w wr : World} {Q T : Nat} {X : Nat → Prop} {L : List KN} (h : One w wr Q X L T) (hT : T ≤ 900000) (m : Int) :
    Calls Try.prog 19 #[Pq Q, .int .i64 m] wr (fun e w' => e = .returned (.bool (L.any (fun x => x.2 == m))) ∧ Below wr.heap.size wr w') := by
  obtain ⟨oq, T1, h1, r⟩ := h
  exact lhas Q _ T1 oq L m wr (by omega) h1
theorem one_new {w w1 w2 : World} (hb1 : Below w.heap.size w w1) (h1 : QL w2 w1.heap.size w.heap.size none [] 0) (hb2 : Below w1.heap.size w1 w2) : One w w2 w1.heap.size (fun _ => False) [] 0 :=
  ⟨none, 0, h1, Nat.le_refl _, hb1.size, fun _ h => h.elim, below_step hb1 hb2⟩

/-- In order by key, then by number. -/
def Lex (a b : KN) : Prop := a.1 < b.1 ∨ (a.1 = b.1 ∧ a.2 < b.2)
theorem ins_lex {x : KN} {L : List KN} (h : L.Pairwise Lex) (hx : ∀ y ∈ L, y.2 < x.2) : (ins x L).Pairwise Lex := by
  induction L with
  | nil => simp [ins]
  | cons y l ih =>
    have hs := List.pairwise_cons.1 h
    by_cases hk : x.1 < y.1
    · rw [ins_lt hk]
      refine List.pairwise_cons.2 ⟨fun z hz => ?_, h⟩
      rcases List.mem_cons.1 hz with rfl | hz
      · exact .inl hk
      · rcases hs.1 z hz with h1 | h1
        · exact .inl (by omega)
        · exact .inl (by omega)
    · rw [ins_ge hk]
      refine List.pairwise_cons.2 ⟨fun z hz => ?_, ih hs.2 (fun z hz => hx z (by simp [hz]))⟩
      rcases List.mem_cons.1 ((ins_perm x l).mem_iff.1 hz) with rfl | hz
      · have := hx y (by simp)
        unfold Lex; omega
      · exact hs.1 z hz
end Go.Proofs.Ytadkhnenklkbmaa
