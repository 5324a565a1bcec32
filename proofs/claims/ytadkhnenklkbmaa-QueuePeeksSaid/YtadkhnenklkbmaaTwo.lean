/- Two queues beside each other. -/
import Derived.Test.YtadkhnenklkbmaaAwake
namespace Go.Proofs.Ytadkhnenklkbmaa
open Go.RowKit
set_option linter.unusedVariables false

def Sorted (L : List KN) : Prop := L.Pairwise fun a b => a.1 ≤ b.1
theorem QL.sorted {w : World} {Q lo T : Nat} {o : Option Nat} {L : List KN} (h : QL w Q lo o L T) : Sorted L := by
  obtain ⟨c, xs, _, ⟨_, S, _, hs, _, rfl⟩, _⟩ := h
  unfold Sorted
  rw [List.pairwise_map]
  exact hs.imp fun h => by rw [lt_iff] at h; simp only [kn]; omega
theorem ins_front {x : KN} {L : List KN} (h : ∀ y ∈ L, x.1 < y.1) : ins x L = x :: L := by
  cases L with
  | nil => rfl
  | cons y l => unfold ins; rw [if_pos (h y (by simp))]
theorem ins_lt {x y : KN} {l : List KN} (h : x.1 < y.1) : ins x (y :: l) = x :: y :: l := by simp [ins, h]
theorem ins_ge {x y : KN} {l : List KN} (h : ¬ x.1 < y.1) : ins x (y :: l) = y :: ins x l := by simp [ins, h]
theorem filter_ins (p : KN → Bool) (x : KN) (L : List KN) (h : Sorted L) : (ins x L).filter p = if p x then ins x (L.filter p) else L.filter p := by
  induction L with
  | nil => cases hp : p x <;> simp [hp, ins]
  | cons y l ih =>
    have hs := List.pairwise_cons.1 h
    by_cases hk : x.1 < y.1
    · have hf : ins x ((y :: l).filter p) = x :: (y :: l).filter p := ins_front fun z hz => by
        rcases List.mem_cons.1 (List.mem_filter.1 hz).1 with rfl | hz'
        · exact hk
        · have := hs.1 z hz'; omega
      rw [ins_lt hk, hf, List.filter_cons]
    · rw [ins_ge hk, List.filter_cons, List.filter_cons, ih hs.2]
      cases hp : p y
      · simp
      · cases hx : p x
        · simp
        · simp [ins_ge hk]

/-- Two queues, apart; the blocks X are neither's. -/
def Two (w wr : World) (Q P : Nat) (X : Nat → Prop) (L K : List KN) (T : Nat) : Prop :=
  ∃ oq op T1 T2, QL wr Q w.heap.size oq L T1 ∧ QL wr P w.heap.size op K T2 ∧ T1 ≤ T ∧ T2 ≤ T ∧ w.heap.size ≤ Q ∧ w.heap.size ≤ P ∧ Q ≠ P ∧ oq ≠ some P ∧ op ≠ some Q ∧ (∀ G, op = some G → oq ≠ some G) ∧
    (∀ b, X b → b < wr.heap.size ∧ b ≠ Q ∧ b ≠ P ∧ oq ≠ some b ∧ op ≠ some b) ∧ Below w.heap.size w wr
theorem Two.bel {w wr : World} {Q P T : Nat} {X : Nat → Prop} {L K : List KN} (h : Two w wr Q P X L K T) : Below w.heap.size w wr := by
  obtain ⟨_, _, _, _, _, _, _, _, _, _, _, _, _, _, _, hb⟩ := h; exact hb
theorem Two.sortedQ {w wr : World} {Q P T : Nat} {X : Nat → Prop} {L K : List KN} (h : Two w wr Q P X L K T) : Sorted L := by
  obtain ⟨_, _, _, _, h1, _⟩ := h; exact h1.sorted
theorem Two.symm {w wr : World} {Q P T : Nat} {X : Nat → Prop} {L K : List KN} (h : Two w wr Q P X L K T) : Two w wr P Q X K L T := by
  obtain ⟨oq, op, T1, T2, h1, h2, t1, t2, q1, q2, ne, s1, s2, s3, hX, hb⟩ := h
  exact ⟨op, oq, T2, T1, h2, h1, t2, t1, q2, q1, ne.symm, s2, s1, fun G e e2 => s3 G e2 e, fun b hx => ⟨(hX b hx).1, (hX b hx).2.2.1, (hX b hx).2.1, (hX b hx).2.2.2.2, (hX b hx).2.2.2.1⟩, hb⟩
theorem Two.below {w wr w' : World} {Q P T : Nat} {X : Nat → Prop} {L K : List KN} (h : Two w wr Q P X L K T) (hb' : Below wr.heap.size wr w') : Two w w' Q P X L K T := by
  obtain ⟨oq, op, T1, T2, h1, h2, t1, t2, q1, q2, ne, s1, s2, s3, hX, hb⟩ := h
  exact ⟨oq, op, T1, T2, h1.below hb', h2.below hb', t1, t2, q1, q2, ne, s1, s2, s3, fun b hx => ⟨Nat.lt_of_lt_of_le (hX b hx).1 hb'.size, (hX b hx).2⟩, below_step hb hb'⟩
/-- A box that is laid behind both is neither's. -/
theorem Two.box {w wr : World} {Q P T : Nat} {X : Nat → Prop} {L K : List KN} (h : Two w wr Q P X L K T) (o : Obj) : Two w (wr.alloc o) Q P (fun b => b = wr.heap.size) L K T := by
  have h' := h.below (below_alloc wr o)
  obtain ⟨oq, op, T1, T2, h1, h2, t1, t2, q1, q2, ne, s1, s2, s3, hX, hb⟩ := h
  refine ⟨oq, op, T1, T2, h1.below (below_alloc wr o), h2.below (below_alloc wr o), t1, t2, q1, q2, ne, s1, s2, s3, fun b hx => ?_, h'.bel⟩
  subst hx
  have a1 := h1.lt
  have a2 := h2.lt
  exact ⟨by simp, by omega, by omega, fun e => by have := (h1.old _ e).1; omega, fun e => by have := (h2.old _ e).1; omega⟩
theorem Two.more {w wr : World} {Q P T T' : Nat} {X : Nat → Prop} {L K : List KN} (h : Two w wr Q P X L K T) (hT : T ≤ T') : Two w wr Q P X L K T' := by
  obtain ⟨oq, op, T1, T2, h1, h2, t1, t2, r⟩ := h
  exact ⟨oq, op, T1, T2, h1, h2, by omega, by omega, r⟩
theorem Two.forget {w wr : World} {Q P T T' : Nat} {X : Nat → Prop} {L K : List KN} (h : Two w wr Q P X L K T) (hT : T ≤ T') : Two w wr Q P (fun _ => False) L K T' := by
  obtain ⟨oq, op, T1, T2, h1, h2, t1, t2, q1, q2, ne, s1, s2, s3, hX, hb⟩ := h
  exact ⟨oq, op, T1, T2, h1, h2, by omega, by omega, q1, q2, ne, s1, s2, s3, fun _ h => h.elim, hb⟩
def Same (X : Nat → Prop) (w w' : World) : Prop := ∀ b, X b → w'.heap[b]? = w.heap[b]?
theorem Two.step {w wr w' : World} {Q P T T1 T1' : Nat} {X : Nat → Prop} {L L' K : List KN} {oq op : Option Nat} {T2 : Nat} {v : Value} {e : Ending}
    (h : QL wr Q w.heap.size oq L T1 ∧ QL wr P w.heap.size op K T2 ∧ T2 ≤ T ∧ w.heap.size ≤ Q ∧ w.heap.size ≤ P ∧ Q ≠ P ∧ oq ≠ some P ∧ op ≠ some Q ∧ (∀ G, op = some G → oq ≠ some G) ∧
    (∀ b, X b → b < wr.heap.size ∧ b ≠ Q ∧ b ≠ P ∧ oq ≠ some b ∧ op ≠ some b) ∧ Below w.heap.size w wr) (hT : T1' ≤ T) (hs : StepE wr Q w.heap.size oq v L' T1' e w') : e = .returned v ∧ Two w w' Q P X L' K T ∧ Same X wr w' := by
  obtain ⟨h1, h2, t2, q1, q2, ne, s1, s2, s3, hX, hb⟩ := h
  obtain ⟨he, o', hq, ho, hf⟩ := hs
  have a1 := h1.lt
  have a2 := h2.lt
  refine ⟨he, ⟨o', op, T1', T2, hq, h2.other hf ne.symm s1 (fun G e => ⟨fun e2 => by subst e2; exact s2 e, s3 G e⟩), hT, t2, q1, q2, ne, fun e => ?_, s2, fun G e e2 => ?_, fun b hx => ?_, hf.belowOf hb hb.size q1 h1.lo_⟩, fun b hx => hf.block b (hX b hx).1 (hX b hx).2.1 (hX b hx).2.2.2.1⟩
  · rcases ho P e with e | e
    · exact s1 e
    · omega
  · have g1 := (h2.old G e).1
    rcases ho G e2 with e2 | e2
    · exact s3 G e e2
    · omega
  · obtain ⟨b1, b2, b3, b4, b5⟩ := hX b hx
    refine ⟨Nat.lt_of_lt_of_le b1 hf.size, b2, b3, fun e => ?_, b5⟩
    rcases ho b e with e | e
    · exact b4 e
    · omega

theorem two_push {w wr : World} {Q P T : Nat} {X : Nat → Prop} {L K : List KN} (h : Two w wr Q P X L K T) (hT : T ≤ 900000) (k m : Int) :
    Calls Try.prog 10 #[Pq Q, .int .i64 k, .int .i64 m] wr (fun e w' => e = .returned (.tuple #[]) ∧ Two w w' Q P X (ins (k, m) L) K (T + 1) ∧ Same X wr w') := by
  obtain ⟨oq, op, T1, T2, h1, h2, t1, t2, r⟩ := h
  exact (lpush Q w.heap.size T1 oq L k m wr r.2.2.2.2.2.2.2.size (by omega) h1).mono fun _ _ hs => Two.step ⟨h1, h2, by omega, r⟩ (by omega) hs
theorem two_pop {w wr : World} {Q P T : Nat} {X : Nat → Prop} {L K : List KN} (h : Two w wr Q P X L K T) (hT : T ≤ 900000) :
    Calls Try.prog 12 #[Pq Q] wr (fun e w' => e = .returned (popV L) ∧ Two w w' Q P X L.tail K T ∧ Same X wr w') := by
  obtain ⟨oq, op, T1, T2, h1, h2, t1, t2, r⟩ := h
  exact (lpop Q w.heap.size T1 oq L wr (by omega) h1).mono fun _ _ hs => Two.step ⟨h1, h2, t2, r⟩ t1 hs
theorem two_drop {w wr : World} {Q P T : Nat} {X : Nat → Prop} {L K : List KN} (h : Two w wr Q P X L K T) (hT : T ≤ 900000) (m : Int) :
    Calls Try.prog 14 #[Pq Q, .int .i64 m] wr (fun e w' => e = .returned (.int .i64 ((L.length : Int) - ((L.filter (keepN m)).length : Int))) ∧ Two w w' Q P X (L.filter (keepN m)) K T ∧ Same X wr w') := by
  obtain ⟨oq, op, T1, T2, h1, h2, t1, t2, r⟩ := h
  exact (ldrop Q w.heap.size T1 oq L m wr (by omega) h1).mono fun _ _ hs => Two.step ⟨h1, h2, t2, r⟩ t1 hs
theorem two_len {w wr : World} {Q P T : Nat} {X : Nat → Prop} {L K : List KN} (h : Two w wr Q P X L K T) : Calls Try.prog 18 #[Pq Q] wr (fun e w' => e = .returned (.int .i64 L.length) ∧ wr = w') := by
  obtain ⟨oq, op, T1, T2, h1, _⟩ := h
  exact llen Q _ T1 oq L wr h1
theorem two_has {w wr : World} {Q P T : Nat} {X : Nat → Prop} {L K : List KN} (h : Two w wr Q P X L K T) (hT : T ≤ 900000) (m : Int) :
    Calls Try.prog 19 #[Pq Q, .int .i64 m] wr (fun e w' => e = .returned (.bool (L.any (fun x => x.2 == m))) ∧ Two w w' Q P X L K T ∧ Below wr.heap.size wr w') := by
  have h0 := h
  obtain ⟨oq, op, T1, T2, h1, h2, t1, t2, r⟩ := h
  exact (lhas Q _ T1 oq L m wr (by omega) h1).mono fun _ _ ⟨he, hb⟩ => ⟨he, h0.below hb, hb⟩
theorem two_new {w w1 w2 w3 : World} (hb1 : Below w.heap.size w w1) (h1 : QL w2 w1.heap.size w.heap.size none [] 0) (hb2 : Below w1.heap.size w1 w2) (h2 : QL w3 w2.heap.size w.heap.size none [] 0) (hb3 : Below w2.heap.size w2 w3) :
    Two w w3 w1.heap.size w2.heap.size (fun _ => False) [] [] 0 := by
  have := h1.lt
  have := hb1.size
  have := hb2.size
  exact ⟨none, none, 0, 0, h1.below hb3, h2, Nat.le_refl _, Nat.le_refl _, hb1.size, by omega, by omega, by simp, by simp, by simp, fun _ h => h.elim, below_step (below_step hb1 hb2) hb3⟩
end Go.Proofs.Ytadkhnenklkbmaa
