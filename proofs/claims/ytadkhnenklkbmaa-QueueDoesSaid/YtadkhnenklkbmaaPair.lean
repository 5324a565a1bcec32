/- A queue and the document's, beside each other. -/
import Derived.Test.YtadkhnenklkbmaaRRest
namespace Go.Proofs.Ytadkhnenklkbmaa
open Go.RowKit
set_option linter.unusedVariables false

/-- The document's queue, its row named. -/
def RQo (w : World) (R lo : Nat) (ro : Option Nat) (L : List KN) : Prop := ∃ v, w.cell? ⟨R, 0, none⟩ = some v ∧ w.frozen? ⟨R, 0, none⟩ = false ∧ w.ownsRow lo 55 2 v L.length (cellsK L) ∧ v.ownBlock = ro ∧ ro ≠ some R
theorem RQo.rq {w : World} {R lo : Nat} {ro : Option Nat} {L : List KN} (h : RQo w R lo ro L) : RQ w R lo L := by
  obtain ⟨v, h0, h1, h2, rfl, h4⟩ := h; exact ⟨v, h0, h1, h2, h4⟩
theorem RQ.named {w : World} {R lo : Nat} {L : List KN} (h : RQ w R lo L) : ∃ ro, RQo w R lo ro L := by
  obtain ⟨v, h0, h1, h2, h3⟩ := h; exact ⟨_, v, h0, h1, h2, rfl, h3⟩
theorem RQo.old {w : World} {R lo : Nat} {ro : Option Nat} {L : List KN} (h : RQo w R lo ro L) : ∀ g, ro = some g → lo ≤ g ∧ g < w.heap.size := by
  obtain ⟨v, h0, h1, h2, h3, h4⟩ := h
  intro g e
  exact h2.lt g (h3.trans e)
theorem RQo.other {w w' : World} {Q R lo : Nat} {o ro : Option Nat} {L : List KN} (h : RQo w R lo ro L) (hf : Fr w w' Q o) (hRQ : R ≠ Q) (h1 : o ≠ some R) (h2 : ∀ g, ro = some g → g ≠ Q ∧ o ≠ some g) : RQo w' R lo ro L := by
  have hq := h.rq
  have hold := h.old
  obtain ⟨v, a0, a1, a2, a3, a4⟩ := h
  have hb := hf.block R hq.lt hRQ h1
  refine ⟨v, (World.cell?_of_block hb).trans a0, (World.frozen?_of_block (a := ⟨R, 0, none⟩) hb).trans a1, ⟨a2.1, ?_⟩, a3, a4⟩
  rcases a2.2 with e | ⟨g, cap, cur, hv, hlo, hg, r⟩
  · exact .inl e
  · have e : ro = some g := by rw [← a3, hv]; rfl
    exact .inr ⟨g, cap, cur, hv, hlo, by rw [hf.block g (hold g e).2 (h2 g e).1 (h2 g e).2]; exact hg, r⟩
theorem RQo.below {w w' : World} {R lo : Nat} {ro : Option Nat} {L : List KN} (h : RQo w R lo ro L) (hb : Below w.heap.size w w') : RQo w' R lo ro L := by
  have hold := h.old
  have hR := h.rq.lt
  obtain ⟨v, a0, a1, a2, a3, a4⟩ := h
  have hbR := hb.block R hR
  refine ⟨v, (World.cell?_of_block hbR).trans a0, (World.frozen?_of_block (a := ⟨R, 0, none⟩) hbR).trans a1, ⟨a2.1, ?_⟩, a3, a4⟩
  rcases a2.2 with e | ⟨g, cap, cur, hv, hlo, hg, r⟩
  · exact .inl e
  · exact .inr ⟨g, cap, cur, hv, hlo, by rw [hb.block g (Array.getElem?_eq_some_iff.1 hg).1]; exact hg, r⟩
/-- Behind a step of the document's queue: its row is the old one, or new. -/
theorem RStep.named {w w' : World} {R lo : Nat} {ro : Option Nat} {v : Value} {L L' : List KN} {e : Ending} (h : RQo w R lo ro L) (hlo : lo ≤ w.heap.size) (hs : RStep w R lo v L' e w') :
    e = .returned v ∧ (∃ ro', RQo w' R lo ro' L' ∧ (∀ g, ro' = some g → ro = some g ∨ w.heap.size ≤ g)) ∧ Fr w w' R none := by
  obtain ⟨he, hq, hf, hd⟩ := hs
  refine ⟨he, ?_, hf⟩
  rcases hd with hd | hd
  · obtain ⟨ro', h'⟩ := hd.named
    have hold := h'.old
    obtain ⟨u, a0, a1, a2, a3, a4⟩ := h'
    exact ⟨ro', ⟨u, a0, a1, own_base a2 hlo, a3, a4⟩, fun g e => .inr (hold g e).1⟩
  · obtain ⟨ro', h'⟩ := hq.named
    obtain ⟨u, a0, a1, a2, a3, a4⟩ := h'
    obtain ⟨v0, b0, _, _, b3, _⟩ := h
    rw [hd, b0] at a0
    injection a0 with a0
    subst a0
    exact ⟨ro', ⟨v0, hd.trans b0, a1, a2, a3, a4⟩, fun g e => .inl (by rw [← b3, a3]; exact e)⟩

def Same (X : Nat → Prop) (w w' : World) : Prop := ∀ b, X b → w'.heap[b]? = w.heap[b]?
/-- A queue and the document's, apart; the blocks X are neither's. -/
def Pair (w wr : World) (Q R : Nat) (X : Nat → Prop) (L K : List KN) (T : Nat) : Prop :=
  ∃ oq T1 ro, QL wr Q w.heap.size oq L T1 ∧ RQo wr R w.heap.size ro K ∧ T1 ≤ T ∧ w.heap.size ≤ Q ∧ w.heap.size ≤ R ∧ Q ≠ R ∧ oq ≠ some R ∧ ro ≠ some Q ∧ (∀ g, ro = some g → oq ≠ some g) ∧
    (∀ b, X b → b < wr.heap.size ∧ b ≠ Q ∧ b ≠ R ∧ oq ≠ some b ∧ ro ≠ some b) ∧ Below w.heap.size w wr
theorem Pair.bel {w wr : World} {Q R T : Nat} {X : Nat → Prop} {L K : List KN} (h : Pair w wr Q R X L K T) : Below w.heap.size w wr := by
  obtain ⟨_, _, _, _, _, _, _, _, _, _, _, _, _, hb⟩ := h; exact hb
theorem Pair.len {w wr : World} {Q R T : Nat} {X : Nat → Prop} {L K : List KN} (h : Pair w wr Q R X L K T) : L.length ≤ T := by
  obtain ⟨oq, T1, ro, ⟨c, xs, _, _, hl⟩, _, ht, _⟩ := h; omega
theorem Pair.below {w wr w' : World} {Q R T : Nat} {X : Nat → Prop} {L K : List KN} (h : Pair w wr Q R X L K T) (hb' : Below wr.heap.size wr w') : Pair w w' Q R X L K T := by
  obtain ⟨oq, T1, ro, h1, h2, t1, q1, q2, ne, s1, s2, s3, hX, hb⟩ := h
  exact ⟨oq, T1, ro, h1.below hb', h2.below hb', t1, q1, q2, ne, s1, s2, s3, fun b hx => ⟨Nat.lt_of_lt_of_le (hX b hx).1 hb'.size, (hX b hx).2⟩, below_step hb hb'⟩
theorem Pair.box {w wr : World} {Q R T : Nat} {X : Nat → Prop} {L K : List KN} (h : Pair w wr Q R X L K T) (o : Obj) : Pair w (wr.alloc o) Q R (fun b => b = wr.heap.size) L K T := by
  have h' := h.below (below_alloc wr o)
  obtain ⟨oq, T1, ro, h1, h2, t1, q1, q2, ne, s1, s2, s3, hX, hb⟩ := h
  refine ⟨oq, T1, ro, h1.below (below_alloc wr o), h2.below (below_alloc wr o), t1, q1, q2, ne, s1, s2, s3, fun b hx => ?_, h'.bel⟩
  subst hx
  have a1 := h1.lt
  have a2 := h2.rq.lt
  exact ⟨by simp, by omega, by omega, fun e => by have := (h1.old _ e).1; omega, fun e => by have := (h2.old _ e).2; omega⟩
theorem Pair.forget {w wr : World} {Q R T T' : Nat} {X : Nat → Prop} {L K : List KN} (h : Pair w wr Q R X L K T) (hT : T ≤ T') : Pair w wr Q R (fun _ => False) L K T' := by
  obtain ⟨oq, T1, ro, h1, h2, t1, q1, q2, ne, s1, s2, s3, hX, hb⟩ := h
  exact ⟨oq, T1, ro, h1, h2, by omega, q1, q2, ne, s1, s2, s3, fun _ h => h.elim, hb⟩
theorem Pair.stepQ {w wr w' : World} {Q R T T' T1 T1' : Nat} {X : Nat → Prop} {L L' K : List KN} {oq ro : Option Nat} {v : Value} {e : Ending}
    (h1 : QL wr Q w.heap.size oq L T1) (r : RQo wr R w.heap.size ro K ∧ T1 ≤ T ∧ w.heap.size ≤ Q ∧ w.heap.size ≤ R ∧ Q ≠ R ∧ oq ≠ some R ∧ ro ≠ some Q ∧ (∀ g, ro = some g → oq ≠ some g) ∧
    (∀ b, X b → b < wr.heap.size ∧ b ≠ Q ∧ b ≠ R ∧ oq ≠ some b ∧ ro ≠ some b) ∧ Below w.heap.size w wr) (hT : T1' ≤ T') (hs : StepE wr Q w.heap.size oq v L' T1' e w') : e = .returned v ∧ Pair w w' Q R X L' K T' ∧ Same X wr w' := by
  obtain ⟨h2, t1, q1, q2, ne, s1, s2, s3, hX, hb⟩ := r
  obtain ⟨he, o', hq, ho, hf⟩ := hs
  have a1 := h1.lt
  have a2 := h2.rq.lt
  refine ⟨he, ⟨o', T1', ro, hq, h2.other hf ne.symm s1 (fun G e => ⟨fun e2 => by subst e2; exact s2 e, s3 G e⟩), hT, q1, q2, ne, fun e => ?_, s2, fun G e e2 => ?_, fun b hx => ?_, hf.belowOf hb hb.size q1 h1.lo_⟩, fun b hx => hf.block b (hX b hx).1 (hX b hx).2.1 (hX b hx).2.2.2.1⟩
  · rcases ho R e with e | e
    · exact s1 e
    · omega
  · have g1 := (h2.old G e).2
    rcases ho G e2 with e2 | e2
    · exact s3 G e e2
    · omega
  · obtain ⟨b1, b2, b3, b4, b5⟩ := hX b hx
    refine ⟨Nat.lt_of_lt_of_le b1 hf.size, b2, b3, fun e => ?_, b5⟩
    rcases ho b e with e | e
    · exact b4 e
    · omega
theorem Pair.stepR {w wr w' : World} {Q R T : Nat} {X : Nat → Prop} {L K K' : List KN} {v : Value} {e : Ending}
    (h : Pair w wr Q R X L K T) (hs : RStep wr R w.heap.size v K' e w') : e = .returned v ∧ Pair w w' Q R X L K' T ∧ Same X wr w' := by
  obtain ⟨oq, T1, ro, h1, h2, t1, q1, q2, ne, s1, s2, s3, hX, hb⟩ := h
  obtain ⟨he, ⟨ro', hq, ho⟩, hf⟩ := hs.named h2 hb.size
  have a1 := h1.lt
  have a2 := h2.rq.lt
  refine ⟨he, ⟨oq, T1, ro', h1.other hf ne (by simp) (fun G e => ⟨fun e2 => by subst e2; exact s1 e, by simp⟩), hq, t1, q1, q2, ne, s1, fun e => ?_, fun G e e2 => ?_, fun b hx => ?_, hf.belowOf hb hb.size q2 (by simp)⟩, fun b hx => hf.block b (hX b hx).1 (hX b hx).2.2.1 (by simp)⟩
  · rcases ho Q e with e | e
    · exact s2 e
    · omega
  · have g1 := (h1.old G e2).1
    rcases ho G e with e | e
    · exact s3 G e e2
    · omega
  · obtain ⟨b1, b2, b3, b4, b5⟩ := hX b hx
    refine ⟨Nat.lt_of_lt_of_le b1 hf.size, b2, b3, b4, fun e => ?_⟩
    rcases ho b e with e | e
    · exact b5 e
    · omega

theorem pair_push {w wr : World} {Q R T : Nat} {X : Nat → Prop} {L K : List KN} (h : Pair w wr Q R X L K T) (hT : T ≤ 800000) (k m : Int) :
    Calls Try.prog 10 #[Pq Q, .int .i64 k, .int .i64 m] wr (fun e w' => e = .returned (.tuple #[]) ∧ Pair w w' Q R X (ins (k, m) L) K (T + 1) ∧ Same X wr w') := by
  obtain ⟨oq, T1, ro, h1, r⟩ := h
  exact (lpush Q w.heap.size T1 oq L k m wr r.2.2.2.2.2.2.2.2.2.size (by omega) h1).mono fun _ _ hs => Pair.stepQ h1 r (by omega) hs
theorem pair_pop {w wr : World} {Q R T : Nat} {X : Nat → Prop} {L K : List KN} (h : Pair w wr Q R X L K T) (hT : T ≤ 800000) :
    Calls Try.prog 12 #[Pq Q] wr (fun e w' => e = .returned (popV L) ∧ Pair w w' Q R X L.tail K T ∧ Same X wr w') := by
  obtain ⟨oq, T1, ro, h1, r⟩ := h
  exact (lpop Q w.heap.size T1 oq L wr (by omega) h1).mono fun _ _ hs => Pair.stepQ h1 r r.2.1 hs
theorem pair_drop {w wr : World} {Q R T : Nat} {X : Nat → Prop} {L K : List KN} (h : Pair w wr Q R X L K T) (hT : T ≤ 800000) (m : Int) :
    Calls Try.prog 14 #[Pq Q, .int .i64 m] wr (fun e w' => e = .returned (.int .i64 ((L.length : Int) - ((L.filter (keepN m)).length : Int))) ∧ Pair w w' Q R X (L.filter (keepN m)) K T ∧ Same X wr w') := by
  obtain ⟨oq, T1, ro, h1, r⟩ := h
  exact (ldrop Q w.heap.size T1 oq L m wr (by omega) h1).mono fun _ _ hs => Pair.stepQ h1 r r.2.1 hs
theorem pair_peek {w wr : World} {Q R T : Nat} {X : Nat → Prop} {L K : List KN} (h : Pair w wr Q R X L K T) (hT : T ≤ 800000) :
    Calls Try.prog 16 #[Pq Q] wr (fun e w' => e = .returned (popV L) ∧ Pair w w' Q R X L K T ∧ Below wr.heap.size wr w') := by
  have h0 := h
  obtain ⟨oq, T1, ro, h1, r⟩ := h
  exact (lpeek Q _ T1 oq L wr (by omega) h1).mono fun _ _ ⟨he, hb⟩ => ⟨he, h0.below hb, hb⟩
theorem pair_len {w wr : World} {Q R T : Nat} {X : Nat → Prop} {L K : List KN} (h : Pair w wr Q R X L K T) : Calls Try.prog 18 #[Pq Q] wr (fun e w' => e = .returned (.int .i64 L.length) ∧ wr = w') := by
  obtain ⟨oq, T1, ro, h1, r⟩ := h
  exact llen Q _ T1 oq L wr h1
theorem pair_has {w wr : World} {Q R T : Nat} {X : Nat → Prop} {L K : List KN} (h : Pair w wr Q R X L K T) (hT : T ≤ 800000) (m : Int) :
    Calls Try.prog 19 #[Pq Q, .int .i64 m] wr (fun e w' => e = .returned (.bool (L.any (fun x => x.2 == m))) ∧ Below wr.heap.size wr w') := by
  obtain ⟨oq, T1, ro, h1, r⟩ := h
  exact lhas Q _ T1 oq L m wr (by omega) h1
theorem pair_rpush {w wr : World} {Q R T : Nat} {X : Nat → Prop} {L K : List KN} (h : Pair w wr Q R X L K T) (hK : K.length ≤ 800000) (k m : Int) :
    Calls Try.prog 11 #[Pq R, .int .i64 k, .int .i64 m] wr (fun e w' => e = .returned (.tuple #[]) ∧ Pair w w' Q R X L (ins (k, m) K) T ∧ Same X wr w') := by
  have h0 := h
  obtain ⟨oq, T1, ro, h1, h2, t1, q1, q2, ne, s1, s2, s3, hX, hb⟩ := h
  exact (rpush_any R w.heap.size K k m wr hb.size (by omega) h2.rq).mono fun _ _ hs => h0.stepR hs
theorem pair_rpop {w wr : World} {Q R T : Nat} {X : Nat → Prop} {L K : List KN} (h : Pair w wr Q R X L K T) (hK : K.length ≤ 800000) :
    Calls Try.prog 13 #[Pq R] wr (fun e w' => e = .returned (popV K) ∧ Pair w w' Q R X L K.tail T ∧ Same X wr w') := by
  have h0 := h
  obtain ⟨oq, T1, ro, h1, h2, t1, q1, q2, ne, s1, s2, s3, hX, hb⟩ := h
  exact (rpop_any R w.heap.size K wr hb.size (by omega) h2.rq).mono fun _ _ hs => h0.stepR hs
theorem pair_rdrop {w wr : World} {Q R T : Nat} {X : Nat → Prop} {L K : List KN} (h : Pair w wr Q R X L K T) (hK : K.length ≤ 800000) (m : Int) :
    Calls Try.prog 15 #[Pq R, .int .i64 m] wr (fun e w' => e = .returned (.int .i64 ((K.length : Int) - ((K.filter (keepN m)).length : Int))) ∧ Pair w w' Q R X L (K.filter (keepN m)) T ∧ Same X wr w') := by
  have h0 := h
  obtain ⟨oq, T1, ro, h1, h2, t1, q1, q2, ne, s1, s2, s3, hX, hb⟩ := h
  exact (rdrop_any R w.heap.size K m wr hb.size (by omega) h2.rq).mono fun _ _ hs => h0.stepR hs
theorem pair_rpeek {w wr : World} {Q R T : Nat} {X : Nat → Prop} {L K : List KN} (h : Pair w wr Q R X L K T) (hK : K.length ≤ 800000) :
    Calls Try.prog 17 #[Pq R] wr (fun e w' => e = .returned (popV K) ∧ Pair w w' Q R X L K T ∧ Below wr.heap.size wr w') := by
  have h0 := h
  obtain ⟨oq, T1, ro, h1, h2, t1, q1, q2, ne, s1, s2, s3, hX, hb⟩ := h
  exact (rpeek_any R w.heap.size K wr (by omega) h2.rq).mono fun _ _ ⟨he, hb⟩ => ⟨he, h0.below hb, hb⟩
theorem pair_rhas {w wr : World} {Q R T : Nat} {X : Nat → Prop} {L K : List KN} (h : Pair w wr Q R X L K T) (hK : K.length ≤ 800000) (m : Int) :
    Calls Try.prog 20 #[Pq R, .int .i64 m] wr (fun e w' => e = .returned (.bool (K.any (fun x => x.2 == m))) ∧ Below wr.heap.size wr w') := by
  obtain ⟨oq, T1, ro, h1, h2, r⟩ := h
  exact rhas_any R w.heap.size K m wr (by omega) h2.rq
theorem pair_rcell {w wr : World} {Q R T : Nat} {X : Nat → Prop} {L K : List KN} (h : Pair w wr Q R X L K T) : ∃ A c, wr.cell? ⟨R, 0, none⟩ = some (.slice A K.length c) := by
  obtain ⟨oq, T1, ro, h1, h2, r⟩ := h
  obtain ⟨A, c, h, _⟩ := h2.rq.get
  exact ⟨A, c, h⟩
theorem pair_new {w w1 w2 : World} (hb1 : Below w.heap.size w w1) (h1 : QL w2 w1.heap.size w.heap.size none [] 0) (hb2 : Below w1.heap.size w1 w2) :
    Pair w (w2.alloc (.cells #[.slice none 0 0] 29)) w1.heap.size w2.heap.size (fun _ => False) [] [] 0 := by
  have := h1.lt
  have := hb1.size
  have := hb2.size
  have hq : RQo (w2.alloc (.cells #[.slice none 0 0] 29)) w2.heap.size w.heap.size none [] := ⟨.slice none 0 0, by simp, by simp, World.ownsRow_nil _ _ _ _, rfl, by simp⟩
  exact ⟨none, 0, none, h1.below (below_alloc _ _), hq, Nat.le_refl _, hb1.size, by omega, by omega, by simp, by simp, by simp, fun _ h => h.elim, below_step (below_step hb1 hb2) (below_alloc _ _)⟩
end Go.Proofs.Ytadkhnenklkbmaa
