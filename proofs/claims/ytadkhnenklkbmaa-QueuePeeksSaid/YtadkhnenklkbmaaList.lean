/- A queue in memory as a list in order: each call's contract. -/
import Derived.Test.YtadkhnenklkbmaaDrop
namespace Go.Proofs.Ytadkhnenklkbmaa
open Go.RowKit
set_option linter.unusedVariables false

/-- The queue at Q is the list L; T were pushed. -/
def QL (w : World) (Q lo : Nat) (o : Option Nat) (L : List KN) (T : Nat) : Prop := ∃ c xs, Qu w Q lo o c xs T ∧ Rep xs T L ∧ L.length ≤ T
theorem QL.lt {w : World} {Q lo T : Nat} {o : Option Nat} {L : List KN} (h : QL w Q lo o L T) : Q < w.heap.size := by
  obtain ⟨c, xs, h, _⟩ := h; exact h.lt
theorem QL.old {w : World} {Q lo T : Nat} {o : Option Nat} {L : List KN} (h : QL w Q lo o L T) : ∀ G, o = some G → G < w.heap.size ∧ lo ≤ G ∧ Q ≠ G := by
  obtain ⟨c, xs, h, _⟩ := h
  intro G e
  exact ⟨h.old G e, by subst e; exact h.row.1, by subst e; exact h.row.2.1⟩
theorem QL.below {w w' : World} {Q lo T : Nat} {o : Option Nat} {L : List KN} (h : QL w Q lo o L T) (hb : Below w.heap.size w w') : QL w' Q lo o L T := by
  obtain ⟨c, xs, h, r⟩ := h; exact ⟨c, xs, h.below hb, r⟩
/-- Another queue's doings leave this one as it is. -/
theorem QL.other {w w' : World} {Q P lo T : Nat} {o o2 : Option Nat} {L : List KN} (h : QL w P lo o2 L T) (hf : Fr w w' Q o) (hPQ : P ≠ Q) (h1 : o ≠ some P) (h2 : ∀ G, o2 = some G → G ≠ Q ∧ o ≠ some G) : QL w' P lo o2 L T := by
  obtain ⟨c, xs, h, r⟩ := h
  have hb := hf.block P h.lt hPQ h1
  refine ⟨c, xs, ⟨(World.cell?_of_block hb).trans h.q0, (World.cell?_of_block hb).trans h.q1, (World.frozen?_of_block (a := ⟨P, 0, none⟩) hb).trans h.f0, (World.frozen?_of_block (a := ⟨P, 1, none⟩) hb).trans h.f1, ?_⟩, r⟩
  cases o2 with
  | none => exact h.row
  | some G => exact ⟨h.row.1, h.row.2.1, h.row.2.2.of_block (hf.block G h.row.2.2.lt (h2 G rfl).1 (h2 G rfl).2)⟩

def popV : List KN → Value
  | [] => .tuple #[.int .i64 0, .int .i64 0, .bool false]
  | a :: _ => .tuple #[.int .i64 a.1, .int .i64 a.2, .bool true]
/-- Behind a call that may have turned the queue. -/
def StepE (w : World) (Q lo : Nat) (o : Option Nat) (v : Value) (L : List KN) (T : Nat) (e : Ending) (w' : World) : Prop :=
  e = .returned v ∧ ∃ o', QL w' Q lo o' L T ∧ (∀ G, o' = some G → o = some G ∨ w.heap.size ≤ G) ∧ Fr w w' Q o

theorem ins_length (x : KN) (L : List KN) : (ins x L).length = L.length + 1 := by
  induction L with
  | nil => rfl
  | cons y l ih => unfold ins; split <;> simp [ih]
theorem lnew (w : World) (lo : Nat) (hlo : lo ≤ w.heap.size) : Calls Try.prog 9 #[] w (fun e w' => e = .returned (Pq w.heap.size) ∧ QL w' w.heap.size lo none [] 0 ∧ Below w.heap.size w w') :=
  (new_any w lo hlo).mono fun _ _ ⟨ob, he, hq, hw⟩ => ⟨he, ⟨0, #[], hq, Rep.nil _, Nat.le_refl _⟩, by rw [hw]; exact below_alloc _ _⟩
theorem lpush (Q lo T : Nat) (o : Option Nat) (L : List KN) (k m : Int) (w : World) (hlo : lo ≤ w.heap.size) (hT : T ≤ 900000) (h : QL w Q lo o L T) :
    Calls Try.prog 10 #[Pq Q, .int .i64 k, .int .i64 m] w (StepE w Q lo o (.tuple #[]) (ins (k, m) L) (T + 1)) := by
  obtain ⟨c, xs, h, r, hl⟩ := h
  have hz := r.size
  refine (qpush_any Q lo c T xs.size o xs k m w hlo rfl (by omega) hT h).mono ?_
  rintro e w' ⟨he, G, c', hq, ho, hf⟩
  obtain ⟨r1, r2⟩ := r.push (Int.natCast_nonneg T) k m
  exact ⟨he, some G, ⟨c', _, hq, by simpa using r1, by rw [ins_length]; omega⟩, fun G' e => by injection e with e; subst e; exact ho, hf⟩
theorem rep_popV {xs : Array It} {T : Int} {L : List KN} (r : Rep xs T L) : popV L = (if xs.size = 0 then .tuple #[.int .i64 0, .int .i64 0, .bool false] else .tuple #[.int .i64 (g xs 0).key, .int .i64 (g xs 0).num, .bool true]) := by
  have hz := r.size
  cases L with
  | nil => rw [if_pos (show xs.size = 0 from hz)]; rfl
  | cons a l =>
    have h0 : 0 < xs.size := by rw [hz]; simp
    rw [if_neg (by omega)]
    have := (r.pop h0).2.2.2
    simp at this
    subst this
    rfl
theorem lpop (Q lo T : Nat) (o : Option Nat) (L : List KN) (w : World) (hT : T ≤ 900000) (h : QL w Q lo o L T) : Calls Try.prog 12 #[Pq Q] w (StepE w Q lo o (popV L) L.tail T) := by
  obtain ⟨c, xs, h, r, hl⟩ := h
  have hz := r.size
  refine (qpop_any Q lo c T o xs w (by omega) h).mono ?_
  rintro e w' (⟨h0, he, hw⟩ | ⟨n, G, c', hn, ho, he, hq, hf⟩)
  · subst hw
    have hL : L = [] := List.eq_nil_of_length_eq_zero (by omega)
    subst hL
    exact ⟨he, o, ⟨c, xs, h, r, hl⟩, fun G e => .inl e, Fr.refl _ _ _⟩
  · obtain ⟨r1, r2, r3, r4⟩ := r.pop (by omega)
    rw [hn, Nat.add_sub_cancel] at r1 r2
    refine ⟨?_, o, ⟨c', _, hq, r1, by rw [List.length_tail]; omega⟩, fun G e => .inl e, hf⟩
    rw [rep_popV r, if_neg (by omega), he, r2]
theorem lpeek (Q lo T : Nat) (o : Option Nat) (L : List KN) (w : World) (hT : T ≤ 900000) (h : QL w Q lo o L T) : Calls Try.prog 16 #[Pq Q] w (fun e w' => e = .returned (popV L) ∧ Below w.heap.size w w') := by
  obtain ⟨c, xs, h, r, hl⟩ := h
  have hz := r.size
  refine (qpeek_any Q lo c T xs.size o xs w rfl (by omega) h).mono ?_
  rintro e w' ⟨he, hb⟩
  refine ⟨?_, hb⟩
  rw [rep_popV r]
  by_cases h0 : xs.size = 0
  · rw [if_pos h0] at he ⊢; exact he
  · rw [if_neg h0] at he ⊢; exact he
theorem llen (Q lo T : Nat) (o : Option Nat) (L : List KN) (w : World) (h : QL w Q lo o L T) : Calls Try.prog 18 #[Pq Q] w (fun e w' => e = .returned (.int .i64 L.length) ∧ w = w') := by
  obtain ⟨c, xs, h, r, hl⟩ := h
  have := qlen_any Q lo c T xs.size o xs w rfl h
  rw [r.size] at this
  exact this
theorem lhas (Q lo T : Nat) (o : Option Nat) (L : List KN) (m : Int) (w : World) (hT : T ≤ 900000) (h : QL w Q lo o L T) : Calls Try.prog 19 #[Pq Q, .int .i64 m] w (RetB w (L.any (fun x => x.2 == m))) := by
  obtain ⟨c, xs, h, r, hl⟩ := h
  have hz := r.size
  have := qhas_any Q lo c T o xs m w (by omega) h
  rw [r.has] at this
  exact this
def keepN (m : Int) (x : KN) : Bool := !(x.2 == m)
theorem ldrop (Q lo T : Nat) (o : Option Nat) (L : List KN) (m : Int) (w : World) (hT : T ≤ 900000) (h : QL w Q lo o L T) :
    Calls Try.prog 14 #[Pq Q, .int .i64 m] w (StepE w Q lo o (.int .i64 ((L.length : Int) - ((L.filter (keepN m)).length : Int))) (L.filter (keepN m)) T) := by
  obtain ⟨c, xs, h, r, hl⟩ := h
  have hz := r.size
  refine (qdrop_any Q lo c T o xs m w (by omega) h).mono ?_
  rintro e w' ⟨ys, hf, he, hq, hfr⟩
  obtain ⟨r1, r2⟩ := r.drop m hf
  have hs := r1.size
  rw [r2] at hs
  refine ⟨?_, o, ⟨c, _, hq, r1, ?_⟩, fun G e => .inl e, hfr⟩
  · rw [he, hz, hs]; rfl
  · exact Nat.le_trans (List.length_filter_le _ _) hl
end Go.Proofs.Ytadkhnenklkbmaa
