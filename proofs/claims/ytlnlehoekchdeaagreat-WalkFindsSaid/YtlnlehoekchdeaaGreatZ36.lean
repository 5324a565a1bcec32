/- The document's own body, turned: a mark is laid. The document's own body: its bytes grown and set; its store beside it. The document's own Write: what its loop holds. The document's own Write. -/
import Derived.Test.YtlnlehoekchdeaaGreatZ35
import Derived.Deep.AppendLies
section
namespace Go.Proofs.YtlnlehoekchdeaaGreat.bl
open Go.RowKit
set_option linter.unusedVariables false
set_option linter.unusedSimpArgs false


def RF (C : Nat) (vB vT : Value) (x : Nat) : Prop := x = C ∨ vB.ownBlock = some x ∨ vT.ownBlock = some x
/-- Behind a call that may have turned the body whose blocks were G. -/
structure RStep (w w' : World) (lo C : Nat) (G : Nat → Prop) (vB vT : Value) (b : AB) (T : Nat) : Prop where
  r : RB w' lo C vB vT b T
  o : Only G w w'
  f : ∀ x, RF C vB vT x → G x ∨ w.heap.size ≤ x
theorem RStep.refl {w : World} {lo C T : Nat} {vB vT : Value} {b : AB} (h : RB w lo C vB vT b T) : RStep w w lo C (RF C vB vT) vB vT b T := ⟨h, Only.refl _ _, fun x hx => Or.inl hx⟩
theorem RStep.trans {w w1 w2 : World} {lo C T T' : Nat} {G : Nat → Prop} {vB vT vB' vT' : Value} {b b' : AB} (h : RStep w w1 lo C G vB vT b T) (k : RStep w1 w2 lo C (RF C vB vT) vB' vT' b' T') : RStep w w2 lo C G vB' vT' b' T' := by
  refine ⟨k.r, ?_, fun x hx => ?_⟩
  · refine ⟨k.o.os.trans h.o.os, k.o.tape.trans h.o.tape, k.o.output.trans h.o.output, Nat.le_trans h.o.size k.o.size, fun x hx hg => ?_⟩
    exact (k.o.block x (Nat.lt_of_lt_of_le hx h.o.size) (fun hf => by rcases h.f x hf with h1 | h1; exact hg h1; omega)).trans (h.o.block x hx hg)
  · rcases k.f x hx with h1 | h1
    · exact h.f x h1
    · exact Or.inr (Nat.le_trans h.o.size h1)
theorem own_fro {w : World} {b e n c g : Nat} {L : List Value} (h : w.ownsRow b e 1 (.slice (some ⟨g, 0, none⟩) n c) n L) (i : Nat) : w.frozen? ⟨g, i, none⟩ = false := by
  rcases h.2 with ⟨h1, _⟩ | ⟨g', cap, cur, h1, _, h3, _⟩
  · injection h1 with h1; cases h1
  · injection h1 with h1
    injection h1 with h1
    injection h1 with h1 _
    subst h1
    simp [World.frozen?, h3]
theorem own_set {w : World} {b e n c g i : Nat} {L : List Value} {u : Value} (h : w.ownsRow b e 1 (.slice (some ⟨g, 0, none⟩) n c) n L) (hi : i < n) (hu : u.oneCell' = true) : (w.setCell ⟨g, i, none⟩ u).ownsRow b e 1 (.slice (some ⟨g, 0, none⟩) n c) n (L.set i u) := by
  refine ⟨by rw [List.length_set]; exact h.1, ?_⟩
  rcases h.2 with ⟨h1, _⟩ | ⟨g', cap, cur, h1, h2, h3, h4, h5, h6, h7⟩
  · injection h1 with h1; cases h1
  · injection h1 with h1 _ hc
    injection h1 with h1
    injection h1 with h1 _
    subst h1; subst hc
    refine Or.inr ⟨g, c, cur.setIfInBounds i u, rfl, h2, ?_, h4, h5, by simpa using h6, ?_⟩
    · rw [setCell_eq_setRow w g i cur e (0, 0) u h3]
      exact setRow_heap w g cur _ e _ h3
    · rw [Array.toList_setIfInBounds, List.take_set, h7]
theorem set_only' (w : World) (h i : Nat) (v : Value) : Only (fun x => x = h) w (w.setCell ⟨h, i, none⟩ v) := (Only.refl (fun x => x = h) w).setCell (p := ⟨h, i, none⟩) rfl v
theorem RB.only {w w' : World} {lo C T : Nat} {vB vT : Value} {b : AB} {F : Nat → Prop} (h : RB w lo C vB vT b T) (ho : Only F w w') (hF : ∀ x, RF C vB vT x → ¬ F x) : RB w' lo C vB vT b T := by
  have hC : C < w.heap.size := World.block_lt_of_cell? w _ h.c0
  have hb := ho.block C hC (hF C (Or.inl rfl))
  have hrow : ∀ {e n : Nat} {v : Value} {L : List Value}, w.ownsRow lo e 1 v n L → (∀ g, v.ownBlock = some g → ¬ F g) → w'.ownsRow lo e 1 v n L := by
    intro e n v L h hv
    refine ⟨h.1, ?_⟩
    rcases h.2 with h1 | ⟨g, cap, cur, h1, h2, h3, h4⟩
    · exact Or.inl h1
    · refine Or.inr ⟨g, cap, cur, h1, h2, ?_, h4⟩
      rw [ho.block g (Array.getElem?_eq_some_iff.1 h3).1 (hv g (by rw [h1]; rfl))]
      exact h3
  exact ⟨(World.cell?_of_block (a := ⟨C, 0, none⟩) hb).trans h.c0, (World.cell?_of_block (a := ⟨C, 1, none⟩) hb).trans h.c1, (World.frozen?_of_block (a := ⟨C, 0, none⟩) hb).trans h.f0, (World.frozen?_of_block (a := ⟨C, 1, none⟩) hb).trans h.f1,
    hrow h.rB (fun g hg => hF g (Or.inr (Or.inl hg))), hrow h.rT (fun g hg => hF g (Or.inr (Or.inr hg))), h.tT, h.le, h.nB, h.nT, h.sep⟩
theorem own_only {w w' : World} {lo e n : Nat} {v : Value} {L : List Value} {F : Nat → Prop} (h : w.ownsRow lo e 1 v n L) (ho : Only F w w') (hv : ∀ g, v.ownBlock = some g → ¬ F g) : w'.ownsRow lo e 1 v n L := by
  refine ⟨h.1, ?_⟩
  rcases h.2 with h1 | ⟨g, cap, cur, h1, h2, h3, h4⟩
  · exact Or.inl h1
  · refine Or.inr ⟨g, cap, cur, h1, h2, ?_, h4⟩
    rw [ho.block g (Array.getElem?_eq_some_iff.1 h3).1 (hv g (by rw [h1]; rfl))]
    exact h3
theorem grown_only {w w' : World} {r : Option Nat} (h : w.grownBy w' r) : Only (fun x => r = some x) w w' := ⟨h.os, h.tape, h.output, h.size, fun k hk hf => h.block k hk (fun e => hf e.symm)⟩
theorem tL_snoc {T : Nat} {th : Nat → Bool} (h : th T = false) : tL (T + 1) th = tL T th ++ [.bool false] := by
  unfold tL; rw [List.range_succ, List.map_append]; simp [h]
theorem tL_set {T k : Nat} {th : Nat → Bool} (hk : k < T) (u : Bool) : (tL T th).set k (.bool u) = tL T (updB th k u) := by
  apply List.ext_getElem?
  intro i
  rw [List.getElem?_set]
  by_cases hi : i < T
  · rw [tL_get (updB th k u) hi]
    by_cases e : k = i
    · subst e; simp [tL_length, hk, updB]
    · rw [if_neg e, tL_get th hi]
      unfold updB; rw [if_neg (fun h => e h.symm)]
  · rw [if_neg (by omega), List.getElem?_eq_none (by rw [tL_length]; omega), List.getElem?_eq_none (by rw [tL_length]; omega)]
/-- The marks grown by one. -/
theorem RB.growT {w w3 : World} {lo C T g cap : Nat} {vB vT : Value} {b : AB} {o : Obj} (h : RB w lo C vB vT b T) (hT : T < 4096) (hlo : lo ≤ w.heap.size)
    (hown : w3.ownsRow lo 4 1 (.slice (some ⟨g, 0, none⟩) (T + 1) cap) (T + 1) (tL T b.th ++ [.bool false])) (hgr : (w.alloc o).grownBy w3 vT.ownBlock) (hg : vT.ownBlock = some g ∨ g = w.heap.size + 1) :
    RStep w (w3.setCell ⟨C, 1, none⟩ (.slice (some ⟨g, 0, none⟩) (T + 1) cap)) lo C (RF C vB vT) vB (.slice (some ⟨g, 0, none⟩) (T + 1) cap) b (T + 1) := by
  have hC : C < w.heap.size := World.block_lt_of_cell? w _ h.c0
  have hB := h.rB.lt
  have hTl := h.rT.lt
  have hth : b.th T = false := by
    cases e : b.th T
    · rfl
    · have := h.tT T e; omega
  have hgC : g ≠ C := by
    rcases hg with e | e
    · intro h1; exact h.nT (h1 ▸ e)
    · omega
  have ho1 : Only (fun x => vT.ownBlock = some x) w w3 := (Only.of_below (below_one w o)).trans (grown_only hgr)
  have h3 : w3.heap[C]? = w.heap[C]? := ho1.block C hC h.nT
  have hst := set_only' w3 C 1 (.slice (some ⟨g, 0, none⟩) (T + 1) cap)
  have e1 := (World.cell?_of_block (a := ⟨C, 1, none⟩) h3).trans h.c1
  refine ⟨⟨?_, World.cell?_setCell_same _ _ _ e1, (World.frozen?_setCell _ _ _ _).trans ((World.frozen?_of_block (a := ⟨C, 0, none⟩) h3).trans h.f0), (World.frozen?_setCell _ _ _ _).trans ((World.frozen?_of_block (a := ⟨C, 1, none⟩) h3).trans h.f1), ?_, ?_, fun k hk => by have := h.tT k hk; omega, by omega, h.nB, ?_, ?_⟩, ?_, ?_⟩
  · exact (World.cell?_setCell_other _ _ _ _ (by intro e; injection e with _ e; simp at e)).trans ((World.cell?_of_block (a := ⟨C, 0, none⟩) h3).trans h.c0)
  · exact own_only (own_only h.rB ho1 (fun x hx e => h.sep x hx e)) hst (fun x hx e => by subst e; exact h.nB hx)
  · rw [tL_snoc hth]
    exact own_only hown hst (fun x hx e => by
      have : g = x := by simpa [Value.ownBlock] using hx
      omega)
  · intro e
    have : g = C := by simpa [Value.ownBlock] using e
    exact hgC this
  · intro x hx e
    have hgx : g = x := by simpa [Value.ownBlock] using e
    rcases hg with e1 | e1
    · exact h.sep x hx (hgx ▸ e1)
    · have := (hB x hx).2; omega
  · exact (ho1.mono (G := RF C vB vT) fun x hx => Or.inr (Or.inr hx)).trans (hst.mono fun x hx => Or.inl hx)
  · rintro x (hx | hx | hx)
    · exact Or.inl (Or.inl hx)
    · exact Or.inl (Or.inr (Or.inl hx))
    · have hgx : g = x := by simpa [Value.ownBlock] using hx
      rcases hg with e1 | e1
      · exact Or.inl (Or.inr (Or.inr (hgx ▸ e1)))
      · exact Or.inr (by omega)
/-- A mark set. -/
theorem RB.setT {w : World} {lo C T g cap k : Nat} {vB : Value} {b : AB} (h : RB w lo C vB (.slice (some ⟨g, 0, none⟩) T cap) b T) (hk : k < T) :
    RStep w (w.setCell ⟨g, k, none⟩ (.bool true)) lo C (RF C vB (.slice (some ⟨g, 0, none⟩) T cap)) vB (.slice (some ⟨g, 0, none⟩) T cap) ⟨b.size, updB b.th k true, b.dat⟩ T := by
  have hst := set_only' w g k (.bool true)
  have hgC : g ≠ C := fun e => h.nT (by rw [← e]; rfl)
  have hb : (w.setCell ⟨g, k, none⟩ (.bool true)).heap[C]? = w.heap[C]? := set_block (fun e => hgC e.symm)
  refine ⟨⟨(World.cell?_of_block (a := ⟨C, 0, none⟩) hb).trans h.c0, (World.cell?_of_block (a := ⟨C, 1, none⟩) hb).trans h.c1, (World.frozen?_of_block (a := ⟨C, 0, none⟩) hb).trans h.f0, (World.frozen?_of_block (a := ⟨C, 1, none⟩) hb).trans h.f1, ?_, ?_, fun x hx => ?_, h.le, h.nB, h.nT, h.sep⟩, ?_, fun x hx => Or.inl hx⟩
  · exact own_only h.rB hst (fun x hx e => by subst e; exact h.sep x hx rfl)
  · have := own_set h.rT hk (u := .bool true) rfl
    rw [tL_set hk] at this
    exact this
  · unfold updB at hx
    by_cases e : x = k
    · omega
    · simp only [if_neg e] at hx; exact h.tT x hx
  · exact hst.mono fun x hx => Or.inr (Or.inr (by rw [hx]; rfl))

def LayE (w : World) (lo C : Nat) (vB vT : Value) (b : AB) (k : Nat) (e : Ending) (w' : World) : Prop :=
  e = .returned (.tuple #[]) ∧ ∃ vT' T', RStep w w' lo C (RF C vB vT) vB vT' ⟨b.size, updB b.th k true, b.dat⟩ T'
end Go.Proofs.YtlnlehoekchdeaaGreat.bl
end
section
namespace Go.Proofs.YtlnlehoekchdeaaGreat.bl
open Go.RowKit
set_option linter.unusedVariables false
set_option linter.unusedSimpArgs false


/-- The bytes grown by one that is 0. -/
theorem RB.growB {w w3 : World} {lo C T g cap : Nat} {vB vT : Value} {b : AB} {o : Obj} (h : RB w lo C vB vT b T) (hd : b.dat b.size = 0)
    (hown : w3.ownsRow lo 5 1 (.slice (some ⟨g, 0, none⟩) (b.size + 1) cap) (b.size + 1) (rowF b.size b.dat ++ [U8 0])) (hgr : (w.alloc o).grownBy w3 vB.ownBlock) (hg : vB.ownBlock = some g ∨ g = w.heap.size + 1) :
    RStep w (w3.setCell ⟨C, 0, none⟩ (.slice (some ⟨g, 0, none⟩) (b.size + 1) cap)) lo C (RF C vB vT) (.slice (some ⟨g, 0, none⟩) (b.size + 1) cap) vT ⟨b.size + 1, b.th, b.dat⟩ T := by
  have hC : C < w.heap.size := World.block_lt_of_cell? w _ h.c0
  have hB := h.rB.lt
  have hTl := h.rT.lt
  have hgC : g ≠ C := by
    rcases hg with e | e
    · intro h1; exact h.nB (h1 ▸ e)
    · omega
  have ho1 : Only (fun x => vB.ownBlock = some x) w w3 := (Only.of_below (below_one w o)).trans (grown_only hgr)
  have h3 : w3.heap[C]? = w.heap[C]? := ho1.block C hC h.nB
  have hst := set_only' w3 C 0 (.slice (some ⟨g, 0, none⟩) (b.size + 1) cap)
  have e0 := (World.cell?_of_block (a := ⟨C, 0, none⟩) h3).trans h.c0
  refine ⟨⟨World.cell?_setCell_same _ _ _ e0, ?_, (World.frozen?_setCell _ _ _ _).trans ((World.frozen?_of_block (a := ⟨C, 0, none⟩) h3).trans h.f0), (World.frozen?_setCell _ _ _ _).trans ((World.frozen?_of_block (a := ⟨C, 1, none⟩) h3).trans h.f1), ?_, ?_, h.tT, h.le, ?_, h.nT, ?_⟩, ?_, ?_⟩
  · exact (World.cell?_setCell_other _ _ _ _ (by intro e; injection e with _ e; simp at e)).trans ((World.cell?_of_block (a := ⟨C, 1, none⟩) h3).trans h.c1)
  · rw [rowF_snoc, hd]
    exact own_only hown hst (fun x hx e => by
      have : g = x := by simpa [Value.ownBlock] using hx
      omega)
  · exact own_only (own_only h.rT ho1 (fun x hx e => h.sep x e hx)) hst (fun x hx e => by subst e; exact h.nT hx)
  · intro e
    have : g = C := by simpa [Value.ownBlock] using e
    exact hgC this
  · intro x hx e
    have hgx : g = x := by simpa [Value.ownBlock] using hx
    rcases hg with e1 | e1
    · exact h.sep x (hgx ▸ e1) e
    · have := (hTl x e).2; omega
  · exact (ho1.mono (G := RF C vB vT) fun x hx => Or.inr (Or.inl hx)).trans (hst.mono fun x hx => Or.inl hx)
  · rintro x (hx | hx | hx)
    · exact Or.inl (Or.inl hx)
    · have hgx : g = x := by simpa [Value.ownBlock] using hx
      rcases hg with e1 | e1
      · exact Or.inl (Or.inr (Or.inl (hgx ▸ e1)))
      · exact Or.inr (by omega)
    · exact Or.inl (Or.inr (Or.inr hx))
def updD (f : Nat → UInt8) (a : Nat) (x : UInt8) : Nat → UInt8 := fun i => if i = a then x else f i
theorem rowF_set {n k : Nat} {f : Nat → UInt8} (hk : k < n) (x : UInt8) : (rowF n f).set k (U8 x) = rowF n (updD f k x) := by
  apply List.ext_getElem?
  intro i
  rw [List.getElem?_set]
  by_cases hi : i < n
  · rw [rowF_get (updD f k x) hi]
    by_cases e : k = i
    · subst e; simp [rowF_length, hk, updD]
    · rw [if_neg e, rowF_get f hi]
      unfold updD; rw [if_neg (fun h => e h.symm)]
  · rw [if_neg (by omega), List.getElem?_eq_none (by rw [rowF_length]; omega), List.getElem?_eq_none (by rw [rowF_length]; omega)]
/-- A byte set. -/
theorem RB.setB {w : World} {lo C T g cap k n : Nat} {vT : Value} {b : AB} (h : RB w lo C (.slice (some ⟨g, 0, none⟩) n cap) vT b T) (hn : n = b.size) (hk : k < n) (x : UInt8) :
    RStep w (w.setCell ⟨g, k, none⟩ (U8 x)) lo C (RF C (.slice (some ⟨g, 0, none⟩) n cap) vT) (.slice (some ⟨g, 0, none⟩) n cap) vT ⟨b.size, b.th, updD b.dat k x⟩ T := by
  subst hn
  have hst := set_only' w g k (U8 x)
  have hgC : g ≠ C := fun e => h.nB (by rw [← e]; rfl)
  have hb : (w.setCell ⟨g, k, none⟩ (U8 x)).heap[C]? = w.heap[C]? := set_block (fun e => hgC e.symm)
  refine ⟨⟨(World.cell?_of_block (a := ⟨C, 0, none⟩) hb).trans h.c0, (World.cell?_of_block (a := ⟨C, 1, none⟩) hb).trans h.c1, (World.frozen?_of_block (a := ⟨C, 0, none⟩) hb).trans h.f0, (World.frozen?_of_block (a := ⟨C, 1, none⟩) hb).trans h.f1, ?_, ?_, h.tT, h.le, h.nB, h.nT, h.sep⟩, ?_, fun x hx => Or.inl hx⟩
  · have := own_set h.rB hk (u := U8 x) rfl
    rw [rowF_set hk] at this
    exact this
  · exact own_only h.rT hst (fun y hy e => by subst e; exact h.sep y rfl hy)
  · exact hst.mono fun y hy => Or.inr (Or.inl (by rw [hy]; rfl))

/-- Behind a call that may have turned the body whose blocks were G, and its store. -/
structure RS2 (w w' : World) (lo C RS room used : Nat) (G : Nat → Prop) (vB vT : Value) (b : AB) (T : Nat) : Prop where
  r : RB w' lo C vB vT b T
  s : StoC w' RS room used
  o : Only (fun x => G x ∨ x = RS) w w'
  f : ∀ x, RF C vB vT x → G x ∨ w.heap.size ≤ x
  n : RS < w.heap.size ∧ ¬ G RS
theorem RS2.notF {w w' : World} {lo C RS room used T : Nat} {G : Nat → Prop} {vB vT : Value} {b : AB} (h : RS2 w w' lo C RS room used G vB vT b T) : ¬ RF C vB vT RS := fun hf => by
  rcases h.f RS hf with h1 | h1
  · exact h.n.2 h1
  · have := h.n.1; omega
theorem RS2.start {w : World} {lo C RS room used T : Nat} {vB vT : Value} {b : AB} (h : RB w lo C vB vT b T) (hs : StoC w RS room used) (hn : ¬ RF C vB vT RS) : RS2 w w lo C RS room used (RF C vB vT) vB vT b T :=
  ⟨h, hs, Only.refl _ _, fun x hx => Or.inl hx, World.block_lt_of_cell? w _ hs.c0, hn⟩
theorem RS2.body {w w1 w2 : World} {lo C RS room used T T' : Nat} {G : Nat → Prop} {vB vT vB' vT' : Value} {b b' : AB} (h : RS2 w w1 lo C RS room used G vB vT b T) (k : RStep w1 w2 lo C (RF C vB vT) vB' vT' b' T') : RS2 w w2 lo C RS room used G vB' vT' b' T' := by
  have hRS1 : RS < w1.heap.size := Nat.lt_of_lt_of_le h.n.1 h.o.size
  refine ⟨k.r, h.s.below (k.o.block RS hRS1 h.notF), ?_, fun x hx => ?_, h.n⟩
  · refine ⟨k.o.os.trans h.o.os, k.o.tape.trans h.o.tape, k.o.output.trans h.o.output, Nat.le_trans h.o.size k.o.size, fun x hx hg => ?_⟩
    exact (k.o.block x (Nat.lt_of_lt_of_le hx h.o.size) (fun hf => by rcases h.f x hf with h1 | h1; exact hg (Or.inl h1); omega)).trans (h.o.block x hx hg)
  · rcases k.f x hx with h1 | h1
    · exact h.f x h1
    · exact Or.inr (Nat.le_trans h.o.size h1)
theorem RS2.use {w w1 : World} {lo C RS room used T : Nat} {G : Nat → Prop} {vB vT : Value} {b : AB} (h : RS2 w w1 lo C RS room used G vB vT b T) (u : Nat) : RS2 w (w1.setCell ⟨RS, 1, none⟩ (.int .i64 (u : Int))) lo C RS room u G vB vT b T :=
  ⟨h.r.only (set_only' w1 RS 1 _) (fun x hx e => h.notF (e ▸ hx)), h.s.set u, h.o.trans ((set_only' w1 RS 1 _).mono fun x hx => Or.inr hx), h.f, h.n⟩
theorem RS2.drew {w w1 : World} {lo C RS room used T : Nat} {G : Nat → Prop} {vB vT : Value} {b : AB} (h : RS2 w w1 lo C RS room used G vB vT b T) : RS2 w w1.drew lo C RS room used G vB vT b T :=
  ⟨h.r.below (Below.refl _ _).drew, h.s.drew, h.o.drew, h.f, h.n⟩
end Go.Proofs.YtlnlehoekchdeaaGreat.bl
end
section
namespace Go.Proofs.YtlnlehoekchdeaaGreat.bl
open Go.RowKit
set_option linter.unusedVariables false
set_option linter.unusedSimpArgs false


theorem AB_ext {a b : AB} (h1 : a.size = b.size) (h2 : ∀ k, a.th k = b.th k) (h3 : ∀ i, a.dat i = b.dat i) : a = b := by
  obtain ⟨n, t, d⟩ := a
  obtain ⟨m, u, e⟩ := b
  obtain rfl : n = m := h1
  obtain rfl : t = u := funext h2
  obtain rfl : d = e := funext h3
  rfl
def RWriteE (w : World) (lo C RS room used : Nat) (G : Nat → Prop) (b : AB) (off : Int) (len : Nat) (f : Nat → UInt8) (e : Ending) (w' : World) : Prop :=
  ∃ (p : Nat) (err : Int) (vB vT : Value) (T : Nat), e = .returned (.tuple #[.int .i64 (p : Int), .int .i64 err]) ∧ WR b used room off len p err ∧ RS2 w w' lo C RS room (used + (wr b off p f).n - b.n) G vB vT (wr b off p f) T
/-- What the document's loop holds behind p bytes. -/
structure RMid (w wr : World) (lo C RS room used s p N : Nat) (G : Nat → Prop) (vB vT : Value) (b : AB) (f : Nat → UInt8) (T : Nat) : Prop where
  r : RS2 w wr lo C RS room (used + N - b.n) G vB vT (wrB b s p f) T
  n : N = cnt 4096 (thW b s (s + p))
  le : b.n ≤ N
  ok : ∀ q, q < p → okW b used room s q
  rm : used + N - b.n ≤ room
theorem cnt_add {N k : Nat} {th : Nat → Bool} (hk : k < N) (ht : th k = false) : cnt N (updB th k true) = cnt N th + 1 := by
  induction N with
  | zero => omega
  | succ N ih =>
    rw [cnt_succ, cnt_succ]
    by_cases e : k = N
    · subst e
      have h1 : cnt k (updB th k true) = cnt k th := by
        unfold cnt
        congr 1
        apply List.filter_congr
        intro x hx
        unfold updB
        rw [if_neg (by have := List.mem_range.1 hx; omega)]
      rw [h1, ht]
      unfold updB
      simp
    · have h2 : updB th k true N = th N := by unfold updB; rw [if_neg (fun h => e h.symm)]
      rw [ih (by omega), h2]
      omega
theorem RMid.fin {w wr : World} {lo C RS room used s p N len TT : Nat} {G : Nat → Prop} {vB vT : Value} {b : AB} {off : Int} {f : Nat → UInt8} {T : Nat} (h : RMid w wr lo C RS room used s p N G vB vT b f T)
    (ho : off = (s : Int)) (hs : off < 65536) (hl : 0 < len) (hT : TT = min len (65536 - s)) (hst : IsStop b used room s TT p) : RWriteE w lo C RS room used G b off len f (.returned (.tuple #[.int .i64 (p : Int), .int .i64 (if p = 0 then 28 else 0)])) wr := by
  have hw : Go.Proofs.YtlnlehoekchdeaaGreat.bl.wr b off p f = wrB b s p f := by unfold Go.Proofs.YtlnlehoekchdeaaGreat.bl.wr; rw [ho, Int.toNat_natCast]
  refine ⟨p, _, vB, vT, T, rfl, Or.inr (Or.inr (Or.inr ⟨by omega, hs, hl, ?_, rfl⟩)), ?_⟩
  · rw [ho, Int.toNat_natCast, ← hT]; exact hst
  · rw [hw, show (wrB b s p f).n = N from h.n.symm]; exact h.r

end Go.Proofs.YtlnlehoekchdeaaGreat.bl
end
section
namespace Go.Proofs.YtlnlehoekchdeaaGreat.bl
open Go.RowKit
set_option linter.unusedVariables false
set_option linter.unusedSimpArgs false



end Go.Proofs.YtlnlehoekchdeaaGreat.bl
end
