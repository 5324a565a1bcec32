/- The document's own body: its bytes grown and set; its store beside it. -/
import Derived.Test.YtlelnpckbcpkkaaGreatBlRLay
namespace Go.Proofs.YtlelnpckbcpkkaaGreat.bl
open Go.RowKit
set_option linter.unusedVariables false
set_option linter.unusedSimpArgs false


/-- The bytes grown by one that is 0. -/
theorem RB.growB {w w3 : World} {lo C T g cap : Nat} {vB vT : Value} {b : AB} {o : Obj} (h : RB w lo C vB vT b T) (hd : b.dat b.size = 0)
    (hown : w3.ownsRow lo 5 1 (.slice (some ⟨g, 0, none⟩) (b.size + 1) cap) (b.size + 1) (rowF b.size b.dat ++ [U8 0])) (hgr : (w.alloc o).grownBy w3 vB.ownBlock) (hg : vB.ownBlock = some g ∨ g = w.heap.size + 1) :
    RStep w (w3.setCell ⟨C, 0, none⟩ (.slice (some ⟨g, 0, none⟩) (b.size + 1) cap)) lo C (RF C vB vT) (.slice (some ⟨g, 0, none⟩) (b.size + 1) cap) vT ⟨b.size + 1, b.th, b.dat⟩ T := by
  have hC : C < w.heap.size := World.block_lt_of_cell? w _ h.c0
  have hB := h.rB.lt
  have hTl := h.rT.lt
  have hgC : g ≠ C := by
    rcases hg with e | e
    · intro h1; exact h.nB (h1 ▸ e)
    · omega
  have ho1 : Only (fun x => vB.ownBlock = some x) w w3 := (Only.of_below (below_one w o)).trans (grown_only hgr)
  have h3 : w3.heap[C]? = w.heap[C]? := ho1.block C hC h.nB
  have hst := set_only' w3 C 0 (.slice (some ⟨g, 0, none⟩) (b.size + 1) cap)
  have e0 := (World.cell?_of_block (a := ⟨C, 0, none⟩) h3).trans h.c0
  refine ⟨⟨World.cell?_setCell_same _ _ _ e0, ?_, (World.frozen?_setCell _ _ _ _).trans ((World.frozen?_of_block (a := ⟨C, 0, none⟩) h3).trans h.f0), (World.frozen?_setCell _ _ _ _).trans ((World.frozen?_of_block (a := ⟨C, 1, none⟩) h3).trans h.f1), ?_, ?_, h.tT, h.le, ?_, h.nT, ?_⟩, ?_, ?_⟩
  · exact (World.cell?_setCell_other _ _ _ _ (by intro e; injection e with _ e; simp at e)).trans ((World.cell?_of_block (a := ⟨C, 1, none⟩) h3).trans h.c1)
  · rw [rowF_snoc, hd]
    exact own_only hown hst (fun x hx e => by
      have : g = x := by simpa [Value.ownBlock] using hx
      omega)
  · exact own_only (own_only h.rT ho1 (fun x hx e => h.sep x e hx)) hst (fun x hx e => by subst e; exact h.nT hx)
  · intro e
    have : g = C := by simpa [Value.ownBlock] using e
    exact hgC this
  · intro x hx e
    have hgx : g = x := by simpa [Value.ownBlock] using hx
    rcases hg with e1 | e1
    · exact h.sep x (hgx ▸ e1) e
    · have := (hTl x e).2; omega
  · exact (ho1.mono (G := RF C vB vT) fun x hx => Or.inr (Or.inl hx)).trans (hst.mono fun x hx => Or.inl hx)
  · rintro x (hx | hx | hx)
    · exact Or.inl (Or.inl hx)
    · have hgx : g = x := by simpa [Value.ownBlock] using hx
      rcases hg with e1 | e1
      · exact Or.inl (Or.inr (Or.inl (hgx ▸ e1)))
      · exact Or.inr (by omega)
    · exact Or.inl (Or.inr (Or.inr hx))
def updD (f : Nat → UInt8) (a : Nat) (x : UInt8) : Nat → UInt8 := fun i => if i = a then x else f i
theorem rowF_set {n k : Nat} {f : Nat → UInt8} (hk : k < n) (x : UInt8) : (rowF n f).set k (U8 x) = rowF n (updD f k x) := by
  apply List.ext_getElem?
  intro i
  rw [List.getElem?_set]
  by_cases hi : i < n
  · rw [rowF_get (updD f k x) hi]
    by_cases e : k = i
    · subst e; simp [rowF_length, hk, updD]
    · rw [if_neg e, rowF_get f hi]
      unfold updD; rw [if_neg (fun h => e h.symm)]
  · rw [if_neg (by omega), List.getElem?_eq_none (by rw [rowF_length]; omega), List.getElem?_eq_none (by rw [rowF_length]; omega)]
/-- A byte set. -/
theorem RB.setB {w : World} {lo C T g cap k n : Nat} {vT : Value} {b : AB} (h : RB w lo C (.slice (some ⟨g, 0, none⟩) n cap) vT b T) (hn : n = b.size) (hk : k < n) (x : UInt8) :
    RStep w (w.setCell ⟨g, k, none⟩ (U8 x)) lo C (RF C (.slice (some ⟨g, 0, none⟩) n cap) vT) (.slice (some ⟨g, 0, none⟩) n cap) vT ⟨b.size, b.th, updD b.dat k x⟩ T := by
  subst hn
  have hst := set_only' w g k (U8 x)
  have hgC : g ≠ C := fun e => h.nB (by rw [← e]; rfl)
  have hb : (w.setCell ⟨g, k, none⟩ (U8 x)).heap[C]? = w.heap[C]? := set_block (fun e => hgC e.symm)
  refine ⟨⟨(World.cell?_of_block (a := ⟨C, 0, none⟩) hb).trans h.c0, (World.cell?_of_block (a := ⟨C, 1, none⟩) hb).trans h.c1, (World.frozen?_of_block (a := ⟨C, 0, none⟩) hb).trans h.f0, (World.frozen?_of_block (a := ⟨C, 1, none⟩) hb).trans h.f1, ?_, ?_, h.tT, h.le, h.nB, h.nT, h.sep⟩, ?_, fun x hx => Or.inl hx⟩
  · have := own_set h.rB hk (u := U8 x) rfl
    rw [rowF_set hk] at this
    exact this
  · exact own_only h.rT hst (fun y hy e => by subst e; exact h.sep y rfl hy)
  · exact hst.mono fun y hy => Or.inr (Or.inl (by rw [hy]; rfl))

/-- Behind a call that may have turned the body whose blocks were G, and its store. -/
structure RS2 (w w' : World) (lo C RS room used : Nat) (G : Nat → Prop) (vB vT : Value) (b : AB) (T : Nat) : Prop where
  r : RB w' lo C vB vT b T
  s : StoC w' RS room used
  o : Only (fun x => G x ∨ x = RS) w w'
  f : ∀ x, RF C vB vT x → G x ∨ w.heap.size ≤ x
  n : RS < w.heap.size ∧ ¬ G RS
theorem RS2.notF {w w' : World} {lo C RS room used T : Nat} {G : Nat → Prop} {vB vT : Value} {b : AB} (h : RS2 w w' lo C RS room used G vB vT b T) : ¬ RF C vB vT RS := fun hf => by
  rcases h.f RS hf with h1 | h1
  · exact h.n.2 h1
  · have := h.n.1; omega
theorem RS2.start {w : World} {lo C RS room used T : Nat} {vB vT : Value} {b : AB} (h : RB w lo C vB vT b T) (hs : StoC w RS room used) (hn : ¬ RF C vB vT RS) : RS2 w w lo C RS room used (RF C vB vT) vB vT b T :=
  ⟨h, hs, Only.refl _ _, fun x hx => Or.inl hx, World.block_lt_of_cell? w _ hs.c0, hn⟩
theorem RS2.body {w w1 w2 : World} {lo C RS room used T T' : Nat} {G : Nat → Prop} {vB vT vB' vT' : Value} {b b' : AB} (h : RS2 w w1 lo C RS room used G vB vT b T) (k : RStep w1 w2 lo C (RF C vB vT) vB' vT' b' T') : RS2 w w2 lo C RS room used G vB' vT' b' T' := by
  have hRS1 : RS < w1.heap.size := Nat.lt_of_lt_of_le h.n.1 h.o.size
  refine ⟨k.r, h.s.below (k.o.block RS hRS1 h.notF), ?_, fun x hx => ?_, h.n⟩
  · refine ⟨k.o.os.trans h.o.os, k.o.tape.trans h.o.tape, k.o.output.trans h.o.output, Nat.le_trans h.o.size k.o.size, fun x hx hg => ?_⟩
    exact (k.o.block x (Nat.lt_of_lt_of_le hx h.o.size) (fun hf => by rcases h.f x hf with h1 | h1; exact hg (Or.inl h1); omega)).trans (h.o.block x hx hg)
  · rcases k.f x hx with h1 | h1
    · exact h.f x h1
    · exact Or.inr (Nat.le_trans h.o.size h1)
theorem RS2.use {w w1 : World} {lo C RS room used T : Nat} {G : Nat → Prop} {vB vT : Value} {b : AB} (h : RS2 w w1 lo C RS room used G vB vT b T) (u : Nat) : RS2 w (w1.setCell ⟨RS, 1, none⟩ (.int .i64 (u : Int))) lo C RS room u G vB vT b T :=
  ⟨h.r.only (set_only' w1 RS 1 _) (fun x hx e => h.notF (e ▸ hx)), h.s.set u, h.o.trans ((set_only' w1 RS 1 _).mono fun x hx => Or.inr hx), h.f, h.n⟩
theorem RS2.drew {w w1 : World} {lo C RS room used T : Nat} {G : Nat → Prop} {vB vT : Value} {b : AB} (h : RS2 w w1 lo C RS room used G vB vT b T) : RS2 w w1.drew lo C RS room used G vB vT b T :=
  ⟨h.r.below (Below.refl _ _).drew, h.s.drew, h.o.drew, h.f, h.n⟩
end Go.Proofs.YtlelnpckbcpkkaaGreat.bl
