/- The document's own branch in memory: one block with the store's pointer and the inodes, nine cells each; the rows of bodies and directories behind it. -/
import Derived.Test.YtlelnpckbcpkkaaGreatLk
import Derived.Test.YtlelnpckbcpkkaaGreatDnRDirX
import Derived.Test.YtlelnpckbcpkkaaGreatBlRBX
namespace Go.Proofs.YtlelnpckbcpkkaaGreat.cb
open Go.RowKit
open Go.Proofs.YtlelnpckbcpkkaaGreat.br
open Go.Proofs.YtlelnpckbcpkkaaGreat.dn (En lget lset ldel nerr dotB Sorted getV DuX LaidX)
open Go.Proofs.YtlelnpckbcpkkaaGreat.bl (AB Only StoC Pq cut cutR wr WR U8 RF)
open Go.Proofs.YtlelnpckbcpkkaaGreat.bl.rx (RB RS2 Kp)
set_option linter.unusedVariables false
set_option linter.unusedSimpArgs false

/-- Where an inode's rows lie. -/
structure Pd where
  vB : Value
  vT : Value
  T : Nat
  o : Option Nat
  c : Nat
def pd0 : Pd := ⟨.slice none 0 0, .slice none 0 0, 0, none, 0⟩
def Own (p : Pd) (b : Nat) : Prop := p.vB.ownBlock = some b ∨ p.vT.ownBlock = some b ∨ p.o = some b
instance (p : Pd) (b : Nat) : Decidable (Own p b) := by unfold Own; infer_instance
theorem own0 (b : Nat) : ¬ Own pd0 b := by rintro (h | h | h) <;> cases h
/-- An inode of the document's. -/
structure DI (w : World) (lo D k : Nat) (p : Pd) (x : Ino) : Prop where
  c0 : w.cell? ⟨D, 1 + k * 9, none⟩ = some (.int .i64 x.kind)
  c1 : w.cell? ⟨D, 1 + k * 9 + 1, none⟩ = some (.int .i64 x.links)
  c2 : w.cell? ⟨D, 1 + k * 9 + 2, none⟩ = some (.int .i64 x.holds)
  c3 : w.cell? ⟨D, 1 + k * 9 + 3, none⟩ = some (.int .i64 x.marks)
  c4 : w.cell? ⟨D, 1 + k * 9 + 4, none⟩ = some (.int .i64 x.parent)
  b : RB w lo D (1 + k * 9 + 5) p.vB p.vT x.body p.T
  d : DuX w D (1 + k * 9 + 7) lo p.o p.c x.dir
  c8 : w.cell? ⟨D, 1 + k * 9 + 8, none⟩ = some (.string x.target)
  nb : x.kind ≠ 1 → p.vB = .slice none 0 0 ∧ p.vT = .slice none 0 0 ∧ p.T = 0
  nd : x.kind ≠ 2 → p.o = none ∧ p.c = 0
theorem own_keep {w w' : World} {lo e n : Nat} {v : Value} {L : List Value} (h : w.ownsRow lo e 1 v n L) (hv : ∀ g, v.ownBlock = some g → w'.heap[g]? = w.heap[g]?) : w'.ownsRow lo e 1 v n L := by
  refine ⟨h.1, ?_⟩
  rcases h.2 with h1 | ⟨g, cap, cur, h1, h2, h3, h4⟩
  · exact .inl h1
  · exact .inr ⟨g, cap, cur, h1, h2, (hv g (by rw [h1]; rfl)).trans h3, h4⟩
theorem rb_keep {w w' : World} {lo C x0 T : Nat} {vB vT : Value} {b : AB} (h : RB w lo C x0 vB vT b T) (h0 : w'.cell? ⟨C, x0, none⟩ = w.cell? ⟨C, x0, none⟩) (h1 : w'.cell? ⟨C, x0 + 1, none⟩ = w.cell? ⟨C, x0 + 1, none⟩) (hf : ∀ j, w'.frozen? ⟨C, j, none⟩ = w.frozen? ⟨C, j, none⟩)
    (hB : ∀ g, vB.ownBlock = some g → w'.heap[g]? = w.heap[g]?) (hT : ∀ g, vT.ownBlock = some g → w'.heap[g]? = w.heap[g]?) : RB w' lo C x0 vB vT b T :=
  ⟨h0.trans h.c0, h1.trans h.c1, (hf _).trans h.f0, (hf _).trans h.f1, own_keep h.rB hB, own_keep h.rT hT, h.tT, h.le, h.nB, h.nT, h.sep⟩
theorem DI.keep {w w' : World} {lo D k : Nat} {p : Pd} {x : Ino} (h : DI w lo D k p x) (hc : ∀ j, j < 9 → w'.cell? ⟨D, 1 + k * 9 + j, none⟩ = w.cell? ⟨D, 1 + k * 9 + j, none⟩) (hf : ∀ j, w'.frozen? ⟨D, j, none⟩ = w.frozen? ⟨D, j, none⟩) (hb : ∀ b, Own p b → w'.heap[b]? = w.heap[b]?) : DI w' lo D k p x :=
  ⟨(hc 0 (by omega)).trans h.c0, (hc 1 (by omega)).trans h.c1, (hc 2 (by omega)).trans h.c2, (hc 3 (by omega)).trans h.c3, (hc 4 (by omega)).trans h.c4,
    rb_keep h.b (hc 5 (by omega)) (hc 6 (by omega)) hf (fun g e => hb g (.inl e)) (fun g e => hb g (.inr (.inl e))), h.d.of_cell (hc 7 (by omega)) (hf _) (fun g e => hb g (.inr (.inr e))), (hc 8 (by omega)).trans h.c8, h.nb, h.nd⟩
/-- A row of an inode lies in the heap, behind lo, and is not the branch's block. -/
theorem DI.own {w : World} {lo D k : Nat} {p : Pd} {x : Ino} (h : DI w lo D k p x) {b : Nat} (hb : Own p b) : lo ≤ b ∧ b < w.heap.size ∧ b ≠ D := by
  rcases hb with e | e | e
  · have := h.b.rB.lt b e
    exact ⟨this.1, this.2, fun e1 => h.b.nB (by rw [e, e1])⟩
  · have := h.b.rT.lt b e
    exact ⟨this.1, this.2, fun e1 => h.b.nT (by rw [e, e1])⟩
  · have := h.d.glt b e
    exact ⟨this.2.1, this.1, fun e1 => this.2.2 e1.symm⟩
structure DB (w : World) (D lo RS : Nat) (pl : Nat → Pd) (tag : Nat → Nat) (S : BS) (room : Nat) : Prop where
  c0 : w.cell? ⟨D, 0, none⟩ = some (Pq RS)
  cf : ∀ j, w.frozen? ⟨D, j, none⟩ = false
  sto : StoC w RS room S.used
  ino : ∀ k, k ≤ 200 → DI w lo D k (pl k) (S.ino k)
  tD : tag D = 1
  tS : tag RS = 2
  tI : ∀ k, k ≤ 200 → ∀ b, Own (pl k) b → tag b = 3 + k
  lo : ∀ b, b < lo → tag b = 0
  hi : ∀ b, w.heap.size ≤ b → tag b = 0
section
variable {w w' : World} {D lo RS room : Nat} {pl : Nat → Pd} {tag : Nat → Nat} {S : BS}
theorem DB.lt (h : DB w D lo RS pl tag S room) {b : Nat} (hb : tag b ≠ 0) : b < w.heap.size ∧ lo ≤ b := by
  refine ⟨?_, ?_⟩
  · rcases Nat.lt_or_ge b w.heap.size with h1 | h1
    · exact h1
    · exact absurd (h.hi b h1) hb
  · rcases Nat.lt_or_ge b lo with h1 | h1
    · exact absurd (h.lo b h1) hb
    · exact h1
theorem DB.keepAll (h : DB w D lo RS pl tag S room) (hz : w.heap.size ≤ w'.heap.size) (ho : ∀ b, tag b ≠ 0 → w'.heap[b]? = w.heap[b]?) : DB w' D lo RS pl tag S room := by
  have hD := ho D (by rw [h.tD]; decide)
  have hc : ∀ j, w'.cell? ⟨D, j, none⟩ = w.cell? ⟨D, j, none⟩ := fun j => World.cell?_of_block (a := ⟨D, j, none⟩) hD
  have hf : ∀ j, w'.frozen? ⟨D, j, none⟩ = w.frozen? ⟨D, j, none⟩ := fun j => World.frozen?_of_block (a := ⟨D, j, none⟩) hD
  exact ⟨(hc 0).trans h.c0, fun j => (hf j).trans (h.cf j), StoC.keep h.sto (ho RS (by rw [h.tS]; decide)), fun k hk => (h.ino k hk).keep (fun j _ => hc _) hf (fun b hb => ho b (by rw [h.tI k hk b hb]; omega)), h.tD, h.tS, h.tI, h.lo, fun b hb => h.hi b (Nat.le_trans hz hb)⟩
theorem DB.below (h : DB w D lo RS pl tag S room) (hb : Below w.heap.size w w') : DB w' D lo RS pl tag S room :=
  h.keepAll hb.size (fun b ht => hb.block b (h.lt ht).1)
/-- One inode, its rows and the store are turned. -/
theorem DB.turn (h : DB w D lo RS pl tag S room) {k : Nat} (hk : k ≤ 200) {p' : Pd} {x : Ino} {u : Nat} {F : Nat → Prop} (ho : Only F w w') (hF : ∀ b, F b → b = D ∨ b = RS ∨ Own (pl k) b)
    (hc : ∀ j, j < 1 + k * 9 ∨ 1 + k * 9 + 9 ≤ j → w'.cell? ⟨D, j, none⟩ = w.cell? ⟨D, j, none⟩) (hf : ∀ j, w'.frozen? ⟨D, j, none⟩ = w.frozen? ⟨D, j, none⟩)
    (hx : DI w' lo D k p' x) (hp : ∀ b, Own p' b → Own (pl k) b ∨ w.heap.size ≤ b) (hs : StoC w' RS room u) :
    ∃ pl' tag', DB w' D lo RS pl' tag' ⟨br.upd S.ino k x, u⟩ room ∧ Stp w w' tag tag' := by
  have hT : ∀ b, b < w.heap.size → (if Own p' b then 3 + k else tag b) = tag b := fun b hb => by
    split
    · rename_i h1
      rcases hp b h1 with h2 | h2
      · exact (h.tI k hk b h2).symm
      · omega
    · rfl
  have oth : ∀ b, tag b ≠ 0 → tag b ≠ 1 → tag b ≠ 2 → tag b ≠ 3 + k → w'.heap[b]? = w.heap[b]? := fun b h0 h1 h2 h3 =>
    ho.block b (h.lt h0).1 (fun hf => by
      rcases hF b hf with e | e | e
      · subst e; exact h1 h.tD
      · subst e; exact h2 h.tS
      · exact h3 (h.tI k hk b e))
  refine ⟨fun j => if j = k then p' else pl j, fun b => if Own p' b then 3 + k else tag b, ⟨(hc 0 (by omega)).trans h.c0, fun j => (hf j).trans (h.cf j), hs, fun j hj => ?_, ?_, ?_, fun j hj b hb => ?_, fun b hb => ?_, fun b hb => ?_⟩, hT, ?_⟩
  · dsimp only
    by_cases e : j = k
    · subst e; rw [if_pos rfl, upd_same]; exact hx
    · rw [if_neg e, upd_other _ _ e]
      exact (h.ino j hj).keep (fun i hi => hc _ (by omega)) hf (fun b hb => oth b (by rw [h.tI j hj b hb]; omega) (by rw [h.tI j hj b hb]; omega) (by rw [h.tI j hj b hb]; omega) (by rw [h.tI j hj b hb]; omega))
  · exact (hT D (h.lt (by rw [h.tD]; decide)).1).trans h.tD
  · exact (hT RS (h.lt (by rw [h.tS]; decide)).1).trans h.tS
  · by_cases e : j = k
    · subst e; rw [if_pos rfl] at hb; rw [if_pos hb]
    · rw [if_neg e] at hb
      have h1 := h.tI j hj b hb
      rw [hT b (h.lt (by rw [h1]; omega)).1]; exact h1
  · by_cases e : Own p' b
    · have := hx.own e; omega
    · rw [if_neg e]; exact h.lo b hb
  · by_cases e : Own p' b
    · have := hx.own e; omega
    · rw [if_neg e]; exact h.hi b (Nat.le_trans ho.size hb)
  · refine ho.mono fun b hb => ?_
    rcases hF b hb with e | e | e
    · subst e; rw [h.tD]; decide
    · subst e; rw [h.tS]; decide
    · rw [h.tI k hk b e]; omega
/-- One cell of the branch's block is set. -/
theorem only_set (w : World) (D j : Nat) (v : Value) : Only (fun b => b = D) w (w.setCell ⟨D, j, none⟩ v) := ⟨rfl, rfl, rfl, by simp [World.setCell], fun k hk hF => Below.heap_setCell _ _ _ _ hF⟩
theorem cell_oth (w : World) (D j i : Nat) (v : Value) (h : i ≠ j) : (w.setCell ⟨D, j, none⟩ v).cell? ⟨D, i, none⟩ = w.cell? ⟨D, i, none⟩ := World.cell?_setCell_other _ _ _ _ (by intro e; injection e with _ e; exact h e.symm)
theorem DB.set (h : DB w D lo RS pl tag S room) {k : Nat} (hk : k ≤ 200) (j : Nat) (hj : j ≤ 4) (v : Value) {x : Ino} (hx : DI (w.setCell ⟨D, 1 + k * 9 + j, none⟩ v) lo D k (pl k) x) :
    ∃ pl' tag', DB (w.setCell ⟨D, 1 + k * 9 + j, none⟩ v) D lo RS pl' tag' ⟨br.upd S.ino k x, S.used⟩ room ∧ Stp w (w.setCell ⟨D, 1 + k * 9 + j, none⟩ v) tag tag' :=
  h.turn hk (only_set w D _ v) (fun b hb => .inl hb) (fun i hi => cell_oth w D _ i v (by omega)) (fun i => World.frozen?_setCell _ _ _ _) hx (fun b hb => .inl hb)
    (StoC.keep h.sto (Below.heap_setCell _ _ _ _ (fun e => by
      have h1 := h.tS
      have : RS = D := e
      rw [this, h.tD] at h1
      cases h1)))
end
section
variable {w : World} {D lo k : Nat} {p : Pd} {x : Ino}
theorem DI.rows (h : DI w lo D k p x) (j : Nat) (hj : j ≤ 4) (v : Value) : RB (w.setCell ⟨D, 1 + k * 9 + j, none⟩ v) lo D (1 + k * 9 + 5) p.vB p.vT x.body p.T ∧ DuX (w.setCell ⟨D, 1 + k * 9 + j, none⟩ v) D (1 + k * 9 + 7) lo p.o p.c x.dir := by
  have hb : ∀ b, Own p b → (w.setCell ⟨D, 1 + k * 9 + j, none⟩ v).heap[b]? = w.heap[b]? := fun b hb => Below.heap_setCell _ _ _ _ (h.own hb).2.2
  exact ⟨rb_keep h.b (cell_oth w D _ _ v (by omega)) (cell_oth w D _ _ v (by omega)) (fun i => World.frozen?_setCell _ _ _ _) (fun g e => hb g (.inl e)) (fun g e => hb g (.inr (.inl e))),
    h.d.of_cell (cell_oth w D _ _ v (by omega)) (World.frozen?_setCell _ _ _ _) (fun g e => hb g (.inr (.inr e)))⟩
theorem DI.links (h : DI w lo D k p x) (n : Int) : DI (w.setCell ⟨D, 1 + k * 9 + 1, none⟩ (.int .i64 n)) lo D k p { x with links := n } :=
  ⟨(cell_oth w D _ _ _ (by omega)).trans h.c0, World.cell?_setCell_same' _ _ _ (by rw [h.c1]; rfl), (cell_oth w D _ _ _ (by omega)).trans h.c2, (cell_oth w D _ _ _ (by omega)).trans h.c3, (cell_oth w D _ _ _ (by omega)).trans h.c4,
    (h.rows 1 (by omega) _).1, (h.rows 1 (by omega) _).2, (cell_oth w D _ _ _ (by omega)).trans h.c8, h.nb, h.nd⟩
theorem DI.holds (h : DI w lo D k p x) (n : Int) : DI (w.setCell ⟨D, 1 + k * 9 + 2, none⟩ (.int .i64 n)) lo D k p { x with holds := n } :=
  ⟨(cell_oth w D _ _ _ (by omega)).trans h.c0, (cell_oth w D _ _ _ (by omega)).trans h.c1, World.cell?_setCell_same' _ _ _ (by rw [h.c2]; rfl), (cell_oth w D _ _ _ (by omega)).trans h.c3, (cell_oth w D _ _ _ (by omega)).trans h.c4,
    (h.rows 2 (by omega) _).1, (h.rows 2 (by omega) _).2, (cell_oth w D _ _ _ (by omega)).trans h.c8, h.nb, h.nd⟩
theorem DI.marks (h : DI w lo D k p x) (n : Int) : DI (w.setCell ⟨D, 1 + k * 9 + 3, none⟩ (.int .i64 n)) lo D k p { x with marks := n } :=
  ⟨(cell_oth w D _ _ _ (by omega)).trans h.c0, (cell_oth w D _ _ _ (by omega)).trans h.c1, (cell_oth w D _ _ _ (by omega)).trans h.c2, World.cell?_setCell_same' _ _ _ (by rw [h.c3]; rfl), (cell_oth w D _ _ _ (by omega)).trans h.c4,
    (h.rows 3 (by omega) _).1, (h.rows 3 (by omega) _).2, (cell_oth w D _ _ _ (by omega)).trans h.c8, h.nb, h.nd⟩
theorem DI.parent (h : DI w lo D k p x) (n : Int) : DI (w.setCell ⟨D, 1 + k * 9 + 4, none⟩ (.int .i64 n)) lo D k p { x with parent := n } :=
  ⟨(cell_oth w D _ _ _ (by omega)).trans h.c0, (cell_oth w D _ _ _ (by omega)).trans h.c1, (cell_oth w D _ _ _ (by omega)).trans h.c2, (cell_oth w D _ _ _ (by omega)).trans h.c3, World.cell?_setCell_same' _ _ _ (by rw [h.c4]; rfl),
    (h.rows 4 (by omega) _).1, (h.rows 4 (by omega) _).2, (cell_oth w D _ _ _ (by omega)).trans h.c8, h.nb, h.nd⟩
end
end Go.Proofs.YtlelnpckbcpkkaaGreat.cb
