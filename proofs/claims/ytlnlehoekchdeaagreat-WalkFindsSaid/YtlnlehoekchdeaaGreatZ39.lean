/- The document's own branch in memory: one block with the store's pointer and the inodes, nine cells each; the rows of bodies and directories behind it. The document's own branch: New, and what is only asked. The document's own branch: what is only asked of it. -/
import Derived.Test.YtlnlehoekchdeaaGreatZ27
import Derived.Test.YtlnlehoekchdeaaGreatZ35
import Derived.Test.YtlnlehoekchdeaaGreatZ38
section
namespace Go.Proofs.YtlnlehoekchdeaaGreat.cb
open Go.RowKit
open Go.Proofs.YtlnlehoekchdeaaGreat.br
open Go.Proofs.YtlnlehoekchdeaaGreat.dn (En lget lset ldel nerr dotB Sorted getV DuX LaidX)
open Go.Proofs.YtlnlehoekchdeaaGreat.bl (AB Only StoC Pq cut cutR wr WR U8 RF)
open Go.Proofs.YtlnlehoekchdeaaGreat.bl.rx (RB RS2 Kp)
set_option linter.unusedVariables false
set_option linter.unusedSimpArgs false

/-- Where an inode's rows lie. -/
structure Pd where
  vB : Value
  vT : Value
  T : Nat
  o : Option Nat
  c : Nat
def pd0 : Pd := ⟨.slice none 0 0, .slice none 0 0, 0, none, 0⟩
def Own (p : Pd) (b : Nat) : Prop := p.vB.ownBlock = some b ∨ p.vT.ownBlock = some b ∨ p.o = some b
instance (p : Pd) (b : Nat) : Decidable (Own p b) := by unfold Own; infer_instance
theorem own0 (b : Nat) : ¬ Own pd0 b := by rintro (h | h | h) <;> cases h
/-- An inode of the document's. -/
structure DI (w : World) (lo D k : Nat) (p : Pd) (x : Ino) : Prop where
  c0 : w.cell? ⟨D, 1 + k * 9, none⟩ = some (.int .i64 x.kind)
  c1 : w.cell? ⟨D, 1 + k * 9 + 1, none⟩ = some (.int .i64 x.links)
  c2 : w.cell? ⟨D, 1 + k * 9 + 2, none⟩ = some (.int .i64 x.holds)
  c3 : w.cell? ⟨D, 1 + k * 9 + 3, none⟩ = some (.int .i64 x.marks)
  c4 : w.cell? ⟨D, 1 + k * 9 + 4, none⟩ = some (.int .i64 x.parent)
  b : RB w lo D (1 + k * 9 + 5) p.vB p.vT x.body p.T
  d : DuX w D (1 + k * 9 + 7) lo p.o p.c x.dir
  c8 : w.cell? ⟨D, 1 + k * 9 + 8, none⟩ = some (.string x.target)
  nb : x.kind ≠ 1 → p.vB = .slice none 0 0 ∧ p.vT = .slice none 0 0 ∧ p.T = 0
  nd : x.kind ≠ 2 → p.o = none ∧ p.c = 0
theorem own_keep {w w' : World} {lo e n : Nat} {v : Value} {L : List Value} (h : w.ownsRow lo e 1 v n L) (hv : ∀ g, v.ownBlock = some g → w'.heap[g]? = w.heap[g]?) : w'.ownsRow lo e 1 v n L := by
  refine ⟨h.1, ?_⟩
  rcases h.2 with h1 | ⟨g, cap, cur, h1, h2, h3, h4⟩
  · exact .inl h1
  · exact .inr ⟨g, cap, cur, h1, h2, (hv g (by rw [h1]; rfl)).trans h3, h4⟩
theorem rb_keep {w w' : World} {lo C x0 T : Nat} {vB vT : Value} {b : AB} (h : RB w lo C x0 vB vT b T) (h0 : w'.cell? ⟨C, x0, none⟩ = w.cell? ⟨C, x0, none⟩) (h1 : w'.cell? ⟨C, x0 + 1, none⟩ = w.cell? ⟨C, x0 + 1, none⟩) (hf : ∀ j, w'.frozen? ⟨C, j, none⟩ = w.frozen? ⟨C, j, none⟩)
    (hB : ∀ g, vB.ownBlock = some g → w'.heap[g]? = w.heap[g]?) (hT : ∀ g, vT.ownBlock = some g → w'.heap[g]? = w.heap[g]?) : RB w' lo C x0 vB vT b T :=
  ⟨h0.trans h.c0, h1.trans h.c1, (hf _).trans h.f0, (hf _).trans h.f1, own_keep h.rB hB, own_keep h.rT hT, h.tT, h.le, h.nB, h.nT, h.sep⟩
theorem DI.keep {w w' : World} {lo D k : Nat} {p : Pd} {x : Ino} (h : DI w lo D k p x) (hc : ∀ j, j < 9 → w'.cell? ⟨D, 1 + k * 9 + j, none⟩ = w.cell? ⟨D, 1 + k * 9 + j, none⟩) (hf : ∀ j, w'.frozen? ⟨D, j, none⟩ = w.frozen? ⟨D, j, none⟩) (hb : ∀ b, Own p b → w'.heap[b]? = w.heap[b]?) : DI w' lo D k p x :=
  ⟨(hc 0 (by omega)).trans h.c0, (hc 1 (by omega)).trans h.c1, (hc 2 (by omega)).trans h.c2, (hc 3 (by omega)).trans h.c3, (hc 4 (by omega)).trans h.c4,
    rb_keep h.b (hc 5 (by omega)) (hc 6 (by omega)) hf (fun g e => hb g (.inl e)) (fun g e => hb g (.inr (.inl e))), h.d.of_cell (hc 7 (by omega)) (hf _) (fun g e => hb g (.inr (.inr e))), (hc 8 (by omega)).trans h.c8, h.nb, h.nd⟩
/-- A row of an inode lies in the heap, behind lo, and is not the branch's block. -/
theorem DI.own {w : World} {lo D k : Nat} {p : Pd} {x : Ino} (h : DI w lo D k p x) {b : Nat} (hb : Own p b) : lo ≤ b ∧ b < w.heap.size ∧ b ≠ D := by
  rcases hb with e | e | e
  · have := h.b.rB.lt b e
    exact ⟨this.1, this.2, fun e1 => h.b.nB (by rw [e, e1])⟩
  · have := h.b.rT.lt b e
    exact ⟨this.1, this.2, fun e1 => h.b.nT (by rw [e, e1])⟩
  · have := h.d.glt b e
    exact ⟨this.2.1, this.1, fun e1 => this.2.2 e1.symm⟩
structure DB (w : World) (D lo RS : Nat) (pl : Nat → Pd) (tag : Nat → Nat) (S : BS) (room : Nat) : Prop where
  c0 : w.cell? ⟨D, 0, none⟩ = some (Pq RS)
  cf : ∀ j, w.frozen? ⟨D, j, none⟩ = false
  sto : StoC w RS room S.used
  ino : ∀ k, k ≤ 200 → DI w lo D k (pl k) (S.ino k)
  tD : tag D = 1
  tS : tag RS = 2
  tI : ∀ k, k ≤ 200 → ∀ b, Own (pl k) b → tag b = 3 + k
  lo : ∀ b, b < lo → tag b = 0
  hi : ∀ b, w.heap.size ≤ b → tag b = 0
section
variable {w w' : World} {D lo RS room : Nat} {pl : Nat → Pd} {tag : Nat → Nat} {S : BS}
theorem DB.lt (h : DB w D lo RS pl tag S room) {b : Nat} (hb : tag b ≠ 0) : b < w.heap.size ∧ lo ≤ b := by
  refine ⟨?_, ?_⟩
  · rcases Nat.lt_or_ge b w.heap.size with h1 | h1
    · exact h1
    · exact absurd (h.hi b h1) hb
  · rcases Nat.lt_or_ge b lo with h1 | h1
    · exact absurd (h.lo b h1) hb
    · exact h1
theorem DB.keepAll (h : DB w D lo RS pl tag S room) (hz : w.heap.size ≤ w'.heap.size) (ho : ∀ b, tag b ≠ 0 → w'.heap[b]? = w.heap[b]?) : DB w' D lo RS pl tag S room := by
  have hD := ho D (by rw [h.tD]; decide)
  have hc : ∀ j, w'.cell? ⟨D, j, none⟩ = w.cell? ⟨D, j, none⟩ := fun j => World.cell?_of_block (a := ⟨D, j, none⟩) hD
  have hf : ∀ j, w'.frozen? ⟨D, j, none⟩ = w.frozen? ⟨D, j, none⟩ := fun j => World.frozen?_of_block (a := ⟨D, j, none⟩) hD
  exact ⟨(hc 0).trans h.c0, fun j => (hf j).trans (h.cf j), StoC.keep h.sto (ho RS (by rw [h.tS]; decide)), fun k hk => (h.ino k hk).keep (fun j _ => hc _) hf (fun b hb => ho b (by rw [h.tI k hk b hb]; omega)), h.tD, h.tS, h.tI, h.lo, fun b hb => h.hi b (Nat.le_trans hz hb)⟩
theorem DB.below (h : DB w D lo RS pl tag S room) (hb : Below w.heap.size w w') : DB w' D lo RS pl tag S room :=
  h.keepAll hb.size (fun b ht => hb.block b (h.lt ht).1)
/-- One inode, its rows and the store are turned. -/
theorem DB.turn (h : DB w D lo RS pl tag S room) {k : Nat} (hk : k ≤ 200) {p' : Pd} {x : Ino} {u : Nat} {F : Nat → Prop} (ho : Only F w w') (hF : ∀ b, F b → b = D ∨ b = RS ∨ Own (pl k) b)
    (hc : ∀ j, j < 1 + k * 9 ∨ 1 + k * 9 + 9 ≤ j → w'.cell? ⟨D, j, none⟩ = w.cell? ⟨D, j, none⟩) (hf : ∀ j, w'.frozen? ⟨D, j, none⟩ = w.frozen? ⟨D, j, none⟩)
    (hx : DI w' lo D k p' x) (hp : ∀ b, Own p' b → Own (pl k) b ∨ w.heap.size ≤ b) (hs : StoC w' RS room u) :
    ∃ pl' tag', DB w' D lo RS pl' tag' ⟨br.upd S.ino k x, u⟩ room ∧ Stp w w' tag tag' := by
  have hT : ∀ b, b < w.heap.size → (if Own p' b then 3 + k else tag b) = tag b := fun b hb => by
    split
    · rename_i h1
      rcases hp b h1 with h2 | h2
      · exact (h.tI k hk b h2).symm
      · omega
    · rfl
  have oth : ∀ b, tag b ≠ 0 → tag b ≠ 1 → tag b ≠ 2 → tag b ≠ 3 + k → w'.heap[b]? = w.heap[b]? := fun b h0 h1 h2 h3 =>
    ho.block b (h.lt h0).1 (fun hf => by
      rcases hF b hf with e | e | e
      · subst e; exact h1 h.tD
      · subst e; exact h2 h.tS
      · exact h3 (h.tI k hk b e))
  refine ⟨fun j => if j = k then p' else pl j, fun b => if Own p' b then 3 + k else tag b, ⟨(hc 0 (by omega)).trans h.c0, fun j => (hf j).trans (h.cf j), hs, fun j hj => ?_, ?_, ?_, fun j hj b hb => ?_, fun b hb => ?_, fun b hb => ?_⟩, hT, ?_⟩
  · dsimp only
    by_cases e : j = k
    · subst e; rw [if_pos rfl, upd_same]; exact hx
    · rw [if_neg e, upd_other _ _ e]
      exact (h.ino j hj).keep (fun i hi => hc _ (by omega)) hf (fun b hb => oth b (by rw [h.tI j hj b hb]; omega) (by rw [h.tI j hj b hb]; omega) (by rw [h.tI j hj b hb]; omega) (by rw [h.tI j hj b hb]; omega))
  · exact (hT D (h.lt (by rw [h.tD]; decide)).1).trans h.tD
  · exact (hT RS (h.lt (by rw [h.tS]; decide)).1).trans h.tS
  · by_cases e : j = k
    · subst e; rw [if_pos rfl] at hb; rw [if_pos hb]
    · rw [if_neg e] at hb
      have h1 := h.tI j hj b hb
      rw [hT b (h.lt (by rw [h1]; omega)).1]; exact h1
  · by_cases e : Own p' b
    · have := hx.own e; omega
    · rw [if_neg e]; exact h.lo b hb
  · by_cases e : Own p' b
    · have := hx.own e; omega
    · rw [if_neg e]; exact h.hi b (Nat.le_trans ho.size hb)
  · refine ho.mono fun b hb => ?_
    rcases hF b hb with e | e | e
    · subst e; rw [h.tD]; decide
    · subst e; rw [h.tS]; decide
    · rw [h.tI k hk b e]; omega
/-- One cell of the branch's block is set. -/
theorem only_set (w : World) (D j : Nat) (v : Value) : Only (fun b => b = D) w (w.setCell ⟨D, j, none⟩ v) := ⟨rfl, rfl, rfl, by simp [World.setCell], fun k hk hF => Below.heap_setCell _ _ _ _ hF⟩
theorem cell_oth (w : World) (D j i : Nat) (v : Value) (h : i ≠ j) : (w.setCell ⟨D, j, none⟩ v).cell? ⟨D, i, none⟩ = w.cell? ⟨D, i, none⟩ := World.cell?_setCell_other _ _ _ _ (by intro e; injection e with _ e; exact h e.symm)
theorem DB.set (h : DB w D lo RS pl tag S room) {k : Nat} (hk : k ≤ 200) (j : Nat) (hj : j ≤ 4) (v : Value) {x : Ino} (hx : DI (w.setCell ⟨D, 1 + k * 9 + j, none⟩ v) lo D k (pl k) x) :
    ∃ pl' tag', DB (w.setCell ⟨D, 1 + k * 9 + j, none⟩ v) D lo RS pl' tag' ⟨br.upd S.ino k x, S.used⟩ room ∧ Stp w (w.setCell ⟨D, 1 + k * 9 + j, none⟩ v) tag tag' :=
  h.turn hk (only_set w D _ v) (fun b hb => .inl hb) (fun i hi => cell_oth w D _ i v (by omega)) (fun i => World.frozen?_setCell _ _ _ _) hx (fun b hb => .inl hb)
    (StoC.keep h.sto (Below.heap_setCell _ _ _ _ (fun e => by
      have h1 := h.tS
      have : RS = D := e
      rw [this, h.tD] at h1
      cases h1)))
end
section
variable {w : World} {D lo k : Nat} {p : Pd} {x : Ino}
theorem DI.rows (h : DI w lo D k p x) (j : Nat) (hj : j ≤ 4) (v : Value) : RB (w.setCell ⟨D, 1 + k * 9 + j, none⟩ v) lo D (1 + k * 9 + 5) p.vB p.vT x.body p.T ∧ DuX (w.setCell ⟨D, 1 + k * 9 + j, none⟩ v) D (1 + k * 9 + 7) lo p.o p.c x.dir := by
  have hb : ∀ b, Own p b → (w.setCell ⟨D, 1 + k * 9 + j, none⟩ v).heap[b]? = w.heap[b]? := fun b hb => Below.heap_setCell _ _ _ _ (h.own hb).2.2
  exact ⟨rb_keep h.b (cell_oth w D _ _ v (by omega)) (cell_oth w D _ _ v (by omega)) (fun i => World.frozen?_setCell _ _ _ _) (fun g e => hb g (.inl e)) (fun g e => hb g (.inr (.inl e))),
    h.d.of_cell (cell_oth w D _ _ v (by omega)) (World.frozen?_setCell _ _ _ _) (fun g e => hb g (.inr (.inr e)))⟩
theorem DI.links (h : DI w lo D k p x) (n : Int) : DI (w.setCell ⟨D, 1 + k * 9 + 1, none⟩ (.int .i64 n)) lo D k p { x with links := n } :=
  ⟨(cell_oth w D _ _ _ (by omega)).trans h.c0, World.cell?_setCell_same' _ _ _ (by rw [h.c1]; rfl), (cell_oth w D _ _ _ (by omega)).trans h.c2, (cell_oth w D _ _ _ (by omega)).trans h.c3, (cell_oth w D _ _ _ (by omega)).trans h.c4,
    (h.rows 1 (by omega) _).1, (h.rows 1 (by omega) _).2, (cell_oth w D _ _ _ (by omega)).trans h.c8, h.nb, h.nd⟩
theorem DI.holds (h : DI w lo D k p x) (n : Int) : DI (w.setCell ⟨D, 1 + k * 9 + 2, none⟩ (.int .i64 n)) lo D k p { x with holds := n } :=
  ⟨(cell_oth w D _ _ _ (by omega)).trans h.c0, (cell_oth w D _ _ _ (by omega)).trans h.c1, World.cell?_setCell_same' _ _ _ (by rw [h.c2]; rfl), (cell_oth w D _ _ _ (by omega)).trans h.c3, (cell_oth w D _ _ _ (by omega)).trans h.c4,
    (h.rows 2 (by omega) _).1, (h.rows 2 (by omega) _).2, (cell_oth w D _ _ _ (by omega)).trans h.c8, h.nb, h.nd⟩
theorem DI.marks (h : DI w lo D k p x) (n : Int) : DI (w.setCell ⟨D, 1 + k * 9 + 3, none⟩ (.int .i64 n)) lo D k p { x with marks := n } :=
  ⟨(cell_oth w D _ _ _ (by omega)).trans h.c0, (cell_oth w D _ _ _ (by omega)).trans h.c1, (cell_oth w D _ _ _ (by omega)).trans h.c2, World.cell?_setCell_same' _ _ _ (by rw [h.c3]; rfl), (cell_oth w D _ _ _ (by omega)).trans h.c4,
    (h.rows 3 (by omega) _).1, (h.rows 3 (by omega) _).2, (cell_oth w D _ _ _ (by omega)).trans h.c8, h.nb, h.nd⟩
theorem DI.parent (h : DI w lo D k p x) (n : Int) : DI (w.setCell ⟨D, 1 + k * 9 + 4, none⟩ (.int .i64 n)) lo D k p { x with parent := n } :=
  ⟨(cell_oth w D _ _ _ (by omega)).trans h.c0, (cell_oth w D _ _ _ (by omega)).trans h.c1, (cell_oth w D _ _ _ (by omega)).trans h.c2, (cell_oth w D _ _ _ (by omega)).trans h.c3, World.cell?_setCell_same' _ _ _ (by rw [h.c4]; rfl),
    (h.rows 4 (by omega) _).1, (h.rows 4 (by omega) _).2, (cell_oth w D _ _ _ (by omega)).trans h.c8, h.nb, h.nd⟩
end
end Go.Proofs.YtlnlehoekchdeaaGreat.cb
end
section
namespace Go.Proofs.YtlnlehoekchdeaaGreat.cb
open Go.RowKit
open Go.Proofs.YtlnlehoekchdeaaGreat.br
open Go.Proofs.YtlnlehoekchdeaaGreat.dn (En lget lset ldel nerr dotB Sorted getV DuX LaidX)
open Go.Proofs.YtlnlehoekchdeaaGreat.bl (AB Only StoC Pq cut cutR wr WR U8 RF)
open Go.Proofs.YtlnlehoekchdeaaGreat.bl.rx (RB RS2 Kp)
set_option linter.unusedVariables false
set_option linter.unusedSimpArgs false

set_option maxRecDepth 100000 in
theorem rstore_yes (room : Nat) (w : World) (hr : room ≤ 65536) : Calls Tryz.prog 52 #[.int .i64 (room : Int)] w (fun e w' => e = .returned (Pq w.heap.size) ∧ w' = w.alloc (.cells #[.int .i64 (room : Int), .int .i64 0] 145)) := by
  have h1 : ¬ ((65536 : Int) < (room : Int)) := by omega
  have h0 : ¬ ((room : Int) < 0) := by omega
  go_enter Tryz.func52, Tryz.ntmps52
  go_wp2
  go_ret
  exact ⟨rfl, rfl⟩
set_option maxRecDepth 100000 in
theorem rstore_no (room : Int) (w : World) (hr : room < 0 ∨ 65536 < room) : Calls Tryz.prog 52 #[.int .i64 room] w (fun e w' => e = .returned (.pointer none) ∧ w = w') := by
  by_cases h : room < 0
  · go_enter Tryz.func52, Tryz.ntmps52
    go_wp2
    go_ret
    exact ⟨rfl, rfl⟩
  · have h1 : 65536 < room := by omega
    go_enter Tryz.func52, Tryz.ntmps52
    go_wp2
    go_ret
    exact ⟨rfl, rfl⟩
set_option maxRecDepth 100000 in
theorem rb_new_no (room : Int) (w : World) (hr : room < 0 ∨ 65536 < room) : Calls Tryz.prog 21 #[.int .i64 room] w (fun e w' => e = .returned (.pointer none) ∧ w = w') := by
  have HN := Lib.hid (rstore_no room w hr)
  clear hr
  go_enter Tryz.func21, Tryz.ntmps21
  go_wp2_with fail
  refine HN.out.mono ?_
  rintro e w2 ⟨rfl, rfl⟩
  go_wp2_with fail
  go_ret
  exact ⟨rfl, rfl⟩
def ino9 : List Value := [.int .i64 0, .int .i64 0, .int .i64 0, .int .i64 0, .int .i64 0, .slice none 0 0, .slice none 0 0, .slice none 0 0, .string ⟨#[]⟩]
set_option maxRecDepth 100000 in
theorem zero51 : Tryz.zeroCells104 = (.pointer none :: (List.replicate 201 ino9).flatten).toArray := by kernel_rfl
theorem flat_get {α : Type} (l : List α) (hl : l.length = 9) (n k i : Nat) (hk : k < n) (hi : i < 9) : (List.replicate n l).flatten[k * 9 + i]? = l[i]? := by
  induction n generalizing k with
  | zero => omega
  | succ n ih =>
    rw [List.replicate_succ, List.flatten_cons]
    cases k with
    | zero => rw [List.getElem?_append_left (by omega)]; congr 1; omega
    | succ k =>
      rw [List.getElem?_append_right (by omega), ← ih k (by omega)]
      congr 1
      omega
theorem flat_len {α : Type} (l : List α) (n : Nat) : (List.replicate n l).flatten.length = n * l.length := by
  induction n with
  | zero => simp
  | succ n ih => rw [List.replicate_succ, List.flatten_cons, List.length_append, ih, Nat.succ_mul]; omega
theorem zero51_at (k i : Nat) (hk : k ≤ 200) (hi : i < 9) : Tryz.zeroCells104[1 + k * 9 + i]? = ino9[i]? := by
  rw [zero51, List.getElem?_toArray, show 1 + k * 9 + i = (k * 9 + i) + 1 by omega, List.getElem?_cons_succ]
  exact flat_get ino9 rfl 201 k i (by omega) hi
theorem zero51_size : Tryz.zeroCells104.size = 1810 := by
  rw [zero51, List.size_toArray, List.length_cons, flat_len]
  rfl
/-- An inode whose nine cells are laid, without rows. -/
theorem DI.blank {w : World} {lo D k : Nat} {a0 a1 a2 a3 a4 : Int} {t : ByteArray} (c0 : w.cell? ⟨D, 1 + k * 9, none⟩ = some (.int .i64 a0)) (c1 : w.cell? ⟨D, 1 + k * 9 + 1, none⟩ = some (.int .i64 a1)) (c2 : w.cell? ⟨D, 1 + k * 9 + 2, none⟩ = some (.int .i64 a2)) (c3 : w.cell? ⟨D, 1 + k * 9 + 3, none⟩ = some (.int .i64 a3)) (c4 : w.cell? ⟨D, 1 + k * 9 + 4, none⟩ = some (.int .i64 a4))
    (c5 : w.cell? ⟨D, 1 + k * 9 + 5, none⟩ = some (.slice none 0 0)) (c6 : w.cell? ⟨D, 1 + k * 9 + 6, none⟩ = some (.slice none 0 0)) (c7 : w.cell? ⟨D, 1 + k * 9 + 7, none⟩ = some (.slice none 0 0)) (c8 : w.cell? ⟨D, 1 + k * 9 + 8, none⟩ = some (.string t)) (hf : ∀ j, w.frozen? ⟨D, j, none⟩ = false) :
    DI w lo D k pd0 ⟨a0, a1, a2, a3, a4, abE, [], t⟩ :=
  ⟨c0, c1, c2, c3, c4, ⟨c5, c6, hf _, hf _, World.ownsRow_nil _ _ _ _, World.ownsRow_nil _ _ _ _, (fun k h => by cases h), Nat.zero_le _, (fun h => by cases h), (fun h => by cases h), (fun g h => by cases h)⟩, ⟨c7, hf _, rfl, rfl⟩, c8, fun _ => ⟨rfl, rfl, rfl⟩, fun _ => ⟨rfl, rfl⟩⟩
noncomputable def boxD (st : Value) : Array Value := (((((((((Tryz.zeroCells104.setIfInBounds 0 st).setIfInBounds 10 (.int .i64 2)).setIfInBounds 11 (.int .i64 1)).setIfInBounds 12 (.int .i64 0)).setIfInBounds 13 (.int .i64 0)).setIfInBounds 14 (.int .i64 1)).setIfInBounds 15 (.slice none 0 0)).setIfInBounds 16 (.slice none 0 0)).setIfInBounds 17 (.slice none 0 0)).setIfInBounds 18 (.string ⟨#[]⟩)
theorem boxD_zero (st : Value) : (boxD st)[0]? = some st := by
  have hz := zero51_size
  unfold boxD
  generalize Tryz.zeroCells104 = Z at *
  simp [Array.getElem?_setIfInBounds, hz]
theorem boxD_root (st : Value) (i : Nat) (hi : i < 9) : (boxD st)[1 + 1 * 9 + i]? = some (match i with | 0 => .int .i64 2 | 1 => .int .i64 1 | 2 => .int .i64 0 | 3 => .int .i64 0 | 4 => .int .i64 1 | 8 => .string ⟨#[]⟩ | _ => .slice none 0 0) := by
  have hz := zero51_size
  unfold boxD
  generalize Tryz.zeroCells104 = Z at *
  match i, hi with
  | 0, _ => simp [Array.getElem?_setIfInBounds, hz]
  | 1, _ => simp [Array.getElem?_setIfInBounds, hz]
  | 2, _ => simp [Array.getElem?_setIfInBounds, hz]
  | 3, _ => simp [Array.getElem?_setIfInBounds, hz]
  | 4, _ => simp [Array.getElem?_setIfInBounds, hz]
  | 5, _ => simp [Array.getElem?_setIfInBounds, hz]
  | 6, _ => simp [Array.getElem?_setIfInBounds, hz]
  | 7, _ => simp [Array.getElem?_setIfInBounds, hz]
  | 8, _ => simp [Array.getElem?_setIfInBounds, hz]
theorem boxD_else (st : Value) (k i : Nat) (hk : k ≤ 200) (h1 : k ≠ 1) (hi : i < 9) : (boxD st)[1 + k * 9 + i]? = ino9[i]? := by
  rw [← zero51_at k i hk hi]
  have hz := zero51_size
  unfold boxD
  generalize Tryz.zeroCells104 = Z at *
  have a0 : ¬ (0 = 1 + k * 9 + i) := by omega
  have a1 : ¬ (10 = 1 + k * 9 + i) := by omega
  have a2 : ¬ (11 = 1 + k * 9 + i) := by omega
  have a3 : ¬ (12 = 1 + k * 9 + i) := by omega
  have a4 : ¬ (13 = 1 + k * 9 + i) := by omega
  have a5 : ¬ (14 = 1 + k * 9 + i) := by omega
  have a6 : ¬ (15 = 1 + k * 9 + i) := by omega
  have a7 : ¬ (16 = 1 + k * 9 + i) := by omega
  have a8 : ¬ (17 = 1 + k * 9 + i) := by omega
  have a9 : ¬ (18 = 1 + k * 9 + i) := by omega
  simp only [Array.getElem?_setIfInBounds, Array.size_setIfInBounds, hz, a0, a1, a2, a3, a4, a5, a6, a7, a8, a9, if_false]
theorem DB.start {w : World} {room lo : Nat} (hlo : lo ≤ w.heap.size) {w1 w2 : World} (h1 : w1 = w.alloc (.cells #[.int .i64 (room : Int), .int .i64 0] 145)) (h2 : w2 = w1.alloc (.cells (boxD (Pq w.heap.size)) 104)) :
    DB w2 (w.heap.size + 1) lo w.heap.size (fun _ => pd0) (fun b => if b = w.heap.size + 1 then 1 else if b = w.heap.size then 2 else 0) fresh room ∧ Below w.heap.size w w2 := by
  have z1 : w1.heap.size = w.heap.size + 1 := by rw [h1]; exact World.size_alloc _ _
  have z2 : w2.heap.size = w.heap.size + 2 := by rw [h2, World.size_alloc, z1]
  have b1 : Below w.heap.size w w1 := by rw [h1]; exact dn.below_alloc _ _
  have b2 : Below w1.heap.size w1 w2 := by rw [h2]; exact dn.below_alloc _ _
  have hc : ∀ j, w2.cell? ⟨w.heap.size + 1, j, none⟩ = (boxD (Pq w.heap.size))[j]? := fun j => by
    rw [h2, ← z1]
    generalize boxD (Pq w.heap.size) = Z
    simp
  have hf : ∀ j, w2.frozen? ⟨w.heap.size + 1, j, none⟩ = false := fun j => by
    rw [h2, ← z1]
    generalize boxD (Pq w.heap.size) = Z
    simp
  have hs : StoC w1 w.heap.size room 0 := by
    rw [h1]
    exact ⟨by simp, by simp, by simp⟩
  refine ⟨⟨(hc 0).trans (boxD_zero _), hf, StoC.keep hs (b2.block _ (by omega)), fun k hk => ?_, if_pos rfl, ?_, fun k _ b hb => absurd hb (own0 b), fun b hb => ?_, fun b hb => ?_⟩, b1.trans (b2.mono (by omega))⟩
  · rw [fresh_ino]
    by_cases e : k = 1
    · subst e
      rw [if_pos rfl]
      exact DI.blank ((hc _).trans (boxD_root _ 0 (by omega))) ((hc _).trans (boxD_root _ 1 (by omega))) ((hc _).trans (boxD_root _ 2 (by omega))) ((hc _).trans (boxD_root _ 3 (by omega))) ((hc _).trans (boxD_root _ 4 (by omega))) ((hc _).trans (boxD_root _ 5 (by omega))) ((hc _).trans (boxD_root _ 6 (by omega))) ((hc _).trans (boxD_root _ 7 (by omega))) ((hc _).trans (boxD_root _ 8 (by omega))) hf
    · rw [if_neg e]
      exact DI.blank ((hc _).trans (boxD_else _ k 0 hk e (by omega))) ((hc _).trans (boxD_else _ k 1 hk e (by omega))) ((hc _).trans (boxD_else _ k 2 hk e (by omega))) ((hc _).trans (boxD_else _ k 3 hk e (by omega))) ((hc _).trans (boxD_else _ k 4 hk e (by omega))) ((hc _).trans (boxD_else _ k 5 hk e (by omega))) ((hc _).trans (boxD_else _ k 6 hk e (by omega))) ((hc _).trans (boxD_else _ k 7 hk e (by omega))) ((hc _).trans (boxD_else _ k 8 hk e (by omega))) hf
  · show (if w.heap.size = w.heap.size + 1 then 1 else if w.heap.size = w.heap.size then 2 else 0) = 2
    rw [if_neg (by omega), if_pos rfl]
  · show (if b = w.heap.size + 1 then 1 else if b = w.heap.size then 2 else 0) = 0
    rw [if_neg (by omega), if_neg (by omega)]
  · show (if b = w.heap.size + 1 then 1 else if b = w.heap.size then 2 else 0) = 0
    rw [if_neg (by omega), if_neg (by omega)]
set_option maxRecDepth 100000 in
set_option maxHeartbeats 1000000 in
theorem rb_new (room lo : Nat) (w : World) (hr : room ≤ 65536) (hlo : lo ≤ w.heap.size) : Calls Tryz.prog 21 #[.int .i64 (room : Int)] w (fun e w' => ∃ D RS pl tag, e = .returned (Pq D) ∧ DB w' D lo RS pl tag fresh room ∧ Below w.heap.size w w' ∧ ∀ b, tag b ≠ 0 → w.heap.size ≤ b) := by
  have HS := Lib.hid (rstore_yes room w hr)
  have HD := Lib.hid (fun w2 (h2 : w2 = (w.alloc (.cells #[.int .i64 (room : Int), .int .i64 0] 145)).alloc (.cells (boxD (Pq w.heap.size)) 104)) => DB.start (room := room) hlo rfl h2)
  unfold boxD at HD
  go_enter Tryz.func21, Tryz.ntmps21
  go_wp2_with fail
  refine HS.out.mono ?_
  rintro e w2 ⟨rfl, rfl⟩
  go_wp2_with fail
  go_ret
  obtain ⟨h1, h2⟩ := HD.out _ rfl
  exact ⟨_, _, _, _, rfl, h1, h2, fun b hb => by
    rcases Nat.lt_or_ge b w.heap.size with h3 | h3
    · rw [if_neg (by omega), if_neg (by omega)] at hb; exact absurd rfl hb
    · exact h3⟩
end Go.Proofs.YtlnlehoekchdeaaGreat.cb
end
section
namespace Go.Proofs.YtlnlehoekchdeaaGreat.cb
open Go.RowKit
open Go.Proofs.YtlnlehoekchdeaaGreat.br
open Go.Proofs.YtlnlehoekchdeaaGreat.dn (En lget lset ldel nerr dotB Sorted getV DuX LaidX)
open Go.Proofs.YtlnlehoekchdeaaGreat.bl (AB Only StoC Pq cut cutR wr WR U8 RF)
open Go.Proofs.YtlnlehoekchdeaaGreat.bl.rx (RB RS2 Kp)
set_option linter.unusedVariables false
set_option linter.unusedSimpArgs false

def RetQ (w : World) (v : Value) (e : Ending) (w' : World) : Prop := e = .returned v ∧ w' = w
section
variable {w w' : World} {D lo RS room : Nat} {pl : Nat → Pd} {tag : Nat → Nat} {S : BS}
set_option maxRecDepth 100000 in
set_option maxHeartbeats 1000000 in
theorem q_is (h : DB w D lo RS pl tag S room) (i : Int) : Calls Tryz.prog 56 #[Pq D, .int .i64 i] w (RetQ w (.bool (S.isI i))) := by
  unfold RetQ
  by_cases h1 : 1 ≤ i
  · by_cases h2 : i ≤ 200
    · obtain ⟨I, rfl⟩ : ∃ I : Nat, i = (I : Int) := ⟨i.toNat, by omega⟩
      have c0 := (h.ino I (by omega)).c0
      have hv : S.isI (I : Int) = ((S.ino I).kind != 0) := by
        unfold BS.isI
        rw [at_nat]
        by_cases e : (S.ino I).kind = 0
        · rw [e]; simp
        · simp [h1, h2, e]
      rw [hv]
      generalize (S.ino I).kind = kk at *
      clear h hv
      go_enter Tryz.func56, Tryz.ntmps56
      go_wp2_with fail
      go_ret
      exact ⟨rfl, rfl⟩
    · have hv : S.isI i = false := by unfold BS.isI; simp; omega
      rw [hv]
      clear h hv
      go_enter Tryz.func56, Tryz.ntmps56
      go_wp2_with fail
      go_ret
      exact ⟨rfl, rfl⟩
  · have hv : S.isI i = false := by unfold BS.isI; simp; omega
    rw [hv]
    clear h hv
    go_enter Tryz.func56, Tryz.ntmps56
    go_wp2_with fail
    go_ret
    exact ⟨rfl, rfl⟩
set_option maxRecDepth 100000 in
set_option maxHeartbeats 1000000 in
theorem q_dir (h : DB w D lo RS pl tag S room) (d : Int) (c : Bool) : Calls Tryz.prog 59 #[Pq D, .int .i64 d, .bool c] w (RetQ w (.int .i64 (S.dirE d c))) := by
  have HI := Lib.hid (q_is h d)
  unfold RetQ at HI ⊢
  rcases dirE_cases S d with ⟨h1, h2⟩ | ⟨I, rfl, d1, d2, h1, h3, ⟨h4, h5⟩ | ⟨h4, h5, h6⟩⟩
  · rw [h1] at HI
    rw [h2]
    clear h h1 h2
    go_enter Tryz.func59, Tryz.ntmps59
    go_wp2_with fail
    refine HI.out.mono ?_
    rintro e w2 ⟨rfl, rfl⟩
    go_wp2_with fail
    go_ret
    exact ⟨rfl, rfl⟩
  · rw [h1] at HI
    rw [h5]
    have c0 := (h.ino I d2).c0
    generalize (S.ino I).kind = kk at *
    have hk : (kk != 2) = true := by simpa using h4
    clear h h1 h4 h5
    go_enter Tryz.func59, Tryz.ntmps59
    go_wp2_with fail
    refine HI.out.mono ?_
    rintro e w2 ⟨rfl, rfl⟩
    go_wp2_with fail
    go_ret
    exact ⟨rfl, rfl⟩
  · rw [h1] at HI
    have c0 := (h.ino I d2).c0
    have c1 := (h.ino I d2).c1
    rw [h4] at c0
    cases c
    · rw [h5]
      clear h h1 h4 h5 h6 h3
      go_enter Tryz.func59, Tryz.ntmps59
      go_wp2_with fail
      refine HI.out.mono ?_
      rintro e w2 ⟨rfl, rfl⟩
      go_wp2_with fail
      go_ret
      exact ⟨rfl, rfl⟩
    · generalize (S.ino I).links = ll at *
      rcases h6 with ⟨h6, h7⟩ | ⟨h6, h7⟩
      · rw [h7]
        subst h6
        clear h h1 h4 h5 h7 h3
        go_enter Tryz.func59, Tryz.ntmps59
        go_wp2_with fail
        refine HI.out.mono ?_
        rintro e w2 ⟨rfl, rfl⟩
        go_wp2_with fail
        go_ret
        exact ⟨rfl, rfl⟩
      · rw [h7]
        have hq : (ll == 0) = false := by simpa using h6
        clear h h1 h4 h5 h6 h7 h3
        go_enter Tryz.func59, Tryz.ntmps59
        go_wp2_with fail
        refine HI.out.mono ?_
        rintro e w2 ⟨rfl, rfl⟩
        go_wp2_with fail
        go_ret
        exact ⟨rfl, rfl⟩
set_option maxRecDepth 100000 in
set_option maxHeartbeats 1000000 in
theorem q_set (s : ByteArray) (w : World) (hm : s.size ≤ 9223372036854775807) : Calls Tryz.prog 68 #[.string s] w (RetI w (nameE s)) := by
  have HN := Lib.hid (dn.rname_any s w hm)
  unfold dn.NameE at HN
  unfold RetI
  by_cases he : nerr s.data.toList = 0
  · rw [he] at HN
    obtain ⟨q1, h1⟩ : ∃ a, (s.toList == [46]) = a := ⟨_, rfl⟩
    obtain ⟨q2, h2⟩ : ∃ a, (s.toList == [46, 46]) = a := ⟨_, rfl⟩
    have hV := Lib.hid (show nameE s = if (q1 || q2) = true then 22 else 0 by unfold nameE dotB; rw [h1, h2, he]; simp)
    generalize nameE s = r at *
    clear he
    rcases (show q1 = true ∨ (q1 = false ∧ q2 = true) ∨ (q1 = false ∧ q2 = false) by cases q1 <;> cases q2 <;> simp) with rfl | ⟨rfl, rfl⟩ | ⟨rfl, rfl⟩
    all_goals
      go_enter Tryz.func68, Tryz.ntmps68
      go_wp2_with fail
      refine HN.out.mono ?_
      rintro e w2 ⟨rfl, hb2⟩
      go_wp2_with fail
      go_ret
      exact ⟨by rw [hV.out]; rfl, hb2⟩
  · have hV := Lib.hid (show nameE s = nerr s.data.toList by unfold nameE; rw [if_neg (fun h => he h.1)])
    generalize nameE s = r at *
    generalize nerr s.data.toList = x at *
    have hr : (x == 0) = false := by simpa using he
    clear he
    go_enter Tryz.func68, Tryz.ntmps68
    go_wp2_with fail
    refine HN.out.mono ?_
    rintro e w2 ⟨rfl, hb2⟩
    go_wp2_with fail
    go_ret
    exact ⟨by rw [hV.out]; rfl, hb2⟩
theorem q_dget (h : DB w D lo RS pl tag S room) (hG : br.Good S room) {I : Nat} (hI : I ≤ 200) (s : ByteArray) : Calls Tryz.prog 72 #[dn.Px D (1 + I * 9 + 7), .string s] w (RetQ w (getV s (S.ino I).dir)) :=
  dn.rgetx_any D (1 + I * 9 + 7) lo _ _ _ s w (by have := hG.1.dirLen I; omega) (h.ino I hI).d
set_option maxRecDepth 100000 in
set_option maxHeartbeats 1000000 in
theorem q_get (h : DB w D lo RS pl tag S room) (hG : br.Good S room) (d : Int) (s : ByteArray) : Calls Tryz.prog 35 #[Pq D, .int .i64 d, .string s] w (RetQ w (.tuple #[.int .i64 (S.get d s).1, .int .i64 (S.get d s).2])) := by
  have HI := Lib.hid (q_dir h d false)
  unfold RetQ at HI ⊢
  by_cases h1 : S.dirE d false = 0
  · obtain ⟨I, rfl, d1, d2, hD, _⟩ := dirE_ok h1
    have HG := Lib.hid (q_dget h hG d2 s)
    unfold RetQ at HG
    rw [getV_eq h1] at HG
    rw [h1] at HI
    generalize (S.get (I : Int) s).1 = a at *
    generalize (S.get (I : Int) s).2 = b at *
    clear h h1 hG
    go_enter Tryz.func35, Tryz.ntmps35
    go_wp2_with fail
    refine HI.out.mono ?_
    rintro e w2 ⟨rfl, rfl⟩
    go_wp2_with fail
    refine HG.out.mono ?_
    rintro e w2 ⟨rfl, rfl⟩
    go_wp2_with fail
    go_ret2
    exact ⟨rfl, rfl⟩
  · have hv : S.get d s = (0, S.dirE d false) := by unfold BS.get; rw [if_pos h1]
    rw [hv]
    generalize S.dirE d false = x at *
    have hr : (x != 0) = true := by simpa using h1
    clear h h1 hG hv
    go_enter Tryz.func35, Tryz.ntmps35
    go_wp2_with fail
    refine HI.out.mono ?_
    rintro e w2 ⟨rfl, rfl⟩
    go_wp2_with fail
    go_ret2
    exact ⟨rfl, rfl⟩
set_option maxRecDepth 100000 in
set_option maxHeartbeats 1000000 in
theorem q_vacant (h : DB w D lo RS pl tag S room) (hG : br.Good S room) (d : Int) (s : ByteArray) (hm : s.size ≤ 9223372036854775807) : Calls Tryz.prog 53 #[Pq D, .int .i64 d, .string s] w (RetI w (S.vacant d s)) := by
  have HI := Lib.hid (q_dir h d true)
  unfold RetQ at HI
  unfold RetI
  by_cases h1 : S.dirE d true = 0
  · rw [h1] at HI
    have HN := Lib.hid (q_set s w hm)
    unfold RetI at HN
    by_cases h2 : nameE s = 0
    · rw [h2] at HN
      obtain ⟨I, rfl, d1, d2, hD, _⟩ := dirE_ok h1
      have HG := Lib.hid (fun w2 (hb : Below w.heap.size w w2) => q_dget (h.below hb) hG d2 s)
      unfold RetQ at HG
      cases hg : lget s (S.ino I).dir with
      | none =>
        have hv : S.vacant (I : Int) s = 0 := by unfold BS.vacant; rw [if_neg (by omega), if_neg (by omega), at_nat, hg]; rfl
        rw [hv]
        rw [show getV s (S.ino I).dir = .tuple #[.int .i64 0, .int .i64 2] from by unfold getV; rw [hg]] at HG
        clear h h1 hG hv h2 hg
        go_enter Tryz.func53, Tryz.ntmps53
        go_wp2_with fail
        refine HI.out.mono ?_
        rintro e w2 ⟨rfl, rfl⟩
        go_wp2_with fail
        refine HN.out.mono ?_
        rintro e w3 ⟨rfl, hb3⟩
        have HG3 := Lib.hid (HG.out w3 hb3)
        go_wp2_with fail
        refine HG3.out.mono ?_
        rintro e w4 ⟨rfl, rfl⟩
        go_wp2_with fail
        go_ret
        exact ⟨rfl, hb3⟩
      | some v =>
        have hv : S.vacant (I : Int) s = 17 := by unfold BS.vacant; rw [if_neg (by omega), if_neg (by omega), at_nat, hg]; rfl
        rw [hv]
        rw [show getV s (S.ino I).dir = .tuple #[.int .i64 v, .int .i64 0] from by unfold getV; rw [hg]] at HG
        clear h h1 hG hv h2 hg
        go_enter Tryz.func53, Tryz.ntmps53
        go_wp2_with fail
        refine HI.out.mono ?_
        rintro e w2 ⟨rfl, rfl⟩
        go_wp2_with fail
        refine HN.out.mono ?_
        rintro e w3 ⟨rfl, hb3⟩
        have HG3 := Lib.hid (HG.out w3 hb3)
        go_wp2_with fail
        refine HG3.out.mono ?_
        rintro e w4 ⟨rfl, rfl⟩
        go_wp2_with fail
        go_ret
        exact ⟨rfl, hb3⟩
    · have hv : S.vacant d s = nameE s := by unfold BS.vacant; rw [if_neg (by omega), if_pos h2]
      rw [hv]
      generalize nameE s = x at *
      have hr : (x != 0) = true := by simpa using h2
      clear h h1 hG hv h2
      go_enter Tryz.func53, Tryz.ntmps53
      go_wp2_with fail
      refine HI.out.mono ?_
      rintro e w2 ⟨rfl, rfl⟩
      go_wp2_with fail
      refine HN.out.mono ?_
      rintro e w3 ⟨rfl, hb3⟩
      go_wp2_with fail
      go_ret
      exact ⟨rfl, hb3⟩
  · have hv : S.vacant d s = S.dirE d true := by unfold BS.vacant; rw [if_pos h1]
    rw [hv]
    generalize S.dirE d true = x at *
    have hr : (x != 0) = true := by simpa using h1
    clear h h1 hG hv
    go_enter Tryz.func53, Tryz.ntmps53
    go_wp2_with fail
    refine HI.out.mono ?_
    rintro e w2 ⟨rfl, rfl⟩
    go_wp2_with fail
    go_ret
    exact ⟨rfl, Below.refl _ _⟩
end
end Go.Proofs.YtlnlehoekchdeaaGreat.cb
end
