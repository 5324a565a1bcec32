/- A view's lines, as the document tells them; what a node holds. 'Of': the visitor's memory. A drawn region whose last operation writes what the others read: a condition S on the world serves up to that operation. -/
import Derived.Test.YtnnaoldpacbagaaGreatZ26
import Derived.Test.YtnnaoldpacbagaaGreatZ25
import Derived.Maps.AppendAt
import Derived.Deep.AppendLies
import Derived.Deep.RegionHeld3
import Derived.Deep.RegionHeldLaw
import Derived.Test.YtnnaoldpacbagaaGreatProg
section
namespace Go.Proofs.YtnnaoldpacbagaaGreat.fl
open Go.RowKit
open Go.Proofs.YtnnaoldpacbagaaGreat.dn (En lget lset ldel nerr dotB Sorted lessB)
open Go.Proofs.YtnnaoldpacbagaaGreat.br (BS Ino Inv Good Tree sumF)
open Go.Proofs.YtnnaoldpacbagaaGreat.cb (BrX RetW RetI No)
open Go.Proofs.YtnnaoldpacbagaaGreat.bl (Pq)
open Go.Proofs.YtnnaoldpacbagaaGreat.mg (Nd Nv Vx Nb opq kindV lstV belV seenV pairV getV rootV AllV NR readN targN ReadN bel_step bel_alloc)
set_option linter.unusedVariables false
set_option linter.unusedSimpArgs false

def slB : ByteArray := ⟨#[47]⟩
/-- What a node holds: a file's bytes, a link's target. -/
def contV (U L : BS) (x : Nd) : ByteArray :=
  if kindV U L x = 1 then bl.strF (cb.readI (readN U L x).1 (readN U L x).2 0 65536).2 (fun j => ((readN U L x).1.at (readN U L x).2).body.dat ((0 : Int).toNat + j))
  else if kindV U L x = 3 then (targN U L x).1 else ⟨#[]⟩
section
open Classical
noncomputable def namesV (U L : BS) (n : Nd) : List ByteArray := if h : ∃ l, AllV U L n l then Classical.choose h else []
theorem namesV_eq {U L : BS} {n : Nd} {l : List ByteArray} (h : AllV U L n l) : namesV U L n = l := by
  unfold namesV
  rw [dif_pos ⟨l, h⟩]
  exact (Classical.choose_spec (⟨l, h⟩ : ∃ l, AllV U L n l)).same h
end
noncomputable def linesV (U L : BS) : Nat → Nd → ByteArray → List Ln
  | 0, _, _ => []
  | d + 1, n, at_ => (namesV U L n).flatMap fun s => ⟨at_ ++ slB ++ s, kindV U L (getV U L n s).1, contV U L (getV U L n s).1⟩ :: linesV U L d (getV U L n s).1 (at_ ++ slB ++ s)
/-- The lines of one name and those below it. -/
noncomputable def linesN (U L : BS) (d : Nat) (n : Nd) (at_ s : ByteArray) : List Ln :=
  ⟨at_ ++ slB ++ s, kindV U L (getV U L n s).1, contV U L (getV U L n s).1⟩ :: linesV U L d (getV U L n s).1 (at_ ++ slB ++ s)
theorem linesV_succ {U L : BS} {d : Nat} {n : Nd} {at_ : ByteArray} {l : List ByteArray} (h : AllV U L n l) : linesV U L (d + 1) n at_ = l.flatMap (linesN U L d n at_) := by
  unfold linesV; rw [namesV_eq h]; rfl
theorem linesV_len {U L : BS} {r1 r2 : Nat} (hU : Inv U r1) (hL : Inv L r2) {dU dL : Nat → Nat} (hdU : Deep U dU) (hdL : Deep L dL) (hA : ∀ n, ∃ l, AllV U L n l) : ∀ (d : Nat) (n : Nd) (at_ : ByteArray), (linesV U L d n at_).length ≤ wN U L n
  | 0, n, at_ => Nat.zero_le _
  | d + 1, n, at_ => by
    obtain ⟨l, hl⟩ := hA n
    rw [linesV_succ hl, List.length_flatMap]
    refine Nat.le_trans (sum_le fun s _ => ?_) (wN_sum hU hL hdU hdL n hl)
    show (linesN U L d n at_ s).length ≤ _
    unfold linesN
    rw [List.length_cons]
    have := linesV_len hU hL hdU hdL hA d (getV U L n s).1 (at_ ++ slB ++ s)
    omega
set_option maxRecDepth 100000 in
set_option maxHeartbeats 2000000 in
theorem content_any {w : World} {V P1 P2 : Nat} {u l : Int} {U L : BS} (h : Vx w V P1 P2 u l U L) (n : Nd) : Calls Tryz.prog 96 #[Pq V, Nv n] w (RetW w (.string (contV U L n))) := by
  obtain ⟨n1, n2⟩ := n
  obtain ⟨w1, hw1, h1, hn1, hb1⟩ := mg.box_in h n1 n2
  have HK := Lib.hid (mg.kind_any h1 (n1, n2))
  have HT := Lib.hid (fun W (hb : Below w.heap.size w W) => mg.target_any (h.below hb) (n1, n2))
  have HR := Lib.hid (fun W (hb : Below w.heap.size w W) => mg.read_any (h.below hb) (n1, n2) 0 65536)
  have HV := Lib.hid (show contV U L (n1, n2) = if kindV U L (n1, n2) = 1 then bl.strF (cb.readI (readN U L (n1, n2)).1 (readN U L (n1, n2)).2 0 65536).2 (fun j => ((readN U L (n1, n2)).1.at (readN U L (n1, n2)).2).body.dat ((0 : Int).toNat + j)) else if kindV U L (n1, n2) = 3 then (targN U L (n1, n2)).1 else ⟨#[]⟩ from rfl)
  unfold RetI at HK
  unfold RetW at HT
  unfold ReadN at HR
  generalize contV U L (n1, n2) = cv at *
  obtain ⟨g, hg⟩ : ∃ g, w.heap.size = g := ⟨_, rfl⟩
  have HB := Lib.hid hb1
  rw [hg] at hn1
  have HN := Lib.hid hn1
  have t0 := hn1.c0
  have t1 := hn1.c1
  dsimp only at t0 t1 hw1
  obtain ⟨k, hk⟩ : ∃ k, kindV U L (n1, n2) = k := ⟨_, rfl⟩
  rw [hk] at HK HV HR
  clear h h1 hn1 hb1 hk
  go_enter Tryz.func96, Tryz.ntmps96
  go_wp2_with fail
  refine HK.out.mono ?_
  rintro _ w2 ⟨rfl, hb2⟩
  have HB2 := Lib.hid (bel_step HB.out hb2)
  have HN2 := Lib.hid (HN.out.below hb2)
  clear HK hb2 HB HN t0 t1
  obtain ⟨t0, t1⟩ := HN2.out
  dsimp only at t0 t1
  by_cases e1 : k = 1
  · subst e1
    rw [if_pos rfl] at HV
    have HR2 := Lib.hid (HR.out _ HB2.out)
    clear HR HT
    go_wp2_with fail
    refine HR2.out.mono ?_
    rintro e w3 h3
    rcases h3 with ⟨h0, _⟩ | ⟨_, A, c, rfl, hrow, hb3⟩
    · exact absurd h0 (by decide)
    have hcv := hrow.conv
    have HCV := Lib.hid (HV.out.symm)
    rw [HCV.out] at hcv
    have HB3 := Lib.hid (bel_step HB2.out hb3)
    generalize (cb.readI (readN U L (n1, n2)).1 (readN U L (n1, n2)).2 0 65536).2 = m at *
    generalize (cb.readI (readN U L (n1, n2)).1 (readN U L (n1, n2)).2 0 65536).1 = er at *
    clear HR2 hrow hb3 HCV HV HN2 t0 t1
    go_wp2_with fail
    go_ret
    exact ⟨rfl, HB3.out⟩
  have q1 : (k == 1) = false := by simpa using e1
  rw [if_neg e1] at HV
  by_cases e3 : k = 3
  · subst e3
    rw [if_pos rfl] at HV
    have HT2 := Lib.hid (HT.out _ HB2.out)
    clear HR HT
    obtain ⟨tt, hte⟩ : ∃ t, targN U L (n1, n2) = t := ⟨_, rfl⟩
    rw [hte] at HT2 HV
    obtain ⟨ts, te⟩ := tt
    dsimp only at HT2 HV
    clear hte
    go_wp2_with fail
    refine HT2.out.mono ?_
    rintro _ w3 ⟨rfl, hb3⟩
    have HB3 := Lib.hid (bel_step HB2.out hb3)
    clear HT2 hb3 t0 t1 HN2
    go_wp2_with fail
    go_ret
    exact ⟨by rw [HV.out]; rfl, HB3.out⟩
  · have q3 : (k == 3) = false := by simpa using e3
    rw [if_neg e3] at HV
    go_wp2_with fail
    go_ret
    exact ⟨by rw [HV.out]; rfl, HB2.out⟩
end Go.Proofs.YtnnaoldpacbagaaGreat.fl
end
section
namespace Go.Proofs.YtnnaoldpacbagaaGreat.fl
open Go.RowKit
open Go.Proofs.YtnnaoldpacbagaaGreat.dn (En lget lset ldel nerr dotB Sorted lessB)
open Go.Proofs.YtnnaoldpacbagaaGreat.br (BS Ino Inv Good Tree sumF)
open Go.Proofs.YtnnaoldpacbagaaGreat.cb (BrX RetW RetI No)
open Go.Proofs.YtnnaoldpacbagaaGreat.bl (Pq)
open Go.Proofs.YtnnaoldpacbagaaGreat.mg (Nd Nv Vx Nb opq kindV lstV belV seenV pairV getV rootV AllV NR QB readN targN ReadN AllE bel_step bel_alloc grown_bel grown_set set_below set_size heap_set)
set_option linter.unusedVariables false
set_option linter.unusedSimpArgs false

def lc (x : Ln) : List Value := [.string x.path, .int .i64 x.kind, .string x.data]
def lcs (X : List Ln) : List Value := X.flatMap lc
theorem lcs_len : ∀ X : List Ln, (lcs X).length = X.length * 3
  | [] => rfl
  | x :: X => by
    have := lcs_len X
    unfold lcs at this ⊢
    rw [List.flatMap_cons, List.length_append, this, List.length_cons]
    show 3 + _ = _
    omega
theorem lcs_app (X Y : List Ln) : lcs (X ++ Y) = lcs X ++ lcs Y := by unfold lcs; rw [List.flatMap_append]
theorem lcs_get : ∀ {X : List Ln} {k : Nat} {x : Ln}, X[k]? = some x → (lcs X)[3 * k]? = some (.string x.path) ∧ (lcs X)[3 * k + 1]? = some (.int .i64 x.kind) ∧ (lcs X)[3 * k + 2]? = some (.string x.data)
  | [], k, x, h => by cases k <;> cases h
  | y :: X, 0, x, h => by
    injection h with h
    subst h
    exact ⟨rfl, rfl, rfl⟩
  | y :: X, k + 1, x, h => by
    have h1 := lcs_get (X := X) (k := k) (x := x) (by simpa using h)
    have e : lcs (y :: X) = lc y ++ lcs X := by unfold lcs; rw [List.flatMap_cons]
    have hl : (lc y).length = 3 := rfl
    rw [e]
    refine ⟨?_, ?_, ?_⟩
    · rw [List.getElem?_append_right (by rw [hl]; omega), hl, show 3 * (k + 1) - 3 = 3 * k from by omega]; exact h1.1
    · rw [List.getElem?_append_right (by rw [hl]; omega), hl, show 3 * (k + 1) + 1 - 3 = 3 * k + 1 from by omega]; exact h1.2.1
    · rw [List.getElem?_append_right (by rw [hl]; omega), hl, show 3 * (k + 1) + 2 - 3 = 3 * k + 2 from by omega]; exact h1.2.2
theorem info_parts79 : ∃ i : TypeInfo, Tryz.prog.info? 79 = some i ∧ i.zero = some (.agg #[.string ⟨#[]⟩, .int .i64 0, .string ⟨#[]⟩]) ∧ i.size = 3 ∧ i.bytes = 40 := ⟨(Tryz.prog.info? 79).get (by kernel_rfl), by kernel_rfl, by kernel_rfl, by kernel_rfl, by kernel_rfl⟩
theorem cell_three_new (w : World) (x y z : Value) (t : TypeId) : ∀ j u, [x, y, z][j]? = some u → (w.alloc (.cells #[x, y, z] t)).cell? ((⟨w.heap.size, 0, none⟩ : Addr).add j) = some u := by
  intro j u hj
  match j, hj with
  | 0, hj => simp at hj; subst hj; simp [Addr.add]
  | 1, hj => simp at hj; subst hj; simp [Addr.add]
  | 2, hj => simp at hj; subst hj; simp [Addr.add]
/-- Lines in an own row. -/
abbrev LO (w : World) (B : Nat) (A : Value) (X : List Ln) : Prop := w.ownsRow B 79 3 A X.length (lcs X)
theorem LO.same {w w' : World} {B : Nat} {v : Value} {X : List Ln} (h : LO w B v X) (hk : ∀ g, v.ownBlock = some g → w'.heap[g]? = w.heap[g]?) : LO w' B v X := by
  refine ⟨h.1, ?_⟩
  rcases h.2 with e | ⟨g, cap, cur, hv, hb, hg, r⟩
  · exact .inl e
  · exact .inr ⟨g, cap, cur, hv, hb, (hk g (by rw [hv]; rfl)).trans hg, r⟩
theorem LO.lt {w : World} {B : Nat} {v : Value} {X : List Ln} (h : LO w B v X) {k : Nat} (hk : v.ownBlock = some k) : B ≤ k ∧ k < w.heap.size := World.ownsRow.lt h k hk
theorem LO.below {w w' : World} {B : Nat} {v : Value} {X : List Ln} (h : LO w B v X) (hb : Below w.heap.size w w') : LO w' B v X := h.same fun g hg => hb.block g (h.lt hg).2
theorem LO.of {w : World} {B : Nat} {v : Value} {X : List Ln} {x : Ln} (h : w.ownsRow B 79 3 v (X.length + 1) (lcs X ++ lc x)) : LO w B v (X ++ [x]) := by
  unfold LO; rw [List.length_append, lcs_app]; simpa [lcs] using h
abbrev Vf (bv bl bf : Nat) : Value := .func (.func 95) #[] #[Pq bv, Pq bl, Pq bf]
/-- The visitor's boxes and its lines. -/
structure VS (w0 w : World) (bv bl bf V B : Nat) (A : Value) (X : List Ln) : Prop where
  bel : Below w0.heap.size w0 w
  cv : w.cell? ⟨bv, 0, none⟩ = some (Pq V)
  qb : QB w bl A
  cf : w.cell? ⟨bf, 0, none⟩ = some (Vf bv bl bf)
  row : LO w B A X
  hB : B ≤ w.heap.size
  lo : w0.heap.size ≤ bl ∧ bv < B ∧ bl < B ∧ bf < B ∧ bv ≠ bl ∧ bf ≠ bl ∧ w0.heap.size ≤ B
/-- Behind a call of the visitor: what may have turned. -/
structure Tn (w w' : World) (bl : Nat) (A A' : Value) : Prop where
  size : w.heap.size ≤ w'.heap.size
  blk : ∀ g, g < w.heap.size → g ≠ bl → A.ownBlock ≠ some g → w'.heap[g]? = w.heap[g]?
  row : ∀ k, A'.ownBlock = some k → A.ownBlock = some k ∨ w.heap.size ≤ k
section
variable {w0 w w' w2 : World} {bv bl bf V B : Nat} {A A' A2 : Value} {X : List Ln}
theorem VS.below (h : VS w0 w bv bl bf V B A X) (hb : Below w.heap.size w w') : VS w0 w' bv bl bf V B A X :=
  ⟨bel_step h.bel hb, (hb.cell (p := ⟨bv, 0, none⟩) (World.block_lt_of_cell? _ _ h.cv)).trans h.cv, h.qb.below hb, (hb.cell (p := ⟨bf, 0, none⟩) (World.block_lt_of_cell? _ _ h.cf)).trans h.cf, h.row.below hb, Nat.le_trans h.hB hb.size, h.lo⟩
theorem VS.app (h : VS w0 w bv bl bf V B A X) {x : Ln} (hg : w.grownBy w' A.ownBlock) (ho : LO w' B A' (X ++ [x])) : VS w0 (w'.setCell ⟨bl, 0, none⟩ A') bv bl bf V B A' (X ++ [x]) := by
  have hr := fun k => h.row.lt (k := k)
  obtain ⟨l1, l2, l3, l4, l5, l6, l7⟩ := h.lo
  have hq : QB w' bl A := h.qb.grown hg (fun e => by have := (hr _ e).1; omega)
  have hb : Below w0.heap.size w0 w' := grown_bel h.bel hg (fun k e => by have := (hr _ e).1; omega)
  have cv : w'.cell? ⟨bv, 0, none⟩ = some (Pq V) := (World.cell?_of_block (a := ⟨bv, 0, none⟩) (hg.block bv (World.block_lt_of_cell? _ _ h.cv) (fun e => by have := (hr _ e.symm).1; omega))).trans h.cv
  have cf : w'.cell? ⟨bf, 0, none⟩ = some (Vf bv bl bf) := (World.cell?_of_block (a := ⟨bf, 0, none⟩) (hg.block bf (World.block_lt_of_cell? _ _ h.cf) (fun e => by have := (hr _ e.symm).1; omega))).trans h.cf
  have hs := grown_set w' bl 0 A'
  exact ⟨set_below hb l1 _, (World.cell?_of_block (a := ⟨bv, 0, none⟩) (hs.block bv (World.block_lt_of_cell? _ _ cv) (fun e => by injection e with e; omega))).trans cv, hq.set A',
    (World.cell?_of_block (a := ⟨bf, 0, none⟩) (hs.block bf (World.block_lt_of_cell? _ _ cf) (fun e => by injection e with e; omega))).trans cf,
    ho.same fun g e => hs.block g (ho.lt e).2 (fun e2 => by injection e2 with e2; have := (ho.lt e).1; omega), by rw [set_size]; exact Nat.le_trans h.hB hg.size, h.lo⟩
theorem VS.grown (h : VS w0 w bv bl bf V B A X) (hg : w.grownBy w' A.ownBlock) : w'.cell? ⟨bl, 0, none⟩ = some A ∧ w'.frozen? ⟨bl, 0, none⟩ = false ∧ w'.cell? ⟨bv, 0, none⟩ = some (Pq V) ∧ w'.cell? ⟨bf, 0, none⟩ = some (Vf bv bl bf) := by
  have hr := fun k => h.row.lt (k := k)
  obtain ⟨l1, l2, l3, l4, l5, l6, l7⟩ := h.lo
  have hq : QB w' bl A := h.qb.grown hg (fun e => by have := (hr _ e).1; omega)
  exact ⟨hq.c, hq.f, (World.cell?_of_block (a := ⟨bv, 0, none⟩) (hg.block bv (World.block_lt_of_cell? _ _ h.cv) (fun e => by have := (hr _ e.symm).1; omega))).trans h.cv,
    (World.cell?_of_block (a := ⟨bf, 0, none⟩) (hg.block bf (World.block_lt_of_cell? _ _ h.cf) (fun e => by have := (hr _ e.symm).1; omega))).trans h.cf⟩
theorem Tn.refl (w : World) (bl : Nat) (A : Value) : Tn w w bl A A := ⟨Nat.le_refl _, fun _ _ _ _ => rfl, fun _ h => .inl h⟩
theorem Tn.trans (h : Tn w w' bl A A') (k : Tn w' w2 bl A' A2) : Tn w w2 bl A A2 :=
  ⟨Nat.le_trans h.size k.size, fun g h1 h2 h3 => (k.blk g (Nat.lt_of_lt_of_le h1 h.size) h2 (fun e => by rcases h.row g e with e | e; exact h3 e; omega)).trans (h.blk g h1 h2 h3),
    fun j e => by
      rcases k.row j e with e | e
      · exact h.row j e
      · exact .inr (Nat.le_trans h.size e)⟩
theorem Tn.bel (hb : Below w.heap.size w w') : Tn w w' bl A A := ⟨hb.size, fun g h1 _ _ => hb.block g h1, fun _ h => .inl h⟩
theorem Tn.app (hg : w.grownBy w' A.ownBlock) (ho : A'.ownBlock = A.ownBlock ∨ A'.ownBlock = some w.heap.size) : Tn w (w'.setCell ⟨bl, 0, none⟩ A') bl A A' :=
  ⟨by rw [set_size]; exact hg.size, fun g h1 h2 h3 => ((grown_set w' bl 0 A').block g (Nat.lt_of_lt_of_le h1 hg.size) (fun e => by injection e with e; exact h2 e)).trans (hg.block g h1 h3.symm),
    fun k e => by
      rcases ho with e2 | e2
      · exact .inl (e2 ▸ e)
      · exact .inr (by rw [e2] at e; injection e with e; omega)⟩
theorem Tn.nb {g : Nat} {n : Nd} (h : Tn w w' bl A A') (hn : Nb w g n) (h1 : g ≠ bl) (h2 : A.ownBlock ≠ some g) : Nb w' g n :=
  ⟨(World.cell?_of_block (a := ⟨g, 0, none⟩) (h.blk g hn.lt h1 h2)).trans hn.c0, (World.cell?_of_block (a := ⟨g, 1, none⟩) (h.blk g hn.lt h1 h2)).trans hn.c1⟩
theorem Tn.nr {lo : Nat} {a : Option Addr} {l : List ByteArray} (h : Tn w w' bl A A') (hn : NR w lo a l) (h1 : bl < lo) (h2 : ∀ k, A.ownBlock = some k → k < lo) : NR w' lo a l :=
  hn.same h.size fun b b1 b2 => h.blk b b2 (by omega) (fun e => by have := h2 _ e; omega)
end
theorem name_size {U L : BS} {r1 r2 : Nat} (hU : Inv U r1) (hL : Inv L r2) {n : Nd} {s : ByteArray} (h : (getV U L n s).2 = 0) : s.size ≤ 60 := by
  have h1 := wN_step hU hL n s h
  have one : ∀ {S : BS} {r : Nat} {d : Int}, Inv S r → got S d s ≠ 0 → s.size ≤ 60 := fun {S r d} hI hg => by
    unfold got at hg
    split at hg
    · rename_i e
      obtain ⟨D, _, _, _, _, h4⟩ := br.get_ok e
      exact (cb.nerr_len (hI.good D _ ((dn.lget_some (hI.sorted D)).1 h4)).1).2
    · exact absurd rfl hg
  by_cases e : got U n.1 s = 0
  · exact one hL (d := n.2) (by omega)
  · exact one hU e
end Go.Proofs.YtnnaoldpacbagaaGreat.fl
end
section
namespace Go.Proofs.YtnnaoldpacbagaaGreat.rg
open Go
set_option linter.unusedVariables false
set_option linter.unusedSimpArgs false
section
variable {P : Program} {ops : Array Oper} {Q : Exit → Act → World → Prop} {md : Region.Mode} {S : World → Prop} {z : Nat}
/-- Whatever order comes; S holds behind each operation but the last one, z. -/
def anyT (P : Program) (md : Region.Mode) (ops : Array Oper) (Q : Exit → Act → World → Prop) (S : World → Prop) (z : Nat) (n : Nat) (done : Array Bool) (a : Act) (w : World) : Prop :=
  match n with
  | 0 => Region.ready md ops done = [] ∧ Q .normal a w
  | n + 1 => (Region.ready md ops done = [] → Q .normal a w) ∧ ∀ i ∈ Region.ready md ops done, wpOp P ops Q i (fun b v => (i = z ∨ S v) ∧ anyT P md ops Q S z n (done.setIfInBounds i true) b v) a w
theorem any_of_T : ∀ (n : Nat) (done : Array Bool) (a : Act) (w : World), anyT P md ops Q S z n done a w → wpAny P md ops Q n done a w
  | 0, _, _, _, h => h
  | n + 1, _, _, _, h => ⟨h.1, fun i hi => wpOp_mono (fun b v k => any_of_T n _ b v k.2) (h.2 i hi)⟩
/-- As long as i has not come, z may not. -/
def Waits (md : Region.Mode) (ops : Array Oper) (z i : Nat) : Bool := match ops[z]? with | some o => o.after.any fun e => Region.binds md e && e.on == i | none => false
theorem waits_not {i : Nat} {done : Array Bool} (h : Waits md ops z i = true) (hd : done.getD i true = false) : z ∉ Region.ready md ops done := by
  intro hz
  obtain ⟨_, o, ho, hall⟩ := mem_ready.1 hz
  unfold Waits at h
  rw [ho] at h
  obtain ⟨e, he, hb⟩ := Array.any_eq_true'.1 h
  simp only [Bool.and_eq_true, beq_iff_eq] at hb
  have h1 := hall e he hb.1
  rw [hb.2] at h1
  rcases Nat.lt_or_ge i done.size with k | k
  · simp [k] at hd h1; rw [hd] at h1; cases h1
  · simp [Array.getElem?_eq_none k] at hd
theorem first_T {i : Nat} {o : Oper} {u : Value} (hi : ops[i]? = some o) (hsel : ∀ (j : Nat) (x : Oper) cs b, ops[j]? = some x → x.op ≠ .select cs b)
    (hQ : ∀ c a w, Q (.panic c) (a.put o.dst u) w → Q (.panic c) a w) (hz : Waits md ops z i = true) :
    ∀ (n : Nat) (done : Array Bool) (a : Act) (w : World), (∀ j x, ops[j]? = some x → j ≠ i → done.getD j true = false → (∀ e ∈ x.after, Region.binds md e = true → e.on ≠ i) → o.apart ops x = true) →
      i ∈ Region.ready md ops done → YieldsIf P ops S o u a → S w → anyT P md ops Q S z n (done.setIfInBounds i true) (a.put o.dst u) w → anyT P md ops Q S z (n + 1) done a w
  | 0, done, a, w, _, hr, hy, hS, H => by
    refine ⟨fun h => (by rw [h] at hr; cases hr), fun j hj => ?_⟩
    by_cases e : j = i
    · subst e; exact hy.wpOp hi hS ⟨.inr hS, H⟩
    · have := ready_mono hj e
      rw [H.1] at this
      cases this
  | n + 1, done, a, w, hf, hr, hy, hS, H => by
    refine ⟨fun h => (by rw [h] at hr; cases hr), fun j hj => ?_⟩
    by_cases e : j = i
    · subst e; exact hy.wpOp hi hS ⟨.inr hS, H⟩
    · have hu := (mem_ready.1 hr).1
      have hjz : j ≠ z := fun e2 => waits_not hz hu (e2 ▸ hj)
      have k1 := H.2 j (ready_mono hj e)
      obtain ⟨hju, x, hx, hall⟩ := mem_ready.1 hj
      have hno : ∀ y ∈ x.after, Region.binds md y = true → y.on ≠ i := fun y hy2 hb e2 => by
        have k2 := hall y hy2 hb
        rw [e2] at k2
        rcases Nat.lt_or_ge i done.size with k | k
        · simp [k] at hu k2; rw [hu] at k2; cases k2
        · simp [Array.getElem?_eq_none k] at hu
      have k3 := wpOp_putIf hx (hf j x hx e hju hno) (fun cs b => hsel i o cs b hi) (fun cs b => hsel j x cs b hx) hQ hy k1
      refine wpOp_mono (fun b v k4 => ⟨k4.2.1, first_T hi hsel hQ hz n (done.setIfInBounds j true) b v (fun m y hm hmi hun hn => ?_) (ready_mono hr (Ne.symm e)) k4.1 (k4.2.1.resolve_left hjz) ?_⟩) k3
      · refine hf m y hm hmi ?_ hn
        by_cases hjm : j = m
        · subst hjm; exact hju
        · rw [getD_set_ne true hjm] at hun; exact hun
      · rw [Array.setIfInBounds_comm _ _ e]
        exact k4.2.2
theorem take_T {i : Nat} {o : Oper} (u : Value) {n : Nat} {done : Array Bool} {a : Act} {w : World} (hi : ops[i]? = some o) (hs : Region.noSelect ops = true) (hf : Region.free md ops done i = true)
    (hr : (Region.ready md ops done).contains i = true) (hz : Waits md ops z i = true) (hQ : ∀ c a w, Q (.panic c) (a.put o.dst u) w → Q (.panic c) a w) (hy : YieldsIf P ops S o u a) (hS : S w)
    (h : anyT P md ops Q S z n (done.setIfInBounds i true) (a.put o.dst u) w) : anyT P md ops Q S z (n + 1) done a w :=
  first_T hi (Region.noSelect_spec hs) hQ hz n done a w (Region.free_spec hi hf) (by simpa using hr) hy hS h
theorem step_T {i : Nat} {o : Oper} {n : Nat} {done : Array Bool} {a : Act} {w : World} (hr : Region.ready md ops done = [i]) (ho : ops[i]? = some o)
    (h : ∀ K : Act → World → Prop, Shut (∀ b v, (i = z ∨ S v) → anyT P md ops Q S z n (done.setIfInBounds i true) b v → K b v) → if Region.wanted o (yielded ops a.tmps) = true then Oper.wp P o a w K Q else K (a.put o.dst undef) w) :
    anyT P md ops Q S z (n + 1) done a w :=
  ⟨fun e => (by rw [hr] at e; cases e), fun j hj => by
    rw [hr] at hj
    obtain rfl : j = i := by simpa using hj
    exact wpOp_step ho fun K hK => h K fun b v h1 h2 => hK b v ⟨h1, h2⟩⟩
theorem done_T {done : Array Bool} {a : Act} {w : World} (hr : Region.ready md ops done = []) (h : Q .normal a w) : anyT P md ops Q S z 0 done a w := ⟨hr, h⟩
theorem region_T {id : Nat} {a : Act} {w : World} (hm : P.follows .mixedOrders = true) (h : anyT P .any ops Q S z ops.size (Array.replicate ops.size false) a w.drew) : (Code.region id ops true).wp P Q a w :=
  wp_region_any hm (any_of_T _ _ _ _ h)
end
end Go.Proofs.YtnnaoldpacbagaaGreat.rg
end
