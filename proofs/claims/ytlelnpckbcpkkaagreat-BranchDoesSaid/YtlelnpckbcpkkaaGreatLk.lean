/- Links are names: a map of the call's own that counts, a row of entries beside it, the sums. -/
import Derived.Test.YtlelnpckbcpkkaaGreatHo
import Derived.Maps.Own
import Derived.Maps.OwnOps
import Derived.Maps.Views
namespace Go.Proofs.YtlelnpckbcpkkaaGreat.cb
open Go.RowKit
open Go.Maps (Keyed IsMap isMap_empty atKey_put_same atKey_put_other int_keyed keyOf_int_mk)
open Go.Proofs.YtlelnpckbcpkkaaGreat.br
open Go.Proofs.YtlelnpckbcpkkaaGreat.bl (Only Pq)
open Go.Proofs.YtlelnpckbcpkkaaGreat.dn (En)
set_option linter.unusedVariables false
set_option linter.unusedSimpArgs false

def updI {α : Type} (f : Int → α) (a : Int) (b : α) : Int → α := fun x => if x = a then b else f x
def Wf (a : Int) : Prop := (Lit.int .i64 a).wf = true
theorem wf_small {a : Int} (h1 : -1000000 ≤ a) (h2 : a ≤ 1000000) : Wf a := by
  unfold Wf
  simp only [Lit.wf, Bool.and_eq_true, decide_eq_true_eq]
  refine ⟨Int.le_trans (by decide) h1, Int.le_trans h2 (by decide)⟩
/-- Block B is a map of at most n entries: at each key what f says. -/
def MapI (w : World) (B n : Nat) (f : Int → Int) : Prop :=
  ∃ D : DataW Unit, w.ownsMap Tryz.prog 3 (plainElem Tryz.prog 3) B n D ∧ IsMap D ∧ ∀ a, D.atKey (.int .i64 a) (.lit (.int .i64 0)) = .lit (.int .i64 (f a))
theorem MapI.made (w : World) : MapI (w.alloc (.map #[] 0)) w.heap.size 0 (fun _ => 0) := ⟨.map [], World.ownsMap_made _ _ _ _, isMap_empty, fun a => rfl⟩
theorem MapI.lt {w : World} {B n : Nat} {f : Int → Int} (h : MapI w B n f) : B < w.heap.size := by obtain ⟨D, h, _⟩ := h; exact h.lt
theorem MapI.of_block {w w' : World} {B n : Nat} {f : Int → Int} (h : MapI w B n f) (hb : w'.heap[B]? = w.heap[B]?) : MapI w' B n f := by
  obtain ⟨D, ⟨es, clock, h1, h2⟩, r⟩ := h
  exact ⟨D, ⟨es, clock, hb.trans h1, h2⟩, r⟩
theorem MapI.below {w w' : World} {B n : Nat} {f : Int → Int} (h : MapI w B n f) (hb : Below w.heap.size w w') : MapI w' B n f := h.of_block (hb.block _ h.lt)
set_option maxRecDepth 100000 in
theorem MapI.look {w : World} {B n : Nat} {f : Int → Int} (h : MapI w B n f) {a : Int} (ha : Wf a) :
    (Instr.lookup 54 (.map (some B)) (.int .i64 a) false).run Tryz.prog w = .ok (.int .i64 (f a)) w := by
  obtain ⟨D, h1, h2, h3⟩ := h
  obtain ⟨c, hrun, hat, _⟩ := h1.lookup_int (int_keyed Tryz.underlying3) Tryz.underlying54 Tryz.underlying3 (by kernel_rfl) (keyOf_int_mk Tryz.underlying3 ha)
  rw [h3] at hat
  injection hat with hat
  injection hat with _ hat
  rw [hrun, hat]
set_option maxRecDepth 100000 in
theorem MapI.put {w : World} {B n : Nat} {f : Int → Int} (h : MapI w B n f) (hn : n ≤ 1000000) {a b : Int} (ha : Wf a) (hb : Wf b) :
    ∃ w', (Instr.mapUpdate 54 (.map (some B)) (.int .i64 a) (.int .i64 b)).run Tryz.prog w = .ok () w' ∧ MapI w' B (n + 1) (updI f a b) ∧ w.grownBy w' (some B) := by
  obtain ⟨D, h1, h2, h3⟩ := h
  obtain ⟨w', hrun, hown, hg⟩ := h1.update (int_keyed Tryz.underlying3) Tryz.underlying54 (by unfold maxLen; omega) (keyOf_int_mk Tryz.underlying3 ha) (plainElem_int Tryz.underlying3 hb)
  refine ⟨w', hrun, ⟨_, hown, h2.put _ _, fun x => ?_⟩, hg⟩
  unfold updI
  by_cases e : x = a
  · subst e; rw [if_pos rfl, atKey_put_same h2 (show WideAt.IsKeyLit (.int .i64 x) from trivial)]
  · rw [if_neg e, atKey_put_other (fun h => e (by injection h)), h3]
theorem only_grown {w w' : World} {B : Nat} (h : w.grownBy w' (some B)) : Only (fun b => b = B) w w' := ⟨h.os, h.tape, h.output, h.size, fun k hk hF => h.block k hk (fun e => hF (by injection e))⟩
theorem BrX.only {w0 w w' : World} {P room T : Nat} {X F : Nat → Prop} {S : BS} (h : BrX w0 w P X S room T) (ho : Only F w w') (hF : ∀ b, F b → X b) (hl : ∀ b, F b → w0.heap.size ≤ b) : BrX w0 w' P X S room T := by
  obtain ⟨st, qb, qo, pl, tag, Tq, h1, h2, h3, h4, h5, h6, h7⟩ := h
  exact ⟨st, qb, qo, pl, tag, Tq, h1.only ho (fun b hb => (h7 b (hF b hb)).2), h2, h3, h4, h5, h6.trans ⟨ho.os, ho.tape, ho.output, ho.size, fun k hk => ho.block k (Nat.lt_of_lt_of_le hk h6.size) (fun hf => by have := hl k hf; omega)⟩,
    fun b hb => ⟨Nat.lt_of_lt_of_le (h7 b hb).1 ho.size, (h7 b hb).2⟩⟩
/-- A row of entries beside a block M. -/
def RowC (w : World) (A : Option Addr) (M : Nat) (L : List En) : Prop :=
  ∀ j x, L[j]? = some x → ∃ g, A = some ⟨g, 0, none⟩ ∧ g ≠ M ∧ g < w.heap.size ∧ w.cell? ⟨g, j * 2, none⟩ = some (.string x.1) ∧ w.cell? ⟨g, j * 2 + 1, none⟩ = some (.int .i64 x.2)
theorem RowC.of {w : World} {lo c M : Nat} {o : Option Nat} {L : List En} (h : dn.Sl w lo o c L) (hM : M < lo) : RowC w (dn.Ao o) M L := fun j x hx => by
  have hS : Sx lo o c L M w := ⟨h, fun g e => by subst e; have := h.1; omega⟩
  obtain ⟨g, e, h1, h2, h3, h4⟩ := hS.get hx
  subst e
  exact ⟨g, rfl, h1, h2, h3, h4⟩
theorem RowC.only {w w' : World} {A : Option Addr} {M : Nat} {L : List En} (h : RowC w A M L) (ho : Only (fun b => b = M) w w') : RowC w' A M L := fun j x hx => by
  obtain ⟨g, e, h1, h2, h3, h4⟩ := h j x hx
  have hb := ho.block g h2 h1
  exact ⟨g, e, h1, Nat.lt_of_lt_of_le h2 ho.size, (World.cell?_of_block (a := ⟨g, j * 2, none⟩) hb).trans h3, (World.cell?_of_block (a := ⟨g, j * 2 + 1, none⟩) hb).trans h4⟩
theorem RowC.below {w w' : World} {A : Option Addr} {M : Nat} {L : List En} (h : RowC w A M L) (hb : Below w.heap.size w w') : RowC w' A M L := h.only ((Only.of_below hb (F := fun _ => False)).mono (fun _ h => h.elim))

/-! ### the sums -/
/-- How many names lead to a: the root's, those of the inodes up to i, those of L. -/
def nmF (S : BS) (i : Nat) (L : List En) : Int → Int := fun a => (if a = 1 then 1 else 0) + (S.names a i : Int) + (names a L : Int)
theorem names_len (a : Int) (L : List En) : names a L ≤ L.length := List.length_filter_le _ _
theorem nmF_step (S : BS) (i : Nat) {L : List En} {j : Nat} {x : En} (hx : L[j]? = some x) : updI (nmF S i (L.take j)) x.2 (nmF S i (L.take j) x.2 + 1) = nmF S i (L.take (j + 1)) := by
  funext a
  unfold updI nmF
  rw [List.take_add_one, hx, names_append, Option.toList_some, names_cons, names_nil]
  generalize hg : ((if a = 1 then 1 else 0 : Int)) = g
  by_cases e : a = x.2
  · subst e
    rw [if_pos (rfl : x.2 = x.2), if_pos (rfl : x.2 = x.2), hg]
    omega
  · rw [if_neg e, if_neg (fun h : x.2 = a => e h.symm)]
    omega
theorem nmF_next (S : BS) (k : Nat) : nmF S k (S.ino (k + 1)).dir = nmF S (k + 1) [] := by
  funext a
  unfold nmF
  have : S.names a (k + 1) = S.names a k + names a (S.ino (k + 1)).dir := rfl
  rw [this, names_nil]
  omega
theorem nmF_none (S : BS) (k : Nat) (h : (S.ino (k + 1)).dir = []) : nmF S k [] = nmF S (k + 1) [] := by rw [← nmF_next, h]
theorem names_bound {S : BS} {room : Nat} (h : Inv S room) (a : Int) (k : Nat) : S.names a k ≤ 4000 * k := by
  induction k with
  | zero => exact Nat.le_refl _
  | succ k ih =>
    have e : S.names a (k + 1) = S.names a k + names a (S.ino (k + 1)).dir := rfl
    have h1 := names_len a (S.ino (k + 1)).dir
    have h2 := h.dirLen (k + 1)
    omega
theorem count_next (S : BS) (k : Nat) : S.count (k + 1) = S.count k + if (S.ino (k + 1)).kind ≠ 0 then 1 else 0 := rfl
theorem count_le (S : BS) (k : Nat) : S.count k ≤ k := by
  induction k with
  | zero => exact Nat.le_refl _
  | succ k ih => rw [count_next]; split <;> omega
theorem start_f (S : BS) : updI (fun _ => (0 : Int)) 1 1 = nmF S 0 [] := by
  funext a
  unfold updI nmF
  have : S.names a 0 = 0 := rfl
  rw [this, names_nil]
  split <;> rfl
theorem links_f {S : BS} {room : Nat} (h : Inv S room) (k : Nat) (h1 : 1 ≤ k) (h2 : k ≤ 200) : nmF S 200 [] (k : Int) = (S.ino k).links := by
  unfold nmF
  rw [h.links k h1 h2, names_nil]
  by_cases e : k = 1
  · subst e; rw [if_pos (show ((1 : Nat) : Int) = 1 from rfl), if_pos rfl]; omega
  · rw [if_neg (show ¬ ((k : Int) = 1) by omega), if_neg e]; omega
theorem all_dir {S : BS} {I : Nat} (h1 : 1 ≤ I) (h2 : I ≤ 200) (hk : (S.ino I).kind = 2) : S.all (I : Int) = ((S.ino I).dir, 0) := by
  unfold BS.all
  have hd : S.dirE (I : Int) false = 0 := by
    unfold BS.dirE
    rw [isI_of h1 h2 (by rw [hk]; decide), if_neg (by decide), at_nat, if_neg (by rw [hk]; decide), if_neg (fun e => by cases e.1)]
  rw [hd, if_neg (by decide), at_nat]
theorem all_no {S : BS} {I : Nat} (h1 : 1 ≤ I) (h2 : I ≤ 200) (h0 : (S.ino I).kind ≠ 0) (hk : (S.ino I).kind ≠ 2) : S.all (I : Int) = ([], 20) := by
  unfold BS.all
  have hd : S.dirE (I : Int) false = 20 := by
    unfold BS.dirE
    rw [isI_of h1 h2 h0, if_neg (by decide), at_nat, if_pos hk]
  rw [hd, if_pos (by decide)]
theorem parent_of {S : BS} {I : Nat} (h1 : 1 ≤ I) (h2 : I ≤ 200) (hk : (S.ino I).kind ≠ 0) : S.parentOf (I : Int) = (S.ino I).parent := by
  unfold BS.parentOf
  rw [if_pos (isI_of h1 h2 hk), at_nat]
/-- An entry's inode: its number, and where it is a directory, its parent. -/
theorem entry_ok {S : BS} {room D : Nat} (hG : br.Good S room) {x : En} (hx : x ∈ (S.ino D).dir) : ∃ I : Nat, x.2 = (I : Int) ∧ 1 ≤ I ∧ I ≤ 200 ∧ (S.ino I).kind ≠ 0 ∧ ((S.ino I).kind = 2 → (S.ino I).parent = (D : Int)) := by
  obtain ⟨_, _, I, e, h1, h2, _, _, h5⟩ := hG.1.entry hx
  refine ⟨I, e, h1, h2, h5, fun hk => ?_⟩
  have := hG.1.up D x hx (by rw [e]; rw [at_nat]; exact hk)
  rw [e, at_nat] at this
  exact this
end Go.Proofs.YtlelnpckbcpkkaaGreat.cb
