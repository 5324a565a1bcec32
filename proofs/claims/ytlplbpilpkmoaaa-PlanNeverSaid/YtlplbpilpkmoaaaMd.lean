/- A schedule in memory: its box, its tasks, its map of locks. -/
import Derived.Test.YtlplbpilpkmoaaaMb
import Derived.Maps.Own
import Derived.Maps.OwnOps
import Derived.Maps.OwnSet
import Derived.Maps.Views
namespace Go.Proofs.Ytlplbpilpkmoaaa.sc
open Go.RowKit
open Go.Maps (Keyed IsMap isMap_empty atKey_put_same atKey_put_other atKey_del_same atKey_del_other int_keyed keyOf_int_mk has_put_same has_put_other has_del_same has_del_other size_put size_del atKey_of_not_has)
set_option linter.unusedVariables false
set_option linter.unusedSimpArgs false

/-! Maps of the call's own, keyed by integers, whatever their elements. -/
def Wf (a : Int) : Prop := (Lit.int .i64 a).wf = true
theorem wf_small {a : Int} (h1 : -1000000 ≤ a) (h2 : a ≤ 1000000) : Wf a := by
  unfold Wf
  simp only [Lit.wf, Bool.and_eq_true, decide_eq_true_eq]
  exact ⟨Int.le_trans (by decide) h1, Int.le_trans h2 (by decide)⟩
def RV : Value → Option (DataW Value × List MemPlace) := fun v => some (.held v, [])
def ups (f : Int → Option Value) (a : Int) (v : Value) : Int → Option Value := fun x => if x = a then some v else f x
def uno (f : Int → Option Value) (a : Int) : Int → Option Value := fun x => if x = a then none else f x
/-- Block M is a map of S entries (room for n was taken): at each key what f says. -/
def MapV (w : World) (M n S : Nat) (f : Int → Option Value) : Prop :=
  ∃ D : DataW Value, w.ownsMap Try.prog 3 RV M n D ∧ IsMap D ∧ (∀ a, Maps.has D (.int .i64 a) = (f a).isSome) ∧ (∀ a v zd, f a = some v → D.atKey (.int .i64 a) zd = .held v) ∧ Maps.size D = S
theorem k3 : Try.prog.underlying 3 = some (.int .i64) := Try.underlying3
theorem MapV.made (w : World) : MapV (w.alloc (.map #[] 0)) w.heap.size 0 0 (fun _ => none) := ⟨.map [], World.ownsMap_made _ _ _ _, isMap_empty, fun a => rfl, fun a v zd h => (nomatch h), rfl⟩
section
variable {w : World} {M n S : Nat} {f : Int → Option Value} {t e : TypeId}
theorem MapV.lt (h : MapV w M n S f) : M < w.heap.size := by obtain ⟨D, h, _⟩ := h; exact h.lt
theorem MapV.of_block {w' : World} (h : MapV w M n S f) (hb : w'.heap[M]? = w.heap[M]?) : MapV w' M n S f := by
  obtain ⟨D, ⟨es, clock, h1, h2⟩, r⟩ := h
  exact ⟨D, ⟨es, clock, hb.trans h1, h2⟩, r⟩
theorem MapV.put (h : MapV w M n S f) (ht : Try.prog.underlying t = some (.map 3 e)) (hn : n ≤ 1000000) {a : Int} (ha : Wf a) (v : Value) :
    ∃ w', (Instr.mapUpdate t (.map (some M)) (.int .i64 a) v).run Try.prog w = .ok () w' ∧ MapV w' M (n + 1) (if (f a).isSome then S else S + 1) (ups f a v) ∧ w.grownBy w' (some M) := by
  obtain ⟨D, h1, h2, h3, h4, h5⟩ := h
  obtain ⟨w', hrun, hown, hg⟩ := h1.update (int_keyed k3) ht (by unfold maxLen; omega) (keyOf_int_mk k3 ha) (show RV v = some (.held v, []) from rfl)
  refine ⟨w', hrun, ⟨_, hown, h2.put _ _, fun x => ?_, fun x u zd hx => ?_, ?_⟩, hg⟩
  · unfold ups
    by_cases e : x = a
    · subst e; rw [if_pos rfl, has_put_same h2 (show WideAt.IsKeyLit (.int .i64 x) from trivial)]; rfl
    · rw [if_neg e, has_put_other (fun h => e (by injection h)), h3]
  · unfold ups at hx
    by_cases e : x = a
    · subst e
      rw [if_pos rfl] at hx
      injection hx with hx
      subst hx
      exact atKey_put_same h2 (show WideAt.IsKeyLit (.int .i64 x) from trivial) _ _
    · rw [if_neg e] at hx
      rw [atKey_put_other (fun h => e (by injection h))]
      exact h4 x u zd hx
  · rw [size_put (h1.tidy (int_keyed k3)), h3, h5]
theorem MapV.del (h : MapV w M n S f) (ht : Try.prog.underlying t = some (.map 3 e)) {a : Int} (ha : Wf a) (ty : TypeId) :
    ∃ w', (Builtin.delete_ #[t, 3] ty #[.map (some M), .int .i64 a]).run Try.prog w = .ok (.tuple #[]) w' ∧ MapV w' M n (if (f a).isSome then S - 1 else S) (uno f a) ∧ w.grownBy w' (some M) := by
  obtain ⟨D, h1, h2, h3, h4, h5⟩ := h
  obtain ⟨w', hrun, hown, hg⟩ := h1.drop (int_keyed k3) ht (keyOf_int_mk k3 ha) ty
  refine ⟨w', hrun, ⟨_, hown, h2.del _, fun x => ?_, fun x u zd hx => ?_, ?_⟩, hg.grown⟩
  · unfold uno
    by_cases e : x = a
    · subst e; rw [if_pos rfl, has_del_same]; rfl
    · rw [if_neg e, has_del_other (fun h => e (by injection h)), h3]
  · unfold uno at hx
    by_cases e : x = a
    · subst e; rw [if_pos rfl] at hx; cases hx
    · rw [if_neg e] at hx
      rw [atKey_del_other (fun h => e (by injection h))]
      exact h4 x u zd hx
  · have hs := size_del (k := .int .i64 a) (h1.tidy (int_keyed k3))
    rw [h3, h5] at hs
    split <;> simp_all <;> omega
theorem MapV.look (h : MapV w M n S f) (ht : Try.prog.underlying t = some (.map 3 e)) {z : Value} (hz : (zeroValue e).run Try.prog w = .ok z w) {a : Int} (ha : Wf a) :
    (Instr.lookup t (.map (some M)) (.int .i64 a) false).run Try.prog w = .ok ((f a).getD z) w := by
  obtain ⟨D, h1, h2, h3, h4, h5⟩ := h
  obtain ⟨v, ps, hrun, hv⟩ := h1.lookup (int_keyed k3) ht hz (show RV z = some (.held z, []) from rfl) (keyOf_int_mk k3 ha)
  rw [hrun]
  unfold RV at hv
  injection hv with hv
  injection hv with hv
  cases hf : f a with
  | some u => rw [h4 a u _ hf] at hv; injection hv with hv; rw [hv]; rfl
  | none =>
    rw [atKey_of_not_has (by rw [h3, hf]; rfl)] at hv
    injection hv with hv; rw [hv]; rfl
theorem MapV.len (h : MapV w M n S f) (ht : Try.prog.underlying t = some (.map 3 e)) (ty : TypeId) : (Builtin.len_ #[t] ty #[.map (some M)]).run Try.prog w = .ok (.int .i64 S) w := by
  obtain ⟨D, h1, h2, h3, h4, h5⟩ := h
  rw [h1.len ht ty, h5]
end

/-! What a call may turn. -/
structure Only (F : Nat → Prop) (w w' : World) : Prop where
  os : w'.os = w.os
  tape : w'.tape = w.tape
  output : w'.output = w.output
  size : w.heap.size ≤ w'.heap.size
  block : ∀ k, k < w.heap.size → ¬ F k → w'.heap[k]? = w.heap[k]?
theorem Only.refl (F : Nat → Prop) (w : World) : Only F w w := ⟨rfl, rfl, rfl, Nat.le_refl _, fun _ _ _ => rfl⟩
theorem Only.trans {F : Nat → Prop} {w w1 w2 : World} (h : Only F w w1) (k : Only F w1 w2) : Only F w w2 :=
  ⟨k.os.trans h.os, k.tape.trans h.tape, k.output.trans h.output, Nat.le_trans h.size k.size, fun j hj hF => (k.block j (Nat.lt_of_lt_of_le hj h.size) hF).trans (h.block j hj hF)⟩
theorem Only.of_below {F : Nat → Prop} {w w' : World} (h : Below w.heap.size w w') : Only F w w' := ⟨h.os, h.tape, h.output, h.size, fun k hk _ => h.block k hk⟩
theorem Only.of_grown {F : Nat → Prop} {w w' : World} {r : Option Nat} (h : w.grownBy w' r) (hF : ∀ k, r = some k → F k) : Only F w w' := ⟨h.os, h.tape, h.output, h.size, fun k hk hn => h.block k hk fun e => hn (hF k e.symm)⟩
theorem Only.below {F : Nat → Prop} {w0 w w' : World} (h : Below w0.heap.size w0 w) (ho : Only F w w') (hF : ∀ b, F b → w0.heap.size ≤ b) : Below w0.heap.size w0 w' :=
  h.trans ⟨ho.os, ho.tape, ho.output, ho.size, fun k hk => ho.block k (Nat.lt_of_lt_of_le hk h.size) (fun e => by have := hF k e; omega)⟩
theorem only_cell (w : World) (a : Addr) (v : Value) : Only (fun b => b = a.block) w (w.setCell a v) := ⟨rfl, rfl, rfl, by simp [World.setCell], fun k hk hF => Below.heap_setCell _ _ _ _ hF⟩
theorem Only.mono {F G : Nat → Prop} {w w' : World} (h : Only F w w') (hG : ∀ b, F b → G b) : Only G w w' := ⟨h.os, h.tape, h.output, h.size, fun k hk hk2 => h.block k hk (fun e => hk2 (hG k e))⟩

/-- Whose a block is. -/
inductive Tag where
  | no | box | tasks | locks
  | row (l : Int)
/-- The tasks' row: two cells each. -/
def TRow (w : World) (B n : Nat) (T : Tk) : Prop := (∀ k, k < n → w.cell? ⟨B, k * 2, none⟩ = some (.int .i64 (T.st k : Int)) ∧ w.cell? ⟨B, k * 2 + 1, none⟩ = some (.int .i64 (T.lk k))) ∧ ∀ j, w.frozen? ⟨B, j, none⟩ = false
theorem TRow.of_block {w w' : World} {B n : Nat} {T : Tk} (h : TRow w B n T) (hb : w'.heap[B]? = w.heap[B]?) : TRow w' B n T :=
  ⟨fun k hk => ⟨(World.cell?_of_block (a := ⟨B, k * 2, none⟩) hb).trans (h.1 k hk).1, (World.cell?_of_block (a := ⟨B, k * 2 + 1, none⟩) hb).trans (h.1 k hk).2⟩, fun j => (World.frozen?_of_block (a := ⟨B, j, none⟩) hb).trans (h.2 j)⟩
theorem off_ne {B a b : Nat} (h : a ≠ b) : (⟨B, a, none⟩ : Addr) ≠ ⟨B, b, none⟩ := fun e => h (congrArg Addr.off e)
theorem TRow.put {w : World} {B n : Nat} {T : Tk} (h : TRow w B n T) {k : Nat} (hk : k < n) (s : Nat) : TRow (w.setCell ⟨B, k * 2, none⟩ (.int .i64 (s : Int))) B n (T.put k s) := by
  refine ⟨fun j hj => ⟨?_, ?_⟩, fun j => by simpa using h.2 j⟩
  · by_cases e : j = k
    · subst e; rw [World.cell?_setCell_same _ _ _ (h.1 j hj).1]; simp [Tk.put]
    · rw [World.cell?_setCell_other _ _ _ _ (off_ne (by omega)), (h.1 j hj).1]; simp [Tk.put, e]
  · rw [World.cell?_setCell_other _ _ _ _ (off_ne (by omega)), (h.1 j hj).2]; simp [Tk.put]
theorem TRow.add {w : World} {B n : Nat} {T : Tk} (h : TRow w B n T) {k : Nat} (hk : k < n) (a : Int) : TRow (w.setCell ⟨B, k * 2 + 1, none⟩ (.int .i64 (wrap64 (T.lk k + a)))) B n (T.add k a) := by
  refine ⟨fun j hj => ⟨?_, ?_⟩, fun j => by simpa using h.2 j⟩
  · rw [World.cell?_setCell_other _ _ _ _ (off_ne (by omega)), (h.1 j hj).1]; simp [Tk.add]
  · by_cases e : j = k
    · subst e; rw [World.cell?_setCell_same _ _ _ (h.1 j hj).2]; simp [Tk.add]
    · rw [World.cell?_setCell_other _ _ _ _ (off_ne (by omega)), (h.1 j hj).2]; simp [Tk.add, e]
/-- The claims of a lock, as its map's entry tells them. -/
def CS (w : World) (tg : Nat → Tag) (l : Int) (v : Option Value) (xs : List Cl) : Prop := ∃ o c, v.getD (.slice none 0 0) = .slice (Ao o) xs.length c ∧ Sl w o c xs ∧ ∀ G, o = some G → tg G = .row l
theorem CS.keep {w w' : World} {tg tg' : Nat → Tag} {l : Int} {v : Option Value} {xs : List Cl} (h : CS w tg l v xs) (hk : ∀ b, tg b = .row l → w'.heap[b]? = w.heap[b]? ∧ tg' b = .row l) : CS w' tg' l v xs := by
  obtain ⟨o, c, h1, h2, h3⟩ := h
  exact ⟨o, c, h1, h2.of_block fun G e => (hk G (h3 G e)).1, fun G e => (hk G (h3 G e)).2⟩
/-- A schedule that the call made behind w0. -/
structure SbX (w0 w : World) (P B M : Nat) (tg : Nat → Tag) (f : Int → Option Value) (s : Sd) : Prop where
  own : ∀ b, tg b ≠ .no → w0.heap.size ≤ b ∧ b < w.heap.size
  bel : Below w0.heap.size w0 w
  tP : tg P = .box
  tB : tg B = .tasks
  tM : tg M = .locks
  p0 : w.cell? ⟨P, 0, none⟩ = some (.slice (some ⟨B, 0, none⟩) s.n s.n)
  p1 : w.cell? ⟨P, 1, none⟩ = some (.map (some M))
  tsk : TRow w B s.n s.T
  map : ∃ S, MapV w M s.N S f
  row : ∀ l, CS w tg l (f l) (s.cl l)
  fit : ∀ l, ∀ c ∈ s.cl l, c.task < s.n
  few : ∀ l, (s.cl l).length ≤ s.N
  n64 : s.n ≤ 64
section
variable {w0 w w' : World} {P B M : Nat} {tg : Nat → Tag} {f : Int → Option Value} {s : Sd}
theorem SbX.keep (h : SbX w0 w P B M tg f s) (hb : Below w0.heap.size w0 w') (hs : w.heap.size ≤ w'.heap.size) (hk : ∀ b, tg b ≠ .no → w'.heap[b]? = w.heap[b]?) : SbX w0 w' P B M tg f s := by
  have kP := hk P (by rw [h.tP]; simp)
  have kB := hk B (by rw [h.tB]; simp)
  have kM := hk M (by rw [h.tM]; simp)
  exact ⟨fun b h1 => ⟨(h.own b h1).1, Nat.lt_of_lt_of_le (h.own b h1).2 hs⟩, hb, h.tP, h.tB, h.tM, (World.cell?_of_block (a := ⟨P, 0, none⟩) kP).trans h.p0, (World.cell?_of_block (a := ⟨P, 1, none⟩) kP).trans h.p1, h.tsk.of_block kB,
    by obtain ⟨S, hm⟩ := h.map; exact ⟨S, hm.of_block kM⟩, fun l => (h.row l).keep fun b e => ⟨hk b (by rw [e]; simp), e⟩, h.fit, h.few, h.n64⟩
theorem SbX.below (h : SbX w0 w P B M tg f s) (hb : Below w.heap.size w w') : SbX w0 w' P B M tg f s :=
  h.keep (below_step h.bel hb) hb.size fun b hb2 => hb.block b (h.own b hb2).2
theorem SbX.apart (h : SbX w0 w P B M tg f s) {F : Nat → Prop} (ho : Only F w w') (hF : ∀ b, F b → w0.heap.size ≤ b ∧ tg b = .no) : SbX w0 w' P B M tg f s :=
  h.keep (ho.below h.bel fun b hb => (hF b hb).1) ho.size fun b hb2 => ho.block b (h.own b hb2).2 fun e => hb2 (hF b e).2
theorem SbX.ne (h : SbX w0 w P B M tg f s) : P ≠ B ∧ P ≠ M ∧ B ≠ M := by
  refine ⟨fun e => ?_, fun e => ?_, fun e => ?_⟩
  · have h1 := h.tP; rw [e, h.tB] at h1; cases h1
  · have h1 := h.tP; rw [e, h.tM] at h1; cases h1
  · have h1 := h.tB; rw [e, h.tM] at h1; cases h1
theorem SbX.lo (h : SbX w0 w P B M tg f s) {b : Nat} (hb : tg b ≠ .no) : w0.heap.size ≤ b := (h.own b hb).1
/-- A store into the tasks' row. -/
theorem SbX.turnT (h : SbX w0 w P B M tg f s) (ho : Only (fun b => b = B) w w') {T : Tk} (hT : TRow w' B s.n T) : SbX w0 w' P B M tg f { s with T := T } := by
  obtain ⟨n1, n2, n3⟩ := h.ne
  have hk : ∀ b, tg b ≠ .no → b ≠ B → w'.heap[b]? = w.heap[b]? := fun b h1 h2 => ho.block b (h.own b h1).2 h2
  have kP := hk P (by rw [h.tP]; simp) n1
  have kM := hk M (by rw [h.tM]; simp) (fun e => n3 e.symm)
  exact ⟨fun b h1 => ⟨(h.own b h1).1, Nat.lt_of_lt_of_le (h.own b h1).2 ho.size⟩, ho.below h.bel fun b e => e ▸ h.lo (by rw [h.tB]; simp), h.tP, h.tB, h.tM, (World.cell?_of_block (a := ⟨P, 0, none⟩) kP).trans h.p0, (World.cell?_of_block (a := ⟨P, 1, none⟩) kP).trans h.p1, hT,
    by obtain ⟨S, hm⟩ := h.map; exact ⟨S, hm.of_block kM⟩, fun l => (h.row l).keep fun b e => ⟨hk b (by rw [e]; simp) (fun e2 => by rw [e2, h.tB] at e; cases e), e⟩, h.fit, h.few, h.n64⟩
/-- A row of a lock is written in place: its entry stays. -/
theorem SbX.turnR (h : SbX w0 w P B M tg f s) {l : Int} {G c : Nat} (hl : (f l).getD (.slice none 0 0) = .slice (some ⟨G, 0, none⟩) (s.cl l).length c) (hG : tg G = .row l) (ho : Only (fun b => b = G) w w') {ys : List Cl} (hy : QRow w' G c ys) (hlen : ys.length = (s.cl l).length) (hfit : ∀ c ∈ ys, c.task < s.n) :
    SbX w0 w' P B M tg f (s.setL l ys) := by
  have hk : ∀ b, tg b ≠ .no → b ≠ G → w'.heap[b]? = w.heap[b]? := fun b h1 h2 => ho.block b (h.own b h1).2 h2
  have kP := hk P (by rw [h.tP]; simp) (fun e => by rw [← e, h.tP] at hG; cases hG)
  have kB := hk B (by rw [h.tB]; simp) (fun e => by rw [← e, h.tB] at hG; cases hG)
  have kM := hk M (by rw [h.tM]; simp) (fun e => by rw [← e, h.tM] at hG; cases hG)
  refine ⟨fun b h1 => ⟨(h.own b h1).1, Nat.lt_of_lt_of_le (h.own b h1).2 ho.size⟩, ho.below h.bel fun b e => e ▸ h.lo (by rw [hG]; simp), h.tP, h.tB, h.tM, (World.cell?_of_block (a := ⟨P, 0, none⟩) kP).trans h.p0, (World.cell?_of_block (a := ⟨P, 1, none⟩) kP).trans h.p1, h.tsk.of_block kB,
    by obtain ⟨S, hm⟩ := h.map; exact ⟨S, hm.of_block kM⟩, fun x => ?_, fun x => ?_, fun x => ?_, h.n64⟩
  · by_cases e : x = l
    · subst e
      show CS w' tg x (f x) (upc s.cl x ys x)
      rw [upc_self]
      exact ⟨some G, c, by rw [hl, hlen]; rfl, hy, fun G' e => by injection e with e; exact e ▸ hG⟩
    · show CS w' tg x (f x) (upc s.cl l ys x)
      rw [upc_ne e]
      exact (h.row x).keep fun b e2 => ⟨hk b (by rw [e2]; simp) (fun e3 => by rw [e3, hG] at e2; injection e2 with e2; exact e e2.symm), e2⟩
  · show ∀ c ∈ upc s.cl l ys x, c.task < s.n
    unfold upc; split
    · exact hfit
    · exact h.fit x
  · show (upc s.cl l ys x).length ≤ s.N
    unfold upc; split
    · rw [hlen]; exact h.few l
    · exact h.few x
end
abbrev No : Nat → Prop := fun _ => False
def Same (X : Nat → Prop) (w w' : World) : Prop := ∀ b, X b → w'.heap[b]? = w.heap[b]?
/-- A schedule that the call made behind w0; the blocks X are not its. -/
def SY (w0 w : World) (P : Nat) (X : Nat → Prop) (s : Sd) : Prop := ∃ B M tg f, SbX w0 w P B M tg f s ∧ ∀ b, X b → b < w.heap.size ∧ tg b = .no
section
variable {w0 w w' : World} {P : Nat} {X Y : Nat → Prop} {s : Sd}
theorem SY.bel (h : SY w0 w P X s) : Below w0.heap.size w0 w := by obtain ⟨_, _, _, _, h, _⟩ := h; exact h.bel
theorem SY.weaken (h : SY w0 w P X s) (hY : ∀ b, Y b → X b) : SY w0 w P Y s := by obtain ⟨B, M, tg, f, h, hx⟩ := h; exact ⟨B, M, tg, f, h, fun b hb => hx b (hY b hb)⟩
theorem SY.forget (h : SY w0 w P X s) : SY w0 w P No s := h.weaken fun _ h => h.elim
theorem SY.over (h : SY w0 w P X s) (hb : Below w.heap.size w w') : SY w0 w' P (fun b => X b ∨ (w.heap.size ≤ b ∧ b < w'.heap.size)) s := by
  obtain ⟨B, M, tg, f, h, hx⟩ := h
  refine ⟨B, M, tg, f, h.below hb, fun b hb2 => ?_⟩
  rcases hb2 with h1 | ⟨h1, h2⟩
  · exact ⟨Nat.lt_of_lt_of_le (hx b h1).1 hb.size, (hx b h1).2⟩
  · refine ⟨h2, Classical.byContradiction fun e => ?_⟩
    have := (h.own b e).2
    omega
theorem SY.below (h : SY w0 w P X s) (hb : Below w.heap.size w w') : SY w0 w' P X s := (h.over hb).weaken fun _ h => .inl h
/-- What is protected may be turned by others. -/
theorem SY.turn (h : SY w0 w P X s) {F : Nat → Prop} (ho : Only F w w') (hF : ∀ b, F b → X b ∧ w0.heap.size ≤ b) : SY w0 w' P X s := by
  obtain ⟨B, M, tg, f, h, hx⟩ := h
  exact ⟨B, M, tg, f, h.apart ho fun b hb => ⟨(hF b hb).2, (hx b (hF b hb).1).2⟩, fun b hb => ⟨Nat.lt_of_lt_of_le (hx b hb).1 ho.size, (hx b hb).2⟩⟩
theorem SY.lt (h : SY w0 w P X s) {b : Nat} (hb : X b) : b < w.heap.size := by obtain ⟨B, M, tg, f, h, hx⟩ := h; exact (hx b hb).1
end

end Go.Proofs.Ytlplbpilpkmoaaa.sc
