/- Words for memory: rows of names and numbers of the call's own; worlds that turn nothing below. -/
import Derived.Test.YtchjidijgdkhoaaRows
import Derived.Test.YtchjidijgdkhoaaEnts
import Derived.WalkKit
import Derived.WalkSpells
import Derived.WalkLawsBesides
import Derived.Lib.Hide
import Derived.Deep.LoopGhost
import Derived.Deep.DeepMust
import Derived.Deep.DeepFit
import Derived.Deep.QuietTactic
import Derived.BigQuiet
import Derived.Below
import Derived.Deep.DeepCutAuto
import Derived.Deep.OwnRows
import Derived.Laws.AppendOwn
import Derived.Laws.CopyRow
import Derived.Laws.IdiomCopy
import Derived.Deep.AppendLies
import Derived.Shelf.Abstract
namespace Go.Proofs.Ytchjidijgdkhoaa
open Go.RowKit
set_option linter.unusedVariables false

abbrev Sv (s : ByteArray) : Value := .string s
abbrev Ev (x : En) : Value := .agg #[.string x.1, .int .i64 x.2]
theorem below_alloc (w : World) (o : Obj) : Below w.heap.size w (w.alloc o) := (Below.refl _ _).alloc (Nat.le_refl _) _
theorem below_step {w0 w w' : World} (h : Below w0.heap.size w0 w) (hb : Below w.heap.size w w') : Below w0.heap.size w0 w' := h.trans (hb.mono h.size)
theorem below_drewN {B : Nat} {a w : World} (h : Below B a w) (n : Nat) : Below B a (w.drewN n) := ⟨h.os, h.tape, h.output, h.size, h.block⟩
def RetB (w : World) (b : Bool) (e : Ending) (w' : World) : Prop := e = .returned (.bool b) ∧ Below w.heap.size w w'
def RetI (w : World) (v : Int) (e : Ending) (w' : World) : Prop := e = .returned (.int .i64 v) ∧ Below w.heap.size w w'
def RetV (w : World) (v : Value) (e : Ending) (w' : World) : Prop := e = .returned v ∧ Below w.heap.size w w'

/-- A world that came of w and has turned nothing that lay in it: one name for both. -/
structure BelowOf (w : World) where
  W : World
  h : Below w.heap.size w W
instance (w : World) : Inhabited (BelowOf w) := ⟨⟨w, Below.refl _ _⟩⟩
theorem wp_region_below {id : Nat} {Q : Exit → Act → World → Prop} {a : Act} {w : World} {l : List Oper} (hm : Try.prog.follows .mixedOrders = true) (hB : Region.lexB .any l.toArray = true)
    (h : wpQuiet Try.prog l.toArray (fun w' => ∃ p : BelowOf w, w' = p.W) (fun a' => ∀ w', (∃ p : BelowOf w, w' = p.W) → Q .normal a' w') l a) : (Code.region id l.toArray true).wp Try.prog Q a w :=
  wp_region_quiet (C := fun w' => ∃ p : BelowOf w, w' = p.W) hm hB ⟨⟨w.drew, (Below.refl _ _).drew⟩, rfl⟩ (by simpa using h)
theorem calls_below {f : FuncId} {args : Array Value} {w : World} (p : BelowOf w) {v : Value}
    (h : Calls Try.prog f args p.W fun e w' => e = .returned v ∧ Below p.W.heap.size p.W w') : Calls Try.prog f args p.W fun e w'' => e = .returned v ∧ ∃ q : BelowOf w, w'' = q.W :=
  h.mono fun _ w' ⟨he, hb⟩ => ⟨he, ⟨w', below_step p.h hb⟩, rfl⟩

/-! ### rows -/
def encL : List En → List Value
  | [] => []
  | x :: l => .string x.1 :: .int .i64 x.2 :: encL l
theorem encL_length (L : List En) : (encL L).length = L.length * 2 := by
  induction L with
  | nil => rfl
  | cons x l ih => simp [encL, ih]; omega
theorem encL_append (L K : List En) : encL (L ++ K) = encL L ++ encL K := by
  induction L with
  | nil => rfl
  | cons x l ih => simp [encL, ih]
theorem encL_at {L : List En} {i : Nat} {x : En} (h : L[i]? = some x) : (encL L)[i * 2]? = some (.string x.1) ∧ (encL L)[i * 2 + 1]? = some (.int .i64 x.2) := by
  induction L generalizing i with
  | nil => simp at h
  | cons y l ih =>
    cases i with
    | zero => simp at h; subst h; exact ⟨rfl, rfl⟩
    | succ i =>
      have := ih (i := i) (by simpa using h)
      rw [show (i + 1) * 2 = i * 2 + 1 + 1 by omega]
      simpa [encL] using this
theorem encL_take (L : List En) (i : Nat) : (encL L).take (i * 2) = encL (L.take i) := by
  induction L generalizing i with
  | nil => simp [encL]
  | cons x l ih =>
    cases i with
    | zero => simp [encL]
    | succ i => rw [show (i + 1) * 2 = i * 2 + 1 + 1 by omega]; simp [encL, ih]
theorem encL_drop (L : List En) (i : Nat) : (encL L).drop (i * 2) = encL (L.drop i) := by
  induction L generalizing i with
  | nil => simp [encL]
  | cons x l ih =>
    cases i with
    | zero => simp
    | succ i => rw [show (i + 1) * 2 = i * 2 + 1 + 1 by omega]; simp [encL, ih]
theorem encL_one (L : List En) : ∀ v ∈ encL L, v.oneCell' = true := by
  induction L with
  | nil => simp [encL]
  | cons x l ih =>
    intro v hv
    simp only [encL, List.mem_cons] at hv
    rcases hv with rfl | rfl | hv
    · rfl
    · rfl
    · exact ih v hv

/-- Block G is a row of c items, the first of which are L. -/
def ERow (w : World) (G c : Nat) (L : List En) : Prop := L.length ≤ c ∧ c ≤ maxLen ∧ ∃ X : List Value, w.heap[G]? = some (.cells X.toArray 37 (0, 0)) ∧ X.length = c * 2 ∧ X.take (L.length * 2) = encL L
theorem ERow.cells {w : World} {G c : Nat} {L : List En} (h : ERow w G c L) {j : Nat} {v : Value} (hj : (encL L)[j]? = some v) : w.cell? ⟨G, j, none⟩ = some v := by
  obtain ⟨h1, h2, X, hX, hl, ht⟩ := h
  have hj' : j < L.length * 2 := by rw [← encL_length]; exact (List.getElem?_eq_some_iff.1 hj).1
  rw [← ht, List.getElem?_take_of_lt hj'] at hj
  simp [World.cell?, hX, hj]
theorem ERow.at_ {w : World} {G c : Nat} {L : List En} (h : ERow w G c L) {i : Nat} {x : En} (hx : L[i]? = some x) : w.cell? ⟨G, i * 2, none⟩ = some (.string x.1) ∧ w.cell? ⟨G, i * 2 + 1, none⟩ = some (.int .i64 x.2) :=
  ⟨h.cells (encL_at hx).1, h.cells (encL_at hx).2⟩
theorem ERow.some_ {w : World} {G c : Nat} {L : List En} (h : ERow w G c L) {j : Nat} (hj : j < c * 2) : (w.cell? ⟨G, j, none⟩).isSome = true := by
  obtain ⟨h1, h2, X, hX, hl, ht⟩ := h
  simp [World.cell?, hX, hl, hj]
theorem ERow.frozen {w : World} {G c : Nat} {L : List En} (h : ERow w G c L) (o : Nat) : w.frozen? ⟨G, o, none⟩ = false := by
  obtain ⟨h1, h2, X, hX, hl, ht⟩ := h
  simp [World.frozen?, hX]
theorem ERow.lt {w : World} {G c : Nat} {L : List En} (h : ERow w G c L) : G < w.heap.size := by
  obtain ⟨h1, h2, X, hX, hl, ht⟩ := h
  exact (Array.getElem?_eq_some_iff.1 hX).1
theorem ERow.of_block {w w' : World} {G c : Nat} {L : List En} (h : ERow w G c L) (e : w'.heap[G]? = w.heap[G]?) : ERow w' G c L := by
  obtain ⟨h1, h2, X, hX, r⟩ := h
  exact ⟨h1, h2, X, e.trans hX, r⟩
theorem ERow.shape {w : World} {G c : Nat} {L : List En} (h : ERow w G c L) : w.shape? G = some (37, c * 2) := by
  obtain ⟨h1, h2, X, hX, hl, ht⟩ := h
  simp [World.shape?, hX, hl]
theorem ERow.owns {w : World} {G c lo : Nat} {L : List En} (h : ERow w G c L) (hlo : lo ≤ G) : w.ownsRow lo 37 2 (.slice (some ⟨G, 0, none⟩) L.length c) L.length (encL L) := by
  obtain ⟨h1, h2, X, hX, hl, ht⟩ := h
  exact ⟨encL_length L, .inr ⟨G, c, X.toArray, rfl, hlo, hX, h1, h2, by simpa using hl, by simpa using ht⟩⟩
theorem ERow.of_owns {w : World} {G c n lo : Nat} {L : List En} (h : w.ownsRow lo 37 2 (.slice (some ⟨G, 0, none⟩) n c) n (encL L)) (hn : n = L.length) : ERow w G c L ∧ lo ≤ G := by
  subst hn
  rcases h.2 with ⟨e, _⟩ | ⟨G', c', cur, hv, hb, hg, h1, h2, hs, ht⟩
  · cases e
  · injection hv with e1 e2 e3
    injection e1 with e1
    injection e1 with e1
    subst e1; subst e3
    exact ⟨⟨h1, h2, cur.toList, by simpa using hg, by simpa using hs, ht⟩, hb⟩

/-- The world behind a store of many cells, told by its rows. -/
theorem setCells_row {w : World} {G o : Nat} {X : List Value} {t : TypeId} {vs : List Value} (hX : w.heap[G]? = some (.cells X.toArray t (0, 0))) (hfit : o + vs.length ≤ X.length) (h1 : ∀ v ∈ vs, v.oneCell' = true) :
    w.setCells G o vs = w.setRow G (X.take o ++ vs ++ X.drop (o + vs.length)).toArray := by
  have a := run_storeCells_at Try.prog G o t vs 0 X.toArray w hX (by simpa using hfit) h1
  have b := run_storeCells_cells (P := Try.prog) G o vs 0 w (fun j hj => by simp [World.cell?, hX]; omega) (fun j hj => by simp [World.frozen?, hX]) h1
  rw [a] at b
  simp only [Nat.add_zero] at b
  injection b with _ b
  exact b.symm
theorem ERow.sets {w : World} {G c o : Nat} {L K : List En} {vs : List Value} (h : ERow w G c L) (hfit : o + vs.length ≤ c * 2) (h1 : ∀ v ∈ vs, v.oneCell' = true) (hK : K.length ≤ c)
    (e : ∀ X : List Value, X.length = c * 2 → X.take (L.length * 2) = encL L → (X.take o ++ vs ++ X.drop (o + vs.length)).take (K.length * 2) = encL K) : ERow (w.setCells G o vs) G c K := by
  obtain ⟨a, b, X, hX, hl, ht⟩ := h
  rw [setCells_row hX (by rw [hl]; exact hfit) h1]
  refine ⟨hK, b, _, setRow_heap w G _ _ 37 _ hX, ?_, e X hl ht⟩
  simp
  omega
theorem sets_other {w : World} {G o : Nat} {vs : List Value} (k : Nat) (hk : k ≠ G) : (w.setCells G o vs).heap[k]? = w.heap[k]? := by
  induction vs generalizing o w with
  | nil => rfl
  | cons v r ih => rw [World.setCells, ih, Below.heap_setCell _ _ _ _ (fun e => hk e)]
theorem grownBy_trans {w w1 w2 : World} {r : Option Nat} (h : w.grownBy w1 r) (h' : w1.grownBy w2 r) : w.grownBy w2 r :=
  ⟨h'.os.trans h.os, h'.tape.trans h.tape, h'.output.trans h.output, Nat.le_trans h.size h'.size, fun k hk hr => (h'.block k (Nat.lt_of_lt_of_le hk h.size) hr).trans (h.block k hk hr)⟩
theorem grownBy_refl (w : World) (r : Option Nat) : w.grownBy w r := ⟨rfl, rfl, rfl, Nat.le_refl _, fun _ _ _ => rfl⟩
theorem grownBy_below {w w' : World} (h : Below w.heap.size w w') (r : Option Nat) : w.grownBy w' r := ⟨h.os, h.tape, h.output, h.size, fun k hk _ => h.block k hk⟩
theorem grownBy_set (w : World) (G o : Nat) (v : Value) : w.grownBy (w.setCell ⟨G, o, none⟩ v) (some G) :=
  ⟨rfl, rfl, rfl, by simp [World.setCell], fun k _ hr => Below.heap_setCell _ _ _ _ (fun e => hr (by rw [e]))⟩
theorem grownBy_sets (G : Nat) : ∀ (vs : List Value) (o : Nat) (w : World), w.grownBy (w.setCells G o vs) (some G)
  | [], _, w => grownBy_refl w _
  | v :: r, o, w => grownBy_trans (grownBy_set w G o v) (grownBy_sets G r (o + 1) _)
theorem grownBy_drew (w : World) (r : Option Nat) : w.grownBy w.drew r := ⟨rfl, rfl, rfl, Nat.le_refl _, fun _ _ _ => rfl⟩
theorem grownBy_none {w w' : World} (h : w.grownBy w' none) : Below w.heap.size w w' := ⟨h.os, h.tape, h.output, h.size, fun k hk => h.block k hk (by simp)⟩

theorem info37 : (Try.prog.info? 37).map (fun i => (i.zero, i.size, i.bytes)) = some (some (.agg #[.string ByteArray.empty, .int .i64 0]), 2, 24) := by kernel_rfl

/-- 'copy' of items of two cells. -/
theorem run_copy2 (w : World) (dT sT ty : TypeId) (b o dLen dCap : Nat) (a : Addr) (sLen sCap m : Nat) (cs : List Value)
    (hu : Try.prog.underlying dT = some (.slice 37)) (hm : m = Nat.min sLen dLen) (hn : cs.length = m * 2)
    (hsrc : ∀ j v, cs[j]? = some v → w.cell? (a.add j) = some v) (hc : ∀ j, j < cs.length → (w.cell? ⟨b, o + j, none⟩).isSome = true) (hf : ∀ j, j < cs.length → w.frozen? ⟨b, o + j, none⟩ = false) (h1 : ∀ v ∈ cs, v.oneCell' = true) :
    (Builtin.copy_ #[dT, sT] ty #[.slice (some ⟨b, o, none⟩) dLen dCap, .slice (some a) sLen sCap]).run Try.prog w = .ok (goInt m) (w.setCells b o cs) := by
  have hl := run_loadCells_list (P := Try.prog) w a cs hsrc
  have hst := run_storeCells_cells (P := Try.prog) b o cs 0 w (by simpa using hc) (by simpa using hf) h1
  obtain ⟨i0, hi, hz0, hz1, hz2⟩ := info_parts info37
  subst hm
  simp [Builtin.copy_, run_underlying hu, Builtin.lenOf, Builtin.firstCells, sizeOf, typeInfo, hi, hz1, ← hn, hl, hst]
end Go.Proofs.Ytchjidijgdkhoaa
