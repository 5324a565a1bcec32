/- Plain facts: rows of names and numbers, rising by name; what setting, taking away and asking come to. Words for memory: rows of names and numbers of the call's own; worlds that turn nothing below. The binary search and its closures; 'place', 'Get', 'Len'. 'place', 'Get', 'Len' of a directory. 'Get', 'Len', 'Next' of a directory. -/
import Derived.Lib.Strings
import Derived.Test.YtnnaoldpacbagaaGreatRows
import Derived.WalkKit
import Derived.WalkSpells
import Derived.WalkLawsBesides
import Derived.Lib.Hide
import Derived.Deep.LoopGhost
import Derived.Deep.DeepMust
import Derived.Deep.DeepFit
import Derived.Deep.QuietTactic
import Derived.BigQuiet
import Derived.Below
import Derived.Deep.DeepCutAuto
import Derived.Deep.OwnRows
import Derived.Laws.AppendOwn
import Derived.Laws.CopyRow
import Derived.Laws.IdiomCopy
import Derived.Deep.AppendLies
import Derived.Shelf.Abstract
section
namespace Go.Proofs.YtnnaoldpacbagaaGreat.dn


abbrev Bs := List UInt8
abbrev En := ByteArray × Int
def lessB (a b : ByteArray) : Bool := Op.bytesLess a.toList b.toList

theorem bl_irrefl (a : Bs) : Op.bytesLess a a = false := by
  induction a with
  | nil => rfl
  | cons x a ih => simp [Op.bytesLess, ih]
theorem bl_total (a b : Bs) (h : a ≠ b) : Op.bytesLess a b = !Op.bytesLess b a := by
  induction a generalizing b with
  | nil =>
    cases b with
    | nil => exact absurd rfl h
    | cons y b => rfl
  | cons x a ih =>
    cases b with
    | nil => rfl
    | cons y b =>
      by_cases hxy : x = y
      · subst hxy
        simp [Op.bytesLess, ih b (fun e => h (by rw [e]))]
      · have h1 : x.toNat ≠ y.toNat := fun e => hxy (UInt8.toNat_inj.1 e)
        have h2 : (x == y) = false := by simpa using hxy
        have h3 : (y == x) = false := by simpa using fun e => hxy e.symm
        simp only [Op.bytesLess, h2, h3, Bool.false_and, Bool.or_false]
        rcases Nat.lt_or_ge x.toNat y.toNat with h | h
        · have a1 : x < y := UInt8.lt_iff_toNat_lt.2 h
          have a2 : ¬ y < x := fun e => by have := UInt8.lt_iff_toNat_lt.1 e; omega
          simp [a1, a2]
        · have a1 : y < x := UInt8.lt_iff_toNat_lt.2 (by omega)
          have a2 : ¬ x < y := fun e => by have := UInt8.lt_iff_toNat_lt.1 e; omega
          simp [a1, a2]
theorem bl_trans (a b c : Bs) (h1 : Op.bytesLess a b = true) (h2 : Op.bytesLess b c = true) : Op.bytesLess a c = true := by
  induction a generalizing b c with
  | nil =>
    cases c with
    | nil => cases b <;> simp [Op.bytesLess] at h2
    | cons z c => rfl
  | cons x a ih =>
    cases b with
    | nil => simp [Op.bytesLess] at h1
    | cons y b =>
      cases c with
      | nil => simp [Op.bytesLess] at h2
      | cons z c =>
        simp only [Op.bytesLess, Bool.or_eq_true, Bool.and_eq_true, decide_eq_true_eq, beq_iff_eq, UInt8.lt_iff_toNat_lt] at h1 h2 ⊢
        rcases h1 with h1 | ⟨rfl, h1⟩
        · rcases h2 with h2 | ⟨rfl, h2⟩
          · exact .inl (by omega)
          · exact .inl h1
        · rcases h2 with h2 | ⟨rfl, h2⟩
          · exact .inl h2
          · exact .inr ⟨rfl, ih b c h1 h2⟩

theorem toList_inj {a b : ByteArray} (h : a.toList = b.toList) : a = b := by
  rw [Lib.toList_data, Lib.toList_data] at h
  rw [← Lib.mk_data a, ← Lib.mk_data b, h]
theorem beq_names (a b : ByteArray) : (a.toList == b.toList) = decide (a = b) := by
  by_cases h : a = b
  · subst h; simp
  · rw [decide_eq_false h, beq_eq_false_iff_ne]; exact fun e => h (toList_inj e)
theorem less_irrefl (a : ByteArray) : lessB a a = false := bl_irrefl _
theorem less_total {a b : ByteArray} (h : a ≠ b) : lessB a b = !lessB b a := bl_total _ _ fun e => h (toList_inj e)
theorem less_trans {a b c : ByteArray} (h1 : lessB a b = true) (h2 : lessB b c = true) : lessB a c = true := bl_trans _ _ _ h1 h2
theorem less_ne {a b : ByteArray} (h : lessB a b = true) : a ≠ b := fun e => by subst e; rw [less_irrefl] at h; cases h
theorem less_asymm {a b : ByteArray} (h : lessB a b = true) : lessB b a = false := by
  rw [less_total (less_ne h)] at h; simpa using h
theorem less_of {a b : ByteArray} (h1 : a ≠ b) (h2 : lessB a b = false) : lessB b a = true := by
  rw [less_total h1] at h2; simpa using h2

def Sorted (L : List En) : Prop := L.Pairwise fun a b => lessB a.1 b.1 = true

def lset (s : ByteArray) (v : Int) : List En → List En
  | [] => [(s, v)]
  | e :: l => if lessB e.1 s then e :: lset s v l else if e.1 = s then (s, v) :: l else (s, v) :: e :: l
def lget (s : ByteArray) (L : List En) : Option Int := (L.find? fun e => decide (e.1 = s)).map (·.2)
def ldel (s : ByteArray) (L : List En) : List En := L.filter fun e => !decide (e.1 = s)
def lnext (s : ByteArray) (L : List En) : Option En := L.find? fun e => lessB s e.1

theorem Sorted.cons {e : En} {l : List En} (h : Sorted (e :: l)) : Sorted l ∧ ∀ x ∈ l, lessB e.1 x.1 = true := ⟨(List.pairwise_cons.1 h).2, (List.pairwise_cons.1 h).1⟩
theorem lset_mem {s : ByteArray} {v : Int} {L : List En} (h : Sorted L) (e : En) : e ∈ lset s v L ↔ e = (s, v) ∨ (e ∈ L ∧ e.1 ≠ s) := by
  induction L with
  | nil => simp [lset]
  | cons x l ih =>
    obtain ⟨h1, h2⟩ := h.cons
    unfold lset
    by_cases hx : lessB x.1 s = true
    · rw [if_pos hx, List.mem_cons, ih h1, List.mem_cons]
      have hne := less_ne hx
      constructor
      · rintro (rfl | h | ⟨h, h'⟩)
        · exact .inr ⟨.inl rfl, hne⟩
        · exact .inl h
        · exact .inr ⟨.inr h, h'⟩
      · rintro (h | ⟨rfl | h, h'⟩)
        · exact .inr (.inl h)
        · exact .inl rfl
        · exact .inr (.inr ⟨h, h'⟩)
    · rw [if_neg hx]
      by_cases hs : x.1 = s
      · rw [if_pos hs, List.mem_cons, List.mem_cons]
        constructor
        · rintro (h | h)
          · exact .inl h
          · exact .inr ⟨.inr h, fun e' => less_ne (h2 e h) (hs.trans e'.symm)⟩
        · rintro (h | ⟨rfl | h, h'⟩)
          · exact .inl h
          · exact absurd hs h'
          · exact .inr h
      · rw [if_neg hs, List.mem_cons, List.mem_cons]
        have hsx : lessB s x.1 = true := less_of hs (by simpa using hx)
        constructor
        · rintro (h | rfl | h)
          · exact .inl h
          · exact .inr ⟨.inl rfl, hs⟩
          · exact .inr ⟨.inr h, fun e' => less_ne (less_trans hsx (h2 e h)) e'.symm⟩
        · rintro (h | ⟨h, _⟩)
          · exact .inl h
          · exact .inr h
theorem lset_sorted {s : ByteArray} {v : Int} {L : List En} (h : Sorted L) : Sorted (lset s v L) := by
  induction L with
  | nil => simp [lset, Sorted]
  | cons x l ih =>
    obtain ⟨h1, h2⟩ := h.cons
    unfold lset
    by_cases hx : lessB x.1 s = true
    · rw [if_pos hx]
      refine List.pairwise_cons.2 ⟨fun e he => ?_, ih h1⟩
      rcases (lset_mem h1 e).1 he with rfl | ⟨he, _⟩
      · exact hx
      · exact h2 e he
    · rw [if_neg hx]
      by_cases hs : x.1 = s
      · rw [if_pos hs]
        exact List.pairwise_cons.2 ⟨fun e he => by have := h2 e he; rw [hs] at this; exact this, h1⟩
      · rw [if_neg hs]
        have hsx : lessB s x.1 = true := less_of hs (by simpa using hx)
        refine List.pairwise_cons.2 ⟨fun e he => ?_, h⟩
        rcases List.mem_cons.1 he with rfl | he
        · exact hsx
        · exact less_trans hsx (h2 e he)
theorem ldel_mem {s : ByteArray} {L : List En} (e : En) : e ∈ ldel s L ↔ e ∈ L ∧ e.1 ≠ s := by simp [ldel, List.mem_filter]
theorem ldel_sorted {s : ByteArray} {L : List En} (h : Sorted L) : Sorted (ldel s L) := List.Pairwise.filter _ h
theorem names_inj {L : List En} (h : Sorted L) {a b : En} (ha : a ∈ L) (hb : b ∈ L) (e : a.1 = b.1) : a = b := by
  induction L with
  | nil => cases ha
  | cons x l ih =>
    obtain ⟨h1, h2⟩ := h.cons
    rcases List.mem_cons.1 ha with rfl | ha' <;> rcases List.mem_cons.1 hb with rfl | hb'
    · rfl
    · exact absurd e (less_ne (h2 b hb'))
    · exact absurd e.symm (less_ne (h2 a ha'))
    · exact ih h1 ha' hb'
theorem lget_some {s : ByteArray} {v : Int} {L : List En} (h : Sorted L) : lget s L = some v ↔ (s, v) ∈ L := by
  unfold lget
  constructor
  · intro e
    cases hf : L.find? fun e => decide (e.1 = s) with
    | none => rw [hf] at e; simp at e
    | some x =>
      rw [hf] at e
      have h1 := List.mem_of_find?_eq_some hf
      have h2 := List.find?_some hf
      simp at h2 e
      obtain ⟨a, b⟩ := x
      simp at h2 e
      subst h2; subst e
      exact h1
  · intro hm
    cases hf : L.find? fun e => decide (e.1 = s) with
    | none =>
      have := List.find?_eq_none.1 hf (s, v) hm
      simp at this
    | some x =>
      have h1 := List.mem_of_find?_eq_some hf
      have h2 := List.find?_some hf
      simp at h2
      have := names_inj h h1 hm h2
      subst this
      rfl
theorem lget_none {s : ByteArray} {L : List En} : lget s L = none ↔ ∀ e ∈ L, e.1 ≠ s := by simp [lget]
theorem sorted_ext {L K : List En} (hL : Sorted L) (hK : Sorted K) (h : ∀ e, e ∈ L ↔ e ∈ K) : L = K := by
  induction L generalizing K with
  | nil =>
    cases K with
    | nil => rfl
    | cons y k => have := (h y).2 (by simp); cases this
  | cons x l ih =>
    cases K with
    | nil => have := (h x).1 (by simp); cases this
    | cons y k =>
      obtain ⟨l1, l2⟩ := hL.cons
      obtain ⟨k1, k2⟩ := hK.cons
      have hxy : x = y := by
        rcases List.mem_cons.1 ((h x).1 (by simp)) with e | e1
        · exact e
        · rcases List.mem_cons.1 ((h y).2 (by simp)) with e | e2
          · exact e.symm
          · have := less_asymm (l2 y e2); rw [k2 x e1] at this; cases this
      subst hxy
      refine congrArg _ (ih l1 k1 fun e => ⟨fun he => ?_, fun he => ?_⟩)
      · rcases List.mem_cons.1 ((h e).1 (by simp [he])) with rfl | h'
        · have := l2 e he; rw [less_irrefl] at this; cases this
        · exact h'
      · rcases List.mem_cons.1 ((h e).2 (by simp [he])) with rfl | h'
        · have := k2 e he; rw [less_irrefl] at this; cases this
        · exact h'

/-- The place at which a name stands, or would stand. -/
def pos (s : ByteArray) : List En → Nat
  | [] => 0
  | e :: l => if lessB e.1 s then pos s l + 1 else 0
theorem pos_le (s : ByteArray) (L : List En) : pos s L ≤ L.length := by
  induction L with
  | nil => exact Nat.le_refl _
  | cons x l ih => unfold pos; split <;> simp <;> omega
theorem pos_lt {s : ByteArray} {L : List En} {i : Nat} (hi : i < pos s L) {x : En} (hx : L[i]? = some x) : lessB x.1 s = true := by
  induction L generalizing i with
  | nil => simp [pos] at hi
  | cons y l ih =>
    unfold pos at hi
    split at hi
    · rename_i h
      cases i with
      | zero => simp at hx; subst hx; exact h
      | succ i => exact ih (i := i) (by omega) (by simpa using hx)
    · omega
theorem pos_ge {s : ByteArray} {L : List En} (hs : Sorted L) {i : Nat} (hi : pos s L ≤ i) {x : En} (hx : L[i]? = some x) : lessB x.1 s = false := by
  induction L generalizing i with
  | nil => simp at hx
  | cons y l ih =>
    obtain ⟨h1, h2⟩ := hs.cons
    unfold pos at hi
    split at hi
    · cases i with
      | zero => omega
      | succ i => exact ih (i := i) h1 (by omega) (by simpa using hx)
    · rename_i h
      cases i with
      | zero => simp at hx; subst hx; simpa using h
      | succ i =>
        have hm : x ∈ l := List.mem_of_getElem? (by simpa using hx)
        rw [Bool.eq_false_iff]
        intro hc
        exact h (less_trans (h2 x hm) hc)
/-- What a name leads to. -/
theorem lget_pos {s : ByteArray} {L : List En} (hs : Sorted L) : lget s L = match L[pos s L]? with | some x => if x.1 = s then some x.2 else none | none => none := by
  cases hx : L[pos s L]? with
  | none =>
    simp only
    rw [lget_none]
    intro e he hn
    obtain ⟨i, hi, rfl⟩ := List.getElem_of_mem he
    have hl : L.length ≤ pos s L := by simpa using hx
    have := pos_lt (s := s) (L := L) (i := i) (by omega) (List.getElem?_eq_getElem hi)
    exact less_ne this hn
  | some x =>
    simp only
    split
    · rename_i hn
      rw [lget_some hs, ← hn]
      exact List.mem_of_getElem? hx
    · rename_i hn
      rw [lget_none]
      intro e he hne
      obtain ⟨i, hi, rfl⟩ := List.getElem_of_mem he
      rcases Nat.lt_trichotomy i (pos s L) with h | h | h
      · exact less_ne (pos_lt h (List.getElem?_eq_getElem hi)) hne
      · subst h
        rw [List.getElem?_eq_getElem hi] at hx
        simp at hx
        exact hn (by rw [← hx]; exact hne)
      · have h1 := List.pairwise_iff_getElem.1 hs (pos s L) i (by omega) hi h
        have h2 : L[pos s L] = x := by rw [List.getElem?_eq_getElem (by omega)] at hx; simpa using hx
        have h3 := pos_ge hs (Nat.le_refl _) hx
        rw [h2, hne] at h1
        rw [h1] at h3
        cases h3
theorem lset_new {s : ByteArray} {v : Int} {L : List En} (h : ∀ x, L[pos s L]? = some x → x.1 ≠ s) : lset s v L = L.take (pos s L) ++ (s, v) :: L.drop (pos s L) := by
  induction L with
  | nil => rfl
  | cons y l ih =>
    unfold lset pos
    by_cases hy : lessB y.1 s = true
    · rw [if_pos hy, if_pos hy, List.take_succ_cons, List.drop_succ_cons, List.cons_append, ← ih]
      intro x hx
      refine h x ?_
      unfold pos
      rw [if_pos hy]
      simpa using hx
    · rw [if_neg hy, if_neg hy]
      have : y.1 ≠ s := h y (by unfold pos; rw [if_neg hy]; rfl)
      rw [if_neg this]
      rfl
theorem lset_old {s : ByteArray} {v : Int} {L : List En} {x : En} (h : L[pos s L]? = some x) (hx : x.1 = s) : lset s v L = L.set (pos s L) (s, v) := by
  induction L with
  | nil => simp at h
  | cons y l ih =>
    unfold lset pos
    unfold pos at h
    by_cases hy : lessB y.1 s = true
    · rw [if_pos hy] at h ⊢
      rw [if_pos hy, List.set_cons_succ, ih (by simpa using h)]
    · rw [if_neg hy] at h ⊢
      simp at h
      subst h
      rw [if_neg hy, if_pos hx]
      rfl
theorem ldel_no {s : ByteArray} {L : List En} (h : lget s L = none) : ldel s L = L := by
  rw [lget_none] at h
  unfold ldel
  rw [List.filter_eq_self]
  intro x hx
  simpa using h x hx
theorem ldel_at {s : ByteArray} {L : List En} (hs : Sorted L) {x : En} (h : L[pos s L]? = some x) (hx : x.1 = s) : ldel s L = L.eraseIdx (pos s L) := by
  induction L with
  | nil => simp at h
  | cons y l ih =>
    obtain ⟨h1, h2⟩ := hs.cons
    unfold pos
    unfold pos at h
    by_cases hy : lessB y.1 s = true
    · rw [if_pos hy] at h ⊢
      rw [List.eraseIdx_cons_succ, ← ih h1 (by simpa using h)]
      unfold ldel
      rw [List.filter_cons, if_pos (by simpa using less_ne hy)]
    · rw [if_neg hy] at h ⊢
      simp at h
      subst h
      rw [List.eraseIdx_cons_zero]
      unfold ldel
      rw [List.filter_cons, if_neg (by simpa using hx), List.filter_eq_self]
      intro z hz
      have := less_ne (h2 z hz)
      simpa using fun e => this (hx.trans e.symm)
theorem lset_length (s : ByteArray) (v : Int) (L : List En) : (lset s v L).length ≤ L.length + 1 := by
  induction L with
  | nil => simp [lset]
  | cons y l ih => unfold lset; split <;> (try split) <;> simp <;> omega
theorem ldel_length (s : ByteArray) (L : List En) : (ldel s L).length ≤ L.length := List.length_filter_le _ _

/-- How many names are at most s. -/
def nps (s : ByteArray) : List En → Nat
  | [] => 0
  | e :: l => if lessB s e.1 then 0 else nps s l + 1
theorem nps_le (s : ByteArray) (L : List En) : nps s L ≤ L.length := by
  induction L with
  | nil => exact Nat.le_refl _
  | cons x l ih => unfold nps; split <;> simp <;> omega
theorem nps_lt {s : ByteArray} {L : List En} {i : Nat} (hi : i < nps s L) {x : En} (hx : L[i]? = some x) : lessB s x.1 = false := by
  induction L generalizing i with
  | nil => simp [nps] at hi
  | cons y l ih =>
    unfold nps at hi
    split at hi
    · omega
    · rename_i h
      cases i with
      | zero => simp at hx; subst hx; simpa using h
      | succ i => exact ih (i := i) (by omega) (by simpa using hx)
theorem nps_ge {s : ByteArray} {L : List En} (hs : Sorted L) {i : Nat} (hi : nps s L ≤ i) {x : En} (hx : L[i]? = some x) : lessB s x.1 = true := by
  induction L generalizing i with
  | nil => simp at hx
  | cons y l ih =>
    obtain ⟨h1, h2⟩ := hs.cons
    unfold nps at hi
    split at hi
    · rename_i h
      cases i with
      | zero => simp at hx; subst hx; exact h
      | succ i => exact less_trans h (h2 x (List.mem_of_getElem? (by simpa using hx)))
    · cases i with
      | zero => omega
      | succ i => exact ih (i := i) h1 (by omega) (by simpa using hx)
theorem lnext_nps (s : ByteArray) (L : List En) : lnext s L = L[nps s L]? := by
  unfold lnext
  induction L with
  | nil => rfl
  | cons y l ih =>
    unfold nps
    rw [List.find?_cons]
    by_cases h : lessB s y.1 = true
    · rw [if_pos h, h]; rfl
    · rw [if_neg h, show lessB s y.1 = false by simpa using h]; simpa using ih
end Go.Proofs.YtnnaoldpacbagaaGreat.dn
end
section
namespace Go.Proofs.YtnnaoldpacbagaaGreat.dn
open Go.RowKit
set_option linter.unusedVariables false


abbrev Sv (s : ByteArray) : Value := .string s
abbrev Ev (x : En) : Value := .agg #[.string x.1, .int .i64 x.2]
theorem below_alloc (w : World) (o : Obj) : Below w.heap.size w (w.alloc o) := (Below.refl _ _).alloc (Nat.le_refl _) _
theorem below_step {w0 w w' : World} (h : Below w0.heap.size w0 w) (hb : Below w.heap.size w w') : Below w0.heap.size w0 w' := h.trans (hb.mono h.size)
theorem below_drewN {B : Nat} {a w : World} (h : Below B a w) (n : Nat) : Below B a (w.drewN n) := ⟨h.os, h.tape, h.output, h.size, h.block⟩
def RetB (w : World) (b : Bool) (e : Ending) (w' : World) : Prop := e = .returned (.bool b) ∧ Below w.heap.size w w'
def RetI (w : World) (v : Int) (e : Ending) (w' : World) : Prop := e = .returned (.int .i64 v) ∧ Below w.heap.size w w'
def RetV (w : World) (v : Value) (e : Ending) (w' : World) : Prop := e = .returned v ∧ Below w.heap.size w w'

/-- A world that came of w and has turned nothing that lay in it: one name for both. -/
structure BelowOf (w : World) where
  W : World
  h : Below w.heap.size w W
instance (w : World) : Inhabited (BelowOf w) := ⟨⟨w, Below.refl _ _⟩⟩
set_option maxRecDepth 100000 in
theorem wp_region_below {id : Nat} {Q : Exit → Act → World → Prop} {a : Act} {w : World} {l : List Oper} (hm : Tryz.prog.follows .mixedOrders = true) (hB : Region.lexB .any l.toArray = true)
    (h : wpQuiet Tryz.prog l.toArray (fun w' => ∃ p : BelowOf w, w' = p.W) (fun a' => ∀ w', (∃ p : BelowOf w, w' = p.W) → Q .normal a' w') l a) : (Code.region id l.toArray true).wp Tryz.prog Q a w :=
  wp_region_quiet (C := fun w' => ∃ p : BelowOf w, w' = p.W) hm hB ⟨⟨w.drew, (Below.refl _ _).drew⟩, rfl⟩ (by simpa using h)
set_option maxRecDepth 100000 in
theorem calls_below {f : FuncId} {args : Array Value} {w : World} (p : BelowOf w) {v : Value}
    (h : Calls Tryz.prog f args p.W fun e w' => e = .returned v ∧ Below p.W.heap.size p.W w') : Calls Tryz.prog f args p.W fun e w'' => e = .returned v ∧ ∃ q : BelowOf w, w'' = q.W :=
  h.mono fun _ w' ⟨he, hb⟩ => ⟨he, ⟨w', below_step p.h hb⟩, rfl⟩

/-! ### rows -/
def encL : List En → List Value
  | [] => []
  | x :: l => .string x.1 :: .int .i64 x.2 :: encL l
theorem encL_length (L : List En) : (encL L).length = L.length * 2 := by
  induction L with
  | nil => rfl
  | cons x l ih => simp [encL, ih]; omega
theorem encL_append (L K : List En) : encL (L ++ K) = encL L ++ encL K := by
  induction L with
  | nil => rfl
  | cons x l ih => simp [encL, ih]
theorem encL_at {L : List En} {i : Nat} {x : En} (h : L[i]? = some x) : (encL L)[i * 2]? = some (.string x.1) ∧ (encL L)[i * 2 + 1]? = some (.int .i64 x.2) := by
  induction L generalizing i with
  | nil => simp at h
  | cons y l ih =>
    cases i with
    | zero => simp at h; subst h; exact ⟨rfl, rfl⟩
    | succ i =>
      have := ih (i := i) (by simpa using h)
      rw [show (i + 1) * 2 = i * 2 + 1 + 1 by omega]
      simpa [encL] using this
theorem encL_take (L : List En) (i : Nat) : (encL L).take (i * 2) = encL (L.take i) := by
  induction L generalizing i with
  | nil => simp [encL]
  | cons x l ih =>
    cases i with
    | zero => simp [encL]
    | succ i => rw [show (i + 1) * 2 = i * 2 + 1 + 1 by omega]; simp [encL, ih]
theorem encL_drop (L : List En) (i : Nat) : (encL L).drop (i * 2) = encL (L.drop i) := by
  induction L generalizing i with
  | nil => simp [encL]
  | cons x l ih =>
    cases i with
    | zero => simp
    | succ i => rw [show (i + 1) * 2 = i * 2 + 1 + 1 by omega]; simp [encL, ih]
theorem encL_one (L : List En) : ∀ v ∈ encL L, v.oneCell' = true := by
  induction L with
  | nil => simp [encL]
  | cons x l ih =>
    intro v hv
    simp only [encL, List.mem_cons] at hv
    rcases hv with rfl | rfl | hv
    · rfl
    · rfl
    · exact ih v hv

/-- Block G is a row of c items, the first of which are L. -/
def ERow (w : World) (G c : Nat) (L : List En) : Prop := L.length ≤ c ∧ c ≤ maxLen ∧ ∃ X : List Value, w.heap[G]? = some (.cells X.toArray 108 (0, 0)) ∧ X.length = c * 2 ∧ X.take (L.length * 2) = encL L
theorem ERow.cells {w : World} {G c : Nat} {L : List En} (h : ERow w G c L) {j : Nat} {v : Value} (hj : (encL L)[j]? = some v) : w.cell? ⟨G, j, none⟩ = some v := by
  obtain ⟨h1, h2, X, hX, hl, ht⟩ := h
  have hj' : j < L.length * 2 := by rw [← encL_length]; exact (List.getElem?_eq_some_iff.1 hj).1
  rw [← ht, List.getElem?_take_of_lt hj'] at hj
  simp [World.cell?, hX, hj]
theorem ERow.at_ {w : World} {G c : Nat} {L : List En} (h : ERow w G c L) {i : Nat} {x : En} (hx : L[i]? = some x) : w.cell? ⟨G, i * 2, none⟩ = some (.string x.1) ∧ w.cell? ⟨G, i * 2 + 1, none⟩ = some (.int .i64 x.2) :=
  ⟨h.cells (encL_at hx).1, h.cells (encL_at hx).2⟩
theorem ERow.some_ {w : World} {G c : Nat} {L : List En} (h : ERow w G c L) {j : Nat} (hj : j < c * 2) : (w.cell? ⟨G, j, none⟩).isSome = true := by
  obtain ⟨h1, h2, X, hX, hl, ht⟩ := h
  simp [World.cell?, hX, hl, hj]
theorem ERow.frozen {w : World} {G c : Nat} {L : List En} (h : ERow w G c L) (o : Nat) : w.frozen? ⟨G, o, none⟩ = false := by
  obtain ⟨h1, h2, X, hX, hl, ht⟩ := h
  simp [World.frozen?, hX]
theorem ERow.lt {w : World} {G c : Nat} {L : List En} (h : ERow w G c L) : G < w.heap.size := by
  obtain ⟨h1, h2, X, hX, hl, ht⟩ := h
  exact (Array.getElem?_eq_some_iff.1 hX).1
theorem ERow.of_block {w w' : World} {G c : Nat} {L : List En} (h : ERow w G c L) (e : w'.heap[G]? = w.heap[G]?) : ERow w' G c L := by
  obtain ⟨h1, h2, X, hX, r⟩ := h
  exact ⟨h1, h2, X, e.trans hX, r⟩
theorem ERow.shape {w : World} {G c : Nat} {L : List En} (h : ERow w G c L) : w.shape? G = some (108, c * 2) := by
  obtain ⟨h1, h2, X, hX, hl, ht⟩ := h
  simp [World.shape?, hX, hl]
theorem ERow.owns {w : World} {G c lo : Nat} {L : List En} (h : ERow w G c L) (hlo : lo ≤ G) : w.ownsRow lo 108 2 (.slice (some ⟨G, 0, none⟩) L.length c) L.length (encL L) := by
  obtain ⟨h1, h2, X, hX, hl, ht⟩ := h
  exact ⟨encL_length L, .inr ⟨G, c, X.toArray, rfl, hlo, hX, h1, h2, by simpa using hl, by simpa using ht⟩⟩
theorem ERow.of_owns {w : World} {G c n lo : Nat} {L : List En} (h : w.ownsRow lo 108 2 (.slice (some ⟨G, 0, none⟩) n c) n (encL L)) (hn : n = L.length) : ERow w G c L ∧ lo ≤ G := by
  subst hn
  rcases h.2 with ⟨e, _⟩ | ⟨G', c', cur, hv, hb, hg, h1, h2, hs, ht⟩
  · cases e
  · injection hv with e1 e2 e3
    injection e1 with e1
    injection e1 with e1
    subst e1; subst e3
    exact ⟨⟨h1, h2, cur.toList, by simpa using hg, by simpa using hs, ht⟩, hb⟩

/-- The world behind a store of many cells, told by its rows. -/
theorem setCells_row {w : World} {G o : Nat} {X : List Value} {t : TypeId} {vs : List Value} (hX : w.heap[G]? = some (.cells X.toArray t (0, 0))) (hfit : o + vs.length ≤ X.length) (h1 : ∀ v ∈ vs, v.oneCell' = true) :
    w.setCells G o vs = w.setRow G (X.take o ++ vs ++ X.drop (o + vs.length)).toArray := by
  have a := run_storeCells_at Tryz.prog G o t vs 0 X.toArray w hX (by simpa using hfit) h1
  have b := run_storeCells_cells (P := Tryz.prog) G o vs 0 w (fun j hj => by simp [World.cell?, hX]; omega) (fun j hj => by simp [World.frozen?, hX]) h1
  rw [a] at b
  simp only [Nat.add_zero] at b
  injection b with _ b
  exact b.symm
theorem ERow.sets {w : World} {G c o : Nat} {L K : List En} {vs : List Value} (h : ERow w G c L) (hfit : o + vs.length ≤ c * 2) (h1 : ∀ v ∈ vs, v.oneCell' = true) (hK : K.length ≤ c)
    (e : ∀ X : List Value, X.length = c * 2 → X.take (L.length * 2) = encL L → (X.take o ++ vs ++ X.drop (o + vs.length)).take (K.length * 2) = encL K) : ERow (w.setCells G o vs) G c K := by
  obtain ⟨a, b, X, hX, hl, ht⟩ := h
  rw [setCells_row hX (by rw [hl]; exact hfit) h1]
  refine ⟨hK, b, _, setRow_heap w G _ _ 108 _ hX, ?_, e X hl ht⟩
  simp
  omega
theorem sets_other {w : World} {G o : Nat} {vs : List Value} (k : Nat) (hk : k ≠ G) : (w.setCells G o vs).heap[k]? = w.heap[k]? := by
  induction vs generalizing o w with
  | nil => rfl
  | cons v r ih => rw [World.setCells, ih, Below.heap_setCell _ _ _ _ (fun e => hk e)]
theorem grownBy_trans {w w1 w2 : World} {r : Option Nat} (h : w.grownBy w1 r) (h' : w1.grownBy w2 r) : w.grownBy w2 r :=
  ⟨h'.os.trans h.os, h'.tape.trans h.tape, h'.output.trans h.output, Nat.le_trans h.size h'.size, fun k hk hr => (h'.block k (Nat.lt_of_lt_of_le hk h.size) hr).trans (h.block k hk hr)⟩
theorem grownBy_refl (w : World) (r : Option Nat) : w.grownBy w r := ⟨rfl, rfl, rfl, Nat.le_refl _, fun _ _ _ => rfl⟩
theorem grownBy_below {w w' : World} (h : Below w.heap.size w w') (r : Option Nat) : w.grownBy w' r := ⟨h.os, h.tape, h.output, h.size, fun k hk _ => h.block k hk⟩
theorem grownBy_set (w : World) (G o : Nat) (v : Value) : w.grownBy (w.setCell ⟨G, o, none⟩ v) (some G) :=
  ⟨rfl, rfl, rfl, by simp [World.setCell], fun k _ hr => Below.heap_setCell _ _ _ _ (fun e => hr (by rw [e]))⟩
theorem grownBy_sets (G : Nat) : ∀ (vs : List Value) (o : Nat) (w : World), w.grownBy (w.setCells G o vs) (some G)
  | [], _, w => grownBy_refl w _
  | v :: r, o, w => grownBy_trans (grownBy_set w G o v) (grownBy_sets G r (o + 1) _)
theorem grownBy_drew (w : World) (r : Option Nat) : w.grownBy w.drew r := ⟨rfl, rfl, rfl, Nat.le_refl _, fun _ _ _ => rfl⟩
theorem grownBy_none {w w' : World} (h : w.grownBy w' none) : Below w.heap.size w w' := ⟨h.os, h.tape, h.output, h.size, fun k hk => h.block k hk (by simp)⟩

set_option maxRecDepth 100000 in
theorem info37 : (Tryz.prog.info? 108).map (fun i => (i.zero, i.size, i.bytes)) = some (some (.agg #[.string ByteArray.empty, .int .i64 0]), 2, 24) := by kernel_rfl

/-- 'copy' of items of two cells. -/
theorem run_copy2 (w : World) (dT sT ty : TypeId) (b o dLen dCap : Nat) (a : Addr) (sLen sCap m : Nat) (cs : List Value)
    (hu : Tryz.prog.underlying dT = some (.slice 108)) (hm : m = Nat.min sLen dLen) (hn : cs.length = m * 2)
    (hsrc : ∀ j v, cs[j]? = some v → w.cell? (a.add j) = some v) (hc : ∀ j, j < cs.length → (w.cell? ⟨b, o + j, none⟩).isSome = true) (hf : ∀ j, j < cs.length → w.frozen? ⟨b, o + j, none⟩ = false) (h1 : ∀ v ∈ cs, v.oneCell' = true) :
    (Builtin.copy_ #[dT, sT] ty #[.slice (some ⟨b, o, none⟩) dLen dCap, .slice (some a) sLen sCap]).run Tryz.prog w = .ok (goInt m) (w.setCells b o cs) := by
  have hl := run_loadCells_list (P := Tryz.prog) w a cs hsrc
  have hst := run_storeCells_cells (P := Tryz.prog) b o cs 0 w (by simpa using hc) (by simpa using hf) h1
  obtain ⟨i0, hi, hz0, hz1, hz2⟩ := info_parts info37
  subst hm
  simp [Builtin.copy_, run_underlying hu, Builtin.lenOf, Builtin.firstCells, sizeOf, typeInfo, hi, hz1, ← hn, hl, hst]
end Go.Proofs.YtnnaoldpacbagaaGreat.dn
end
section
namespace Go.Proofs.YtnnaoldpacbagaaGreat.dn
open Go.RowKit Go.Shelf
set_option linter.unusedVariables false


/-- Block o of the row, if there is one. -/
abbrev Ao (o : Option Nat) : Option Addr := o.map fun G => ⟨G, 0, none⟩
abbrev Pq (Q : Nat) : Value := .pointer (some ⟨Q, 0, none⟩)
/-- A directory in memory: its row lies at lo or behind. -/
structure Du (w : World) (D lo : Nat) (o : Option Nat) (c : Nat) (L : List En) : Prop where
  d0 : w.cell? ⟨D, 0, none⟩ = some (.slice (Ao o) L.length c)
  f0 : w.frozen? ⟨D, 0, none⟩ = false
  row : match o with | none => L = [] ∧ c = 0 | some G => lo ≤ G ∧ D ≠ G ∧ ERow w G c L
theorem Du.lt {w : World} {D lo c : Nat} {o : Option Nat} {L : List En} (h : Du w D lo o c L) : D < w.heap.size := World.block_lt_of_cell? w _ h.d0
theorem Du.of_blocks {w w' : World} {D lo c : Nat} {o : Option Nat} {L : List En} (h : Du w D lo o c L) (hD : w'.heap[D]? = w.heap[D]?) (hG : ∀ G, o = some G → w'.heap[G]? = w.heap[G]?) : Du w' D lo o c L := by
  refine ⟨(World.cell?_of_block (a := ⟨D, 0, none⟩) hD).trans h.d0, (World.frozen?_of_block (a := ⟨D, 0, none⟩) hD).trans h.f0, ?_⟩
  cases o with
  | none => exact h.row
  | some G => exact ⟨h.row.1, h.row.2.1, h.row.2.2.of_block (hG G rfl)⟩
theorem Du.glt {w : World} {D lo c : Nat} {o : Option Nat} {L : List En} (h : Du w D lo o c L) : ∀ G, o = some G → G < w.heap.size ∧ lo ≤ G ∧ D ≠ G := by
  intro G e; subst e; exact ⟨h.row.2.2.lt, h.row.1, h.row.2.1⟩
theorem Du.below {w w' : World} {D lo c : Nat} {o : Option Nat} {L : List En} (h : Du w D lo o c L) (hb : Below w.heap.size w w') : Du w' D lo o c L :=
  h.of_blocks (hb.block _ h.lt) fun G e => hb.block _ (h.glt G e).1
theorem Du.at_ {w : World} {D lo c : Nat} {o : Option Nat} {L : List En} (h : Du w D lo o c L) {i : Nat} {x : En} (hx : L[i]? = some x) :
    ∃ G, o = some G ∧ w.cell? ⟨G, i * 2, none⟩ = some (.string x.1) ∧ w.cell? ⟨G, i * 2 + 1, none⟩ = some (.int .i64 x.2) := by
  cases o with
  | none => rw [h.row.1] at hx; simp at hx
  | some G => exact ⟨G, rfl, h.row.2.2.at_ hx⟩
theorem Du.cap {w : World} {D lo c : Nat} {o : Option Nat} {L : List En} (h : Du w D lo o c L) : L.length ≤ c ∧ c ≤ maxLen := by
  cases o with
  | none => rw [h.row.1, h.row.2]; exact ⟨Nat.le_refl _, by unfold maxLen; omega⟩
  | some G => exact ⟨h.row.2.2.1, h.row.2.2.2.1⟩

set_option maxRecDepth 100000 in
set_option maxHeartbeats 400000 in
theorem less_any (a b : ByteArray) (w : World) : Calls Tryz.prog 64 #[.string a, .string b] w fun e w' => e = .returned (.bool (lessB a b)) ∧ w' = w := by
  go_enter Tryz.func64, Tryz.ntmps64
  go_wp2
  go_ret
  exact ⟨rfl, rfl⟩

set_option maxRecDepth 100000 in
set_option maxHeartbeats 1000000 in
theorem asks33 (bd bn D lo c i : Nat) (o : Option Nat) (L : List En) (s : ByteArray) (x : En) (w : World) (hN : L.length ≤ 1000000) (hd : w.cell? ⟨bd, 0, none⟩ = some (Pq D)) (hn : w.cell? ⟨bn, 0, none⟩ = some (.string s)) (h : Du w D lo o c L) (hx : L[i]? = some x) :
    Calls Tryz.prog 172 #[.int .i64 i, .pointer (some ⟨bd, 0, none⟩), .pointer (some ⟨bn, 0, none⟩)] w (RetB w (!lessB x.1 s)) := by
  have hi : i < L.length := (List.getElem?_eq_some_iff.1 hx).1
  have d0 := h.d0
  obtain ⟨G, rfl, f0, f1⟩ := h.at_ hx
  have hC := fun W => less_any x.1 s W
  have HH := Lib.hid h
  generalize L.length = n at *
  obtain ⟨xs, xv⟩ := x
  dsimp only at *
  clear hx h f1
  generalize lessB xs s = r at *
  go_enter Tryz.func172, Tryz.ntmps172
  go_wp2_with fail
  go_quiet ((go_at_call 64; exact Calls.quiet_of_same (hC _)))
  go_wp2_with fail
  go_ret
  exact ⟨rfl, below_drewN (Below.refl _ _) _⟩
set_option maxHeartbeats 2000000 in
/-- The binary search: of a closure that leaves all as it was, the number of places at which it still says no. -/
theorem search_any (f n k : Nat) (env : Array Value) (p : Nat → Bool) (w : World) (hE : Enters Tryz.prog f) (hN : n ≤ 1000000) (hk : k ≤ n)
    (hf : ∀ W, Below w.heap.size w W → ∀ i, i < n → Calls Tryz.prog f (#[.int .i64 i] ++ env) W (RetB W (p i)))
    (hlo : ∀ i, i < k → p i = false) (hhi : ∀ i, k ≤ i → i < n → p i = true) :
    Calls Tryz.prog 171 #[.int .i64 n, .func (.func f) #[] env] w (RetI w k) := by
  have HF := Lib.hid hf
  have HLO := Lib.hid hlo
  have HHI := Lib.hid hhi
  unfold Enters at hE
  clear hf hlo hhi
  go_enter Tryz.func171, Tryz.ntmps171
  go_wp2_with fail
  go_loopg [5, 6] n (fun kx s5 s6 wr => ∃ lo hi : Nat, s5 = .int .i64 lo ∧ s6 = .int .i64 hi ∧ lo ≤ k ∧ k ≤ hi ∧ hi ≤ n ∧ hi - lo ≤ kx ∧ Hid (Below w.heap.size w wr))
  case atStart => exact ⟨0, n, rfl, rfl, by omega, by omega, by omega, by omega, Lib.hid (Below.refl _ _)⟩
  case round =>
    obtain ⟨lo, hi, rfl, rfl, hl, hh, hin, hg, HB⟩ := hrel
    by_cases hlt : lo < hi
    · have hc := HF.out wr HB.out ((lo + hi) / 2) (by omega)
      rw [show (((lo + hi) / 2 : Nat) : Int) = ((lo : Int) + (hi : Int)) / 2 by omega] at hc
      by_cases hp : (lo + hi) / 2 < k
      · rw [HLO.out _ hp] at hc
        have HC := Lib.hid hc
        clear hc
        go_wp2_with fail
        refine HC.out.mono ?_
        rintro e w2 ⟨rfl, hb2⟩
        have HB2 := Lib.hid (below_step HB.out hb2)
        clear hb2
        go_wp2_with fail
        go_roundg (hi - ((lo + hi) / 2 + 1))
        case measure => omega
        case rel => exact ⟨(lo + hi) / 2 + 1, hi, by rw [show ((lo : Int) + (hi : Int)) / 2 + 1 = (((lo + hi) / 2 + 1 : Nat) : Int) by omega], rfl, by omega, by omega, by omega, by omega, HB2⟩
      · rw [HHI.out _ (by omega) (by omega)] at hc
        have HC := Lib.hid hc
        clear hc
        go_wp2_with fail
        refine HC.out.mono ?_
        rintro e w2 ⟨rfl, hb2⟩
        have HB2 := Lib.hid (below_step HB.out hb2)
        clear hb2
        go_wp2_with fail
        go_roundg ((lo + hi) / 2 - lo)
        case measure => omega
        case rel => exact ⟨lo, (lo + hi) / 2, rfl, by rw [show ((lo : Int) + (hi : Int)) / 2 = (((lo + hi) / 2 : Nat) : Int) by omega], by omega, by omega, by omega, by omega, HB2⟩
    · obtain rfl : lo = k := by omega
      obtain rfl : hi = lo := by omega
      go_wp2_with fail
      go_ret
      exact ⟨rfl, HB.out⟩
end Go.Proofs.YtnnaoldpacbagaaGreat.dn
end
section
namespace Go.Proofs.YtnnaoldpacbagaaGreat.dn
open Go.RowKit Go.Shelf
set_option linter.unusedVariables false


set_option maxRecDepth 100000 in
theorem e33 : Enters Tryz.prog 172 := enters_of Tryz.func172 (by kernel_rfl) rfl
def thereB (s : ByteArray) (L : List En) : Bool := match L[pos s L]? with | some x => decide (x.1 = s) | none => false
def PlaceE (w : World) (s : ByteArray) (L : List En) (e : Ending) (w' : World) : Prop := e = .returned (.tuple #[.int .i64 (pos s L), .bool (thereB s L)]) ∧ Below w.heap.size w w'

set_option maxRecDepth 100000 in
theorem find33 (D lo c : Nat) (o : Option Nat) (L : List En) (s : ByteArray) (w : World) (hs : Sorted L) (hN : L.length ≤ 1000000) (h : Du w D lo o c L) :
    Calls Tryz.prog 171 #[.int .i64 L.length, .func (.func 172) #[] #[.pointer (some ⟨w.heap.size, 0, none⟩), .pointer (some ⟨w.heap.size + 1, 0, none⟩)]] ((w.alloc (.cells #[Pq D] 140)).alloc (.cells #[.string s] 9))
      (RetI ((w.alloc (.cells #[Pq D] 140)).alloc (.cells #[.string s] 9)) (pos s L)) := by
  have hb : Below w.heap.size w ((w.alloc (.cells #[Pq D] 140)).alloc (.cells #[.string s] 9)) := ((Below.refl _ _).alloc (Nat.le_refl _) _).alloc (by simp) _
  refine search_any 172 L.length (pos s L) _ (fun i => decide (pos s L ≤ i)) _ e33 hN (pos_le _ _) (fun W hW i hi => ?_) (fun i hi => decide_eq_false (by omega)) (fun i hi _ => decide_eq_true hi)
  have hx : L[i]? = some L[i] := List.getElem?_eq_getElem hi
  have := asks33 w.heap.size (w.heap.size + 1) D lo c i o L s L[i] W hN ((hW.cell (p := ⟨w.heap.size, 0, none⟩) (by simp; omega)).trans (by simp)) ((hW.cell (p := ⟨w.heap.size + 1, 0, none⟩) (by simp)).trans (by simp)) ((h.below hb).below hW) hx
  have e : (!lessB L[i].1 s) = decide (pos s L ≤ i) := by
    by_cases hp : pos s L ≤ i
    · rw [decide_eq_true hp, pos_ge hs hp hx]; rfl
    · rw [decide_eq_false hp, pos_lt (by omega) hx]; rfl
  rw [e] at this
  exact this
set_option maxRecDepth 100000 in
set_option maxHeartbeats 2000000 in
theorem place_any (D lo c : Nat) (o : Option Nat) (L : List En) (s : ByteArray) (w : World) (hs : Sorted L) (hN : L.length ≤ 1000000) (h : Du w D lo o c L) :
    Calls Tryz.prog 132 #[Pq D, .string s] w (PlaceE w s L) := by
  have HC := Lib.hid (find33 D lo c o L s w hs hN h)
  have hb : Below w.heap.size w ((w.alloc (.cells #[Pq D] 140)).alloc (.cells #[.string s] 9)) := ((Below.refl _ _).alloc (Nat.le_refl _) _).alloc (by simp) _
  have hD := h.lt
  have d0 := h.d0
  have HH := Lib.hid h
  have HB := Lib.hid hb
  have hcap := h.cap
  have hkl := pos_le s L
  have HT : Hid (thereB s L = match L[pos s L]? with | some x => decide (x.1 = s) | none => false) := rfl
  have HX := Lib.hid (fun (hk : pos s L < L.length) => (⟨L[pos s L], List.getElem?_eq_getElem hk⟩ : ∃ x, L[pos s L]? = some x))
  unfold PlaceE
  generalize hn : L.length = n at *
  generalize hk : pos s L = k at *
  generalize hr : thereB s L = r at *
  have HN2 := Lib.hid hn
  have HK2 := Lib.hid hk
  clear h hb hn hk hr hs
  go_enter Tryz.func132, Tryz.ntmps132
  go_wp2_with fail
  refine HC.out.mono ?_
  rintro e w2 ⟨rfl, hb2⟩
  have b0 := (hb2.cell (p := ⟨w.heap.size, 0, none⟩) (by simp; omega)).trans (show _ = some (Pq D) by simp)
  have b1 := (hb2.cell (p := ⟨w.heap.size + 1, 0, none⟩) (by simp)).trans (show _ = some (.string s) by simp)
  have HDu := Lib.hid ((HH.out.below HB.out).below hb2)
  have c0 := HDu.out.d0
  rw [HN2.out] at c0
  have HBB := Lib.hid (below_step HB.out hb2)
  by_cases hlt : k < n
  · obtain ⟨x, hx⟩ := HX.out hlt
    obtain ⟨G, rfl, g0, g1⟩ := HDu.out.at_ hx
    have HR := Lib.hid (HT.out.trans (by rw [hx]))
    obtain ⟨xs, xv⟩ := x
    dsimp only at *
    rw [← beq_names] at HR
    have HRR := HR
    obtain ⟨q, hq⟩ : ∃ q, (xs.toList == s.toList) = q := ⟨_, rfl⟩
    have hrq : r = q := HR.out.trans hq
    subst hrq
    have hltz : decide ((k : Int) < (n : Int)) = true := by simpa using hlt
    clear HT HX hx g1 HC hb2 HR HRR d0
    go_wp2_with fail
    go_quiet (fail)
    go_wp2_with fail
    go_ret2
    exact ⟨rfl, below_drewN HBB.out _⟩
  · have hkn : k = n := by omega
    have HR := Lib.hid (HT.out.trans (by rw [List.getElem?_eq_none (by rw [HN2.out]; omega)]) : r = false)
    subst hkn
    have hltz : decide ((k : Int) < (k : Int)) = false := by simp
    obtain rfl : r = false := HR.out
    clear HT HX HC hb2 d0 hlt HR
    go_wp2_with fail
    go_quiet (fail)
    go_wp2_with fail
    go_ret2
    exact ⟨rfl, below_drewN HBB.out _⟩
end Go.Proofs.YtnnaoldpacbagaaGreat.dn
end
section
namespace Go.Proofs.YtnnaoldpacbagaaGreat.dn
open Go.RowKit Go.Shelf
set_option linter.unusedVariables false


def getV (s : ByteArray) (L : List En) : Value := match lget s L with | some v => .tuple #[.int .i64 v, .int .i64 0] | none => .tuple #[.int .i64 0, .int .i64 2]
theorem there_yes {s : ByteArray} {L : List En} (hs : Sorted L) (h : thereB s L = true) : ∃ x, L[pos s L]? = some x ∧ x.1 = s ∧ lget s L = some x.2 := by
  unfold thereB at h
  have h2 := lget_pos (s := s) hs
  cases hx : L[pos s L]? with
  | none => rw [hx] at h; cases h
  | some x =>
    rw [hx] at h h2
    have h3 : x.1 = s := by simpa using h
    exact ⟨x, rfl, h3, by simpa [h3] using h2⟩
theorem there_no {s : ByteArray} {L : List En} (hs : Sorted L) (h : thereB s L = false) : lget s L = none ∧ ∀ x, L[pos s L]? = some x → x.1 ≠ s := by
  unfold thereB at h
  have h2 := lget_pos (s := s) hs
  cases hx : L[pos s L]? with
  | none => rw [hx] at h2; exact ⟨h2, fun x e => by cases e⟩
  | some x =>
    rw [hx] at h h2
    have h3 : x.1 ≠ s := by simpa using h
    exact ⟨by simpa [h3] using h2, fun y e => by injection e with e; subst e; exact h3⟩

set_option maxRecDepth 100000 in
set_option maxHeartbeats 1000000 in
theorem get_any (D lo c : Nat) (o : Option Nat) (L : List En) (s : ByteArray) (w : World) (hs : Sorted L) (hN : L.length ≤ 1000000) (h : Du w D lo o c L) :
    Calls Tryz.prog 108 #[Pq D, .string s] w (RetV w (getV s L)) := by
  have HP := Lib.hid (place_any D lo c o L s w hs hN h)
  have HH := Lib.hid h
  unfold PlaceE at HP
  unfold RetV
  cases hb : thereB s L
  · have HV := Lib.hid (show getV s L = .tuple #[.int .i64 0, .int .i64 2] by unfold getV; rw [(there_no hs hb).1])
    rw [hb] at HP
    generalize pos s L = k at *
    generalize getV s L = r at *
    clear hs hb h
    go_enter Tryz.func108, Tryz.ntmps108
    go_wp2_with fail
    refine HP.out.mono ?_
    rintro e w2 ⟨rfl, hb2⟩
    go_wp2_with fail
    go_ret2
    exact ⟨by rw [HV.out]; rfl, hb2⟩
  · obtain ⟨x, hx, hn, hl⟩ := there_yes hs hb
    have HV := Lib.hid (show getV s L = .tuple #[.int .i64 x.2, .int .i64 0] by unfold getV; rw [hl])
    rw [hb] at HP
    have hk := (List.getElem?_eq_some_iff.1 hx).1
    have HX := Lib.hid (fun W (hb : Below w.heap.size w W) => (h.below hb).at_ hx)
    have HD := Lib.hid (fun W (hb : Below w.heap.size w W) => (h.below hb).d0)
    generalize pos s L = k at *
    generalize getV s L = r at *
    generalize L.length = n at *
    obtain ⟨xs, xv⟩ := x
    dsimp only at *
    clear hs hb h hx hn hl
    go_enter Tryz.func108, Tryz.ntmps108
    go_wp2_with fail
    refine HP.out.mono ?_
    rintro e w2 ⟨rfl, hb2⟩
    obtain ⟨G, rfl, f0, f1⟩ := HX.out w2 hb2
    have d0 := HD.out w2 hb2
    clear HP HX HD
    go_wp2_with fail
    go_ret2
    exact ⟨by rw [HV.out]; rfl, hb2⟩

set_option maxRecDepth 100000 in
theorem dlen_any (D lo c : Nat) (o : Option Nat) (L : List En) (w : World) (h : Du w D lo o c L) :
    Calls Tryz.prog 144 #[Pq D] w (fun e w' => e = .returned (.int .i64 L.length) ∧ w' = w) := by
  have d0 := h.d0
  generalize L.length = n at *
  clear h
  go_enter Tryz.func144, Tryz.ntmps144
  go_wp2_with fail
  go_ret
  exact ⟨rfl, rfl⟩

theorem three_boxes {w w2 : World} {v0 v1 v2 v3 : Value} {t0 t1 t2 : TypeId} (hb : Below (((w.alloc (.cells #[v0] t0)).alloc (.cells #[v1] t1)).alloc (.cells #[v2, v3] t2)).heap.size (((w.alloc (.cells #[v0] t0)).alloc (.cells #[v1] t1)).alloc (.cells #[v2, v3] t2)) w2) :
    w2.cell? ⟨w.heap.size, 0, none⟩ = some v0 ∧ w2.cell? ⟨w.heap.size + 1, 0, none⟩ = some v1 ∧ w2.cell? ⟨w.heap.size + 1 + 1, 0, none⟩ = some v2 ∧ w2.cell? ⟨w.heap.size + 1 + 1, 1, none⟩ = some v3 ∧ w2.frozen? ⟨w.heap.size + 1 + 1, 0, none⟩ = false ∧ w2.frozen? ⟨w.heap.size + 1 + 1, 1, none⟩ = false := by
  have hz : ∀ (W : World) (o : Obj), (W.alloc o).heap.size = W.heap.size + 1 := fun W o => World.size_alloc W o
  have n2 : ∀ (W : World), (W.alloc (.cells #[v2, v3] t2)).cell? ⟨W.heap.size, 0, none⟩ = some v2 ∧ (W.alloc (.cells #[v2, v3] t2)).cell? ⟨W.heap.size, 1, none⟩ = some v3 ∧ (W.alloc (.cells #[v2, v3] t2)).frozen? ⟨W.heap.size, 0, none⟩ = false ∧ (W.alloc (.cells #[v2, v3] t2)).frozen? ⟨W.heap.size, 1, none⟩ = false := fun W => by simp
  have n1 : ∀ (W : World), (W.alloc (.cells #[v1] t1)).cell? ⟨W.heap.size, 0, none⟩ = some v1 := fun W => by simp
  have n0 : ∀ (W : World), (W.alloc (.cells #[v0] t0)).cell? ⟨W.heap.size, 0, none⟩ = some v0 := fun W => by simp
  obtain ⟨m0, m1, m2, m3⟩ := n2 ((w.alloc (.cells #[v0] t0)).alloc (.cells #[v1] t1))
  simp only [hz] at m0 m1 m2 m3 hb
  have l1 := n1 (w.alloc (.cells #[v0] t0))
  rw [hz] at l1
  have far : ∀ (W : World) (o : Obj) (B : Nat), B < W.heap.size → (W.alloc o).cell? ⟨B, 0, none⟩ = W.cell? ⟨B, 0, none⟩ := fun W o B h => (below_alloc W o).cell (p := ⟨B, 0, none⟩) h
  refine ⟨(hb.cell (p := ⟨w.heap.size, 0, none⟩) (by show w.heap.size < _; omega)).trans ?_, (hb.cell (p := ⟨w.heap.size + 1, 0, none⟩) (by show w.heap.size + 1 < _; omega)).trans ?_, (hb.cell (p := ⟨w.heap.size + 1 + 1, 0, none⟩) (by show w.heap.size + 1 + 1 < _; omega)).trans m0, (hb.cell (p := ⟨w.heap.size + 1 + 1, 1, none⟩) (by show w.heap.size + 1 + 1 < _; omega)).trans m1, (hb.frozen (p := ⟨w.heap.size + 1 + 1, 0, none⟩) (by show w.heap.size + 1 + 1 < _; omega)).trans m2, (hb.frozen (p := ⟨w.heap.size + 1 + 1, 1, none⟩) (by show w.heap.size + 1 + 1 < _; omega)).trans m3⟩
  · rw [far _ _ _ (by rw [hz, hz]; omega), far _ _ _ (by rw [hz]; omega)]; exact n0 w
  · rw [far _ _ _ (by rw [hz, hz]; omega)]; exact l1

def nextV (s : ByteArray) (L : List En) : Value := match lnext s L with | some x => .tuple #[Ev x, .bool true] | none => .tuple #[Ev (⟨#[]⟩, 0), .bool false]
end Go.Proofs.YtnnaoldpacbagaaGreat.dn
end
