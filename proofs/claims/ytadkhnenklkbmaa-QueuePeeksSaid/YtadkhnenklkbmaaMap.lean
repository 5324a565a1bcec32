/- Maps of the call's own, keyed by integers, told as functions. -/
import Derived.Test.YtadkhnenklkbmaaTwo
import Derived.Maps.Own
import Derived.Maps.OwnOps
import Derived.Maps.Views
namespace Go.Proofs.Ytadkhnenklkbmaa
open Go.RowKit
open Go.Maps (Keyed IsMap isMap_empty atKey_put_same atKey_put_other int_keyed keyOf_int_mk)
set_option linter.unusedVariables false

def upd {α : Type} (f : Int → α) (a : Int) (b : α) : Int → α := fun x => if x = a then b else f x
def Wf (a : Int) : Prop := (Lit.int .i64 a).wf = true
theorem wf_small {a : Int} (h1 : -1000000 ≤ a) (h2 : a ≤ 1000000) : Wf a := by
  unfold Wf
  simp only [Lit.wf, Bool.and_eq_true, decide_eq_true_eq]
  refine ⟨Int.le_trans (by decide) h1, Int.le_trans h2 (by decide)⟩

/-- Block B is a map of at most n entries: at each key what f says. -/
def MapB (w : World) (k : TypeId) (B n : Nat) (f : Int → Bool) : Prop :=
  ∃ D : DataW Unit, w.ownsMap Try.prog k (plainElem Try.prog 4) B n D ∧ IsMap D ∧ ∀ a, D.atKey (.int .i64 a) (.lit (.bool false)) = .lit (.bool (f a))
def MapI (w : World) (k : TypeId) (B n : Nat) (f : Int → Int) : Prop :=
  ∃ D : DataW Unit, w.ownsMap Try.prog k (plainElem Try.prog 3) B n D ∧ IsMap D ∧ ∀ a, D.atKey (.int .i64 a) (.lit (.int .i64 0)) = .lit (.int .i64 (f a))
theorem MapB.made (w : World) (k : TypeId) : MapB (w.alloc (.map #[] 0)) k w.heap.size 0 (fun _ => false) := ⟨.map [], World.ownsMap_made _ _ _ _, isMap_empty, fun a => rfl⟩
theorem MapI.made (w : World) (k : TypeId) : MapI (w.alloc (.map #[] 0)) k w.heap.size 0 (fun _ => 0) := ⟨.map [], World.ownsMap_made _ _ _ _, isMap_empty, fun a => rfl⟩
theorem MapB.lt {w : World} {k : TypeId} {B n : Nat} {f : Int → Bool} (h : MapB w k B n f) : B < w.heap.size := by obtain ⟨D, h, _⟩ := h; exact h.lt
theorem MapI.lt {w : World} {k : TypeId} {B n : Nat} {f : Int → Int} (h : MapI w k B n f) : B < w.heap.size := by obtain ⟨D, h, _⟩ := h; exact h.lt
theorem MapB.of_block {w w' : World} {k : TypeId} {B n : Nat} {f : Int → Bool} (h : MapB w k B n f) (hb : w'.heap[B]? = w.heap[B]?) : MapB w' k B n f := by
  obtain ⟨D, ⟨es, clock, h1, h2⟩, r⟩ := h
  exact ⟨D, ⟨es, clock, hb.trans h1, h2⟩, r⟩
theorem MapI.of_block {w w' : World} {k : TypeId} {B n : Nat} {f : Int → Int} (h : MapI w k B n f) (hb : w'.heap[B]? = w.heap[B]?) : MapI w' k B n f := by
  obtain ⟨D, ⟨es, clock, h1, h2⟩, r⟩ := h
  exact ⟨D, ⟨es, clock, hb.trans h1, h2⟩, r⟩
theorem plainElem_bool_inv {v : Value} {x : Bool} {ps : List MemPlace} (h : plainElem (H := Unit) Try.prog 4 v = some (.lit (.bool x), ps)) : v = .bool x := by
  unfold plainElem at h
  rw [Try.underlying4] at h
  cases v <;> simp at h
  simp [h]
theorem MapB.look {w : World} {k t : TypeId} {B n : Nat} {f : Int → Bool} (h : MapB w k B n f) (ht : Try.prog.underlying t = some (.map k 4)) (hk : Try.prog.underlying k = some (.int .i64)) {a : Int} (ha : Wf a) :
    (Instr.lookup t (.map (some B)) (.int .i64 a) false).run Try.prog w = .ok (.bool (f a)) w := by
  obtain ⟨D, h1, h2, h3⟩ := h
  obtain ⟨v, ps, hrun, hv⟩ := h1.lookup (int_keyed hk) ht (z := .bool false) (by kernel_rfl) (plainElem_bool Try.underlying4 false) (keyOf_int_mk hk ha)
  rw [h3] at hv
  rw [hrun, plainElem_bool_inv hv]
theorem MapI.look {w : World} {k t : TypeId} {B n : Nat} {f : Int → Int} (h : MapI w k B n f) (ht : Try.prog.underlying t = some (.map k 3)) (hk : Try.prog.underlying k = some (.int .i64)) {a : Int} (ha : Wf a) :
    (Instr.lookup t (.map (some B)) (.int .i64 a) false).run Try.prog w = .ok (.int .i64 (f a)) w := by
  obtain ⟨D, h1, h2, h3⟩ := h
  obtain ⟨c, hrun, hat, _⟩ := h1.lookup_int (int_keyed hk) ht Try.underlying3 (by kernel_rfl) (keyOf_int_mk hk ha)
  rw [h3] at hat
  injection hat with hat
  injection hat with _ hat
  rw [hrun, hat]
theorem MapB.put {w : World} {k t : TypeId} {B n : Nat} {f : Int → Bool} (h : MapB w k B n f) (ht : Try.prog.underlying t = some (.map k 4)) (hk : Try.prog.underlying k = some (.int .i64)) (hn : n ≤ 1000000) {a : Int} (ha : Wf a) (b : Bool) :
    ∃ w', (Instr.mapUpdate t (.map (some B)) (.int .i64 a) (.bool b)).run Try.prog w = .ok () w' ∧ MapB w' k B (n + 1) (upd f a b) ∧ w.grownBy w' (some B) := by
  obtain ⟨D, h1, h2, h3⟩ := h
  obtain ⟨w', hrun, hown, hg⟩ := h1.update (int_keyed hk) ht (by unfold maxLen; omega) (keyOf_int_mk hk ha) (plainElem_bool Try.underlying4 b)
  refine ⟨w', hrun, ⟨_, hown, h2.put _ _, fun x => ?_⟩, hg⟩
  unfold upd
  by_cases e : x = a
  · subst e; rw [if_pos rfl, atKey_put_same h2 (show WideAt.IsKeyLit (.int .i64 x) from trivial)]
  · rw [if_neg e, atKey_put_other (fun h => e (by injection h)), h3]
theorem MapI.put {w : World} {k t : TypeId} {B n : Nat} {f : Int → Int} (h : MapI w k B n f) (ht : Try.prog.underlying t = some (.map k 3)) (hk : Try.prog.underlying k = some (.int .i64)) (hn : n ≤ 1000000) {a b : Int} (ha : Wf a) (hb : Wf b) :
    ∃ w', (Instr.mapUpdate t (.map (some B)) (.int .i64 a) (.int .i64 b)).run Try.prog w = .ok () w' ∧ MapI w' k B (n + 1) (upd f a b) ∧ w.grownBy w' (some B) := by
  obtain ⟨D, h1, h2, h3⟩ := h
  obtain ⟨w', hrun, hown, hg⟩ := h1.update (int_keyed hk) ht (by unfold maxLen; omega) (keyOf_int_mk hk ha) (plainElem_int Try.underlying3 hb)
  refine ⟨w', hrun, ⟨_, hown, h2.put _ _, fun x => ?_⟩, hg⟩
  unfold upd
  by_cases e : x = a
  · subst e; rw [if_pos rfl, atKey_put_same h2 (show WideAt.IsKeyLit (.int .i64 x) from trivial)]
  · rw [if_neg e, atKey_put_other (fun h => e (by injection h)), h3]
end Go.Proofs.Ytadkhnenklkbmaa
