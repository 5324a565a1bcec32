/- A map of the call's own, keyed by integers, whatever its elements: told as a function. -/
import Derived.Test.YtfbdhpbnmjacmaaDp
import Derived.Maps.Own
import Derived.Maps.OwnOps
import Derived.Maps.OwnSet
import Derived.Maps.Views
import Derived.Maps.RangeWalk
namespace Go.Proofs.Ytfbdhpbnmjacmaa.ds
open Go.RowKit
open Go.Maps (Keyed IsMap isMap_empty atKey_put_same atKey_put_other int_keyed keyOf_int_mk has_put_same has_put_other size_put atKey_of_not_has)
set_option linter.unusedVariables false

def Wf (a : Int) : Prop := (Lit.int .i64 a).wf = true
theorem wf_small {a : Int} (h1 : -1000000 ≤ a) (h2 : a ≤ 1000000) : Wf a := by
  unfold Wf
  simp only [Lit.wf, Bool.and_eq_true, decide_eq_true_eq]
  exact ⟨Int.le_trans (by decide) h1, Int.le_trans h2 (by decide)⟩
/-- Elements as they stand. -/
def RV : Value → Option (DataW Value × List MemPlace) := fun v => some (.held v, [])
def ups (f : Int → Option Value) (a : Int) (v : Value) : Int → Option Value := fun x => if x = a then some v else f x
/-- Block M is a map of S entries: at each key what f says. -/
def MapV (w : World) (M S : Nat) (f : Int → Option Value) : Prop :=
  ∃ D : DataW Value, w.ownsMap Try.prog 3 RV M S D ∧ IsMap D ∧ (∀ a, Maps.has D (.int .i64 a) = (f a).isSome) ∧ (∀ a v zd, f a = some v → D.atKey (.int .i64 a) zd = .held v) ∧ Maps.size D = S
theorem k3 : Try.prog.underlying 3 = some (.int .i64) := Try.underlying3
theorem MapV.made (w : World) : MapV (w.alloc (.map #[] 0)) w.heap.size 0 (fun _ => none) := ⟨.map [], World.ownsMap_made _ _ _ _, isMap_empty, fun a => rfl, fun a v zd h => (nomatch h), rfl⟩
section
variable {w : World} {M S : Nat} {f : Int → Option Value} {t e : TypeId}
theorem MapV.lt (h : MapV w M S f) : M < w.heap.size := by obtain ⟨D, h, _⟩ := h; exact h.lt
theorem MapV.of_block {w' : World} (h : MapV w M S f) (hb : w'.heap[M]? = w.heap[M]?) : MapV w' M S f := by
  obtain ⟨D, ⟨es, clock, h1, h2⟩, r⟩ := h
  exact ⟨D, ⟨es, clock, hb.trans h1, h2⟩, r⟩
theorem MapV.put (h : MapV w M S f) (ht : Try.prog.underlying t = some (.map 3 e)) (hn : S ≤ 1000000) {a : Int} (ha : Wf a) (hf : f a = none) (v : Value) :
    ∃ w', (Instr.mapUpdate t (.map (some M)) (.int .i64 a) v).run Try.prog w = .ok () w' ∧ MapV w' M (S + 1) (ups f a v) ∧ w.grownBy w' (some M) := by
  obtain ⟨D, h1, h2, h3, h4, h5⟩ := h
  obtain ⟨w', hrun, hown, hg⟩ := h1.update (int_keyed k3) ht (by unfold maxLen; omega) (keyOf_int_mk k3 ha) (show RV v = some (.held v, []) from rfl)
  refine ⟨w', hrun, ⟨_, hown, h2.put _ _, fun x => ?_, fun x u zd hx => ?_, ?_⟩, hg⟩
  · unfold ups
    by_cases e : x = a
    · subst e; rw [if_pos rfl, has_put_same h2 (show WideAt.IsKeyLit (.int .i64 x) from trivial)]; rfl
    · rw [if_neg e, has_put_other (fun h => e (by injection h)), h3]
  · unfold ups at hx
    by_cases e : x = a
    · subst e
      rw [if_pos rfl] at hx
      injection hx with hx
      subst hx
      exact atKey_put_same h2 (show WideAt.IsKeyLit (.int .i64 x) from trivial) _ _
    · rw [if_neg e] at hx
      rw [atKey_put_other (fun h => e (by injection h))]
      exact h4 x u zd hx
  · rw [size_put (h1.tidy (int_keyed k3)), h3, hf, h5]; rfl
theorem MapV.look (h : MapV w M S f) (ht : Try.prog.underlying t = some (.map 3 e)) {z : Value} (hz : (zeroValue e).run Try.prog w = .ok z w) {a : Int} (ha : Wf a) :
    (Instr.lookup t (.map (some M)) (.int .i64 a) false).run Try.prog w = .ok ((f a).getD z) w := by
  obtain ⟨D, h1, h2, h3, h4, h5⟩ := h
  obtain ⟨v, ps, hrun, hv⟩ := h1.lookup (int_keyed k3) ht hz (show RV z = some (.held z, []) from rfl) (keyOf_int_mk k3 ha)
  rw [hrun]
  unfold RV at hv
  injection hv with hv
  injection hv with hv
  cases hf : f a with
  | some u => rw [h4 a u _ hf] at hv; injection hv with hv; rw [hv]; rfl
  | none =>
    rw [atKey_of_not_has (by rw [h3, hf]; rfl)] at hv
    injection hv with hv; rw [hv]; rfl
theorem MapV.lookOk (h : MapV w M S f) (ht : Try.prog.underlying t = some (.map 3 e)) {z : Value} (hz : (zeroValue e).run Try.prog w = .ok z w) {a : Int} (ha : Wf a) :
    (Instr.lookup t (.map (some M)) (.int .i64 a) true).run Try.prog w = .ok (.tuple #[(f a).getD z, .bool (f a).isSome]) w := by
  obtain ⟨D, h1, h2, h3, h4, h5⟩ := h
  obtain ⟨v, ps, hrun, hv⟩ := h1.look_ok (int_keyed k3) ht hz (show RV z = some (.held z, []) from rfl) (keyOf_int_mk k3 ha)
  rw [hrun, h3]
  unfold RV at hv
  injection hv with hv
  injection hv with hv
  cases hf : f a with
  | some u => rw [h4 a u _ hf] at hv; injection hv with hv; rw [hv]; rfl
  | none =>
    rw [atKey_of_not_has (by rw [h3, hf]; rfl)] at hv
    injection hv with hv; rw [hv]; rfl
theorem MapV.len (h : MapV w M S f) (ht : Try.prog.underlying t = some (.map 3 e)) (ty : TypeId) : (Builtin.len_ #[t] ty #[.map (some M)]).run Try.prog w = .ok (.int .i64 S) w := by
  obtain ⟨D, h1, h2, h3, h4, h5⟩ := h
  rw [h1.len ht ty, h5]
end
theorem only_grown {w w' : World} {M : Nat} (h : w.grownBy w' (some M)) : Only (fun b => b = M) w w' := ⟨h.os, h.tape, h.output, h.size, fun k hk hM => h.block k hk (fun e => hM (by injection e))⟩
/-- The keys of a list, all with one value. -/
def inL (L : List Nat) (v : Value) : Int → Option Value := fun a => if ∃ k ∈ L, a = ((k : Nat) : Int) then some v else none
theorem inL_snoc {L : List Nat} {v : Value} {k : Nat} : ups (inL L v) k v = inL (L ++ [k]) v := by
  funext a
  unfold ups inL
  by_cases h : a = (k : Int)
  · rw [if_pos h, if_pos ⟨k, by simp, h⟩]
  · rw [if_neg h]
    have : (∃ j ∈ L, a = ((j : Nat) : Int)) ↔ ∃ j ∈ L ++ [k], a = ((j : Nat) : Int) := by
      constructor
      · rintro ⟨j, h1, h2⟩; exact ⟨j, by simp [h1], h2⟩
      · rintro ⟨j, h1, h2⟩
        rcases List.mem_append.1 h1 with h3 | h3
        · exact ⟨j, h3, h2⟩
        · simp at h3; subst h3; exact absurd h2 h
    by_cases h2 : ∃ j ∈ L, a = ((j : Nat) : Int)
    · rw [if_pos h2, if_pos (this.1 h2)]
    · rw [if_neg h2, if_neg (fun e => h2 (this.2 e))]
end Go.Proofs.Ytfbdhpbnmjacmaa.ds
