/- Words for memory: items in a row of the call's own; worlds that turn nothing below. -/
import Derived.Test.YtlplbpilpkmoaaaRows
import Derived.Test.YtlplbpilpkmoaaaHa
import Derived.Test.YtlplbpilpkmoaaaQb
import Derived.WalkKit
import Derived.WalkSpells
import Derived.WalkLawsBesides
import Derived.Lib.Hide
import Derived.Deep.LoopGhost
import Derived.Deep.DeepMust
import Derived.Deep.DeepFit
import Derived.Deep.QuietTactic
import Derived.BigQuiet
import Derived.Below
import Derived.Deep.DeepCutAuto
namespace Go.Proofs.Ytlplbpilpkmoaaa.hp
open Go.RowKit
set_option linter.unusedVariables false

abbrev Iv (k t : Int) (m : Bool) : Value := .agg #[.int .i64 k, .int .i64 t, .bool m]
theorem below_alloc (w : World) (o : Obj) : Below w.heap.size w (w.alloc o) := (Below.refl _ _).alloc (Nat.le_refl _) _
theorem below_step {w0 w w' : World} (h : Below w0.heap.size w0 w) (hb : Below w.heap.size w w') : Below w0.heap.size w0 w' := h.trans (hb.mono h.size)

/-- A world that came of w and has turned nothing that lay in it: one name for both. -/
structure BelowOf (w : World) where
  W : World
  h : Below w.heap.size w W
instance (w : World) : Inhabited (BelowOf w) := ⟨⟨w, Below.refl _ _⟩⟩
theorem wp_region_below {id : Nat} {Q : Exit → Act → World → Prop} {a : Act} {w : World} {l : List Oper} (hm : Try.prog.follows .mixedOrders = true) (hB : Region.lexB .any l.toArray = true)
    (h : wpQuiet Try.prog l.toArray (fun w' => ∃ p : BelowOf w, w' = p.W) (fun a' => ∀ w', (∃ p : BelowOf w, w' = p.W) → Q .normal a' w') l a) : (Code.region id l.toArray true).wp Try.prog Q a w :=
  wp_region_quiet (C := fun w' => ∃ p : BelowOf w, w' = p.W) hm hB ⟨⟨w.drew, (Below.refl _ _).drew⟩, rfl⟩ (by simpa using h)
theorem calls_below {f : FuncId} {args : Array Value} {w : World} (p : BelowOf w) {v : Value}
    (h : Calls Try.prog f args p.W fun e w' => e = .returned v ∧ Below p.W.heap.size p.W w') : Calls Try.prog f args p.W fun e w'' => e = .returned v ∧ ∃ q : BelowOf w, w'' = q.W :=
  h.mono fun _ w' ⟨he, hb⟩ => ⟨he, ⟨w', below_step p.h hb⟩, rfl⟩
def RetB (w : World) (b : Bool) (e : Ending) (w' : World) : Prop := e = .returned (.bool b) ∧ Below w.heap.size w w'

set_option maxHeartbeats 400000 in
theorem before_any (k t : Int) (m : Bool) (k' t' : Int) (m' : Bool) (w : World) : Calls Try.prog 62 #[Iv k t m, Iv k' t' m'] w (RetB w (ltB k t k' t')) := by
  by_cases h : k = k'
  · subst h
    have HE := Lib.hid (ltB_eq (k := k) (t := t) (t' := t'))
    generalize hr : ltB k t k t' = r at HE ⊢
    clear hr
    go_enter Try.func62, Try.ntmps62
    go_wp2
    go_ret
    exact ⟨by rw [HE.out]; rfl, ((Below.refl _ _).alloc (Nat.le_refl _) _).alloc (by simp) _⟩
  · have HE := Lib.hid (ltB_ne (t := t) (t' := t') h)
    have hb : (k == k') = false := by simpa using h
    go_enter Try.func62, Try.ntmps62
    go_wp2
    go_ret
    exact ⟨by rw [HE.out]; rfl, ((Below.refl _ _).alloc (Nat.le_refl _) _).alloc (by simp) _⟩
end Go.Proofs.Ytlplbpilpkmoaaa.hp
