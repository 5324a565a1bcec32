/- The '==' of entries. -/
import Derived.Test.YtchjidijgdkhoaaAwake
import Derived.Laws.StructEq
namespace Go.Proofs.Ytchjidijgdkhoaa
open Go.RowKit Go.Shelf

theorem en_eq (x y : En) : (x.1.toList == y.1.toList && x.2 == y.2) = decide (x = y) := by
  rw [beq_names]
  by_cases h : x = y
  · subst h; simp
  · rw [decide_eq_false h]
    by_cases h1 : x.1 = y.1
    · have h2 : x.2 ≠ y.2 := fun e => h (Prod.ext h1 e)
      simp [h2]
    · simp [h1]
theorem run_equal37 (x y : En) (w : World) : (Op.equalIn 10000 37 (Ev x) (Ev y)).run Try.prog w = .ok (decide (x = y)) w := by
  have hS : Try.prog.underlying 37 = some (.struct (Try.prog.fieldsOf 37)) := by kernel_rfl
  have hp : Try.prog.stoodInHeld 37 = false := by kernel_rfl
  have u3 := Try.underlying3
  have u9 := Try.underlying9
  have a3 := Try.isAgg3
  have z3 := Try.sizeOf3
  have a9 := Try.isAgg9
  have z9 := Try.sizeOf9
  rw [show (10000 : Nat) = 9999 + 1 from rfl, run_equalIn_agg w 9999 37 _ _ hS hp, ← en_eq]
  simp only [Program.fieldsOf, Try.underlying37]
  go_simp
  by_cases h1 : x.1.toList = y.1.toList <;> by_cases h2 : x.2 = y.2 <;> simp [h1, h2]
theorem run_neq37 (x y : En) (w : World) : (binOp .neq 37 (Ev x) (Ev y)).run Try.prog w = .ok (.bool (!decide (x = y))) w := by
  rw [run_neq_struct, run_equal37]; rfl
theorem run_eql37 (x y : En) (w : World) : (binOp .eql 37 (Ev x) (Ev y)).run Try.prog w = .ok (.bool (decide (x = y))) w := by
  rw [run_eql_struct, run_equal37]; rfl
theorem guard37 (op : BinOp) (a b : Operand) (xs ys : Array Value) (w : World) : (eqGuard op 37 a b (.agg xs) (.agg ys)).run Try.prog w = .ok () w := run_eqGuard_agg w op 37 a b xs ys (by kernel_rfl)
end Go.Proofs.Ytchjidijgdkhoaa
