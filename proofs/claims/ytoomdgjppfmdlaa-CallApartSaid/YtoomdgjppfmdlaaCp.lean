/- Bytes that came in, as a text. -/
import Derived.Test.YtoomdgjppfmdlaaCn
namespace Go.Proofs.Ytoomdgjppfmdlaa
open Go.RowKit
set_option linter.unusedVariables false
theorem arg_string {w : World} {B n c : Nat} {A : Option Addr} {l : Bs} (h : Byt w B A l) (hn : n = l.length) : (convert 22 9 (.slice A n c)).run Try.prog w = .ok (Sv l) w := by
  subst hn
  cases A with
  | none =>
    have : l = [] := by
      cases l with
      | nil => rfl
      | cons x y => obtain ⟨G, off, e, _⟩ := h 0 x rfl; cases e
    subst this
    exact Lib.run_convert_nil_bytes w 22 9 5 c Try.underlying22 Try.underlying5 Try.underlying9
  | some ad =>
    refine run_convert_bytes_back w 22 9 5 ad c l Try.underlying22 Try.underlying5 Try.underlying9 ?_
    intro j hj
    obtain ⟨G, off, e, _, hc⟩ := h j _ (List.getElem?_eq_getElem hj)
    injection e with e
    subst e
    rw [Go.WideShapes.add_plain]
    exact hc
end Go.Proofs.Ytoomdgjppfmdlaa
