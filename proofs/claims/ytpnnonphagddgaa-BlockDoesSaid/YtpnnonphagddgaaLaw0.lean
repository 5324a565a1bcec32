/- Words that the laws share. -/
import Derived.Test.YtpnnonphagddgaaAwake
namespace Go.Proofs.Ytpnnonphagddgaa
open Go.RowKit
set_option linter.unusedVariables false
set_option linter.unusedSimpArgs false

theorem readR_all {b : AB} (ok : b.Ok) : readR b 0 65536 = (0, b.size) := by
  have := ok.size
  unfold readR
  rw [if_neg (by omega)]
  congr 1
  show min 65536 (b.size - 0) = b.size
  omega
theorem One.ok {w : World} {S room P Q : Nat} {b : AB} (h : One w S room P Q b) : b.Ok := (h.bod 0 (by omega)).ok
end Go.Proofs.Ytpnnonphagddgaa
