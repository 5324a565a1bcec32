/- Words that the laws share, more. -/
import Derived.Test.YtpnnonphagddgaaLaw0
namespace Go.Proofs.Ytpnnonphagddgaa
open Go.RowKit
set_option linter.unusedVariables false
set_option linter.unusedSimpArgs false

theorem WR.eq {b : AB} {used room len p q : Nat} {off e f : Int} (h : WR b used room off len p e) (k : WR b used room off len q f) : p = q ∧ e = f := by
  rcases h with ⟨h1, h2, h3⟩ | ⟨h1, h0, h2, h3⟩ | ⟨h1, h0, h2, h3⟩ | ⟨h1, h0, h2, h3, h4⟩ <;> rcases k with ⟨k1, k2, k3⟩ | ⟨k1, k0, k2, k3⟩ | ⟨k1, k0, k2, k3⟩ | ⟨k1, k0, k2, k3, k4⟩
  all_goals first
    | (exfalso; omega)
    | exact ⟨h2.trans k2.symm, h3.trans k3.symm⟩
    | (have e := h3.eq k3; subst e; exact ⟨rfl, h4.trans k4.symm⟩)
end Go.Proofs.Ytpnnonphagddgaa
