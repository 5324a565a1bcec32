/- What a freed body is; regions with loads beside calls. -/
import Derived.Test.YtpnnonphagddgaaFour
import Derived.Deep.RegionHeld3
import Derived.IntWalk
namespace Go.Proofs.Ytpnnonphagddgaa
open Go.RowKit
set_option linter.unusedVariables false
set_option linter.unusedSimpArgs false

theorem cut0 {b : AB} : (cut b 0).size = 0 ∧ (cut b 0).n = 0 ∧ holesL (((cut b 0).size + 15) / 16) (cut b 0).th = [] := by
  have h1 : cut b 0 = cutB b 0 := by unfold cut; rw [if_pos (by omega)]; rfl
  rw [h1]
  refine ⟨rfl, ?_, by show (List.range ((0 + 15) / 16)).filter _ = []; simp⟩
  have := cnt_le (N := 4096) (f := (cutB b 0).th) (g := fun _ => false) (fun k hk => by unfold cutB at hk; simp at hk)
  rw [cnt_none] at this
  exact Nat.le_zero.1 this
end Go.Proofs.Ytpnnonphagddgaa
