/-
  No cell of these rows narrows 'for every input' (looked for: loops, veiled, ifaces, maps, wideKeys, modest, calm, conditions, laid).
  DERIVED. THE GIVEN ROWS OF THIS SEAT. 8 by the template 'for every input the law returns true; each argument reads behind the call as it read before'; 0 by the template 'total and deterministic' (their statements: YtlelnpckbcpkkaaGreatTotals.lean).
  GIVEN WITH THE SEED: the statements are not yours to turn. If you find one false, say at which input.
  Laid BY PROGRAM, IN A SANDBOX (cutbox-rows.mjs): the forced cells as the released guide's own fill.sh prints them over the translation c40facf814fd02f2… (all of the seat's roots in one cut). By AI agents, Wed Nov 11 2026. No macro, syntax, notation, axiom, sorry.
-/
import Derived.Test.YtlelnpckbcpkkaaGreatChecked
import GoSem.Claim
import GoSem.ClaimJoined
import GoSem.ClaimMapViews
import Derived.JoinedTies
import Derived.KernelRfl
namespace Go.Proofs.YtlelnpckbcpkkaaGreat
/- THE CELL 'sum', in the pinned program and in every row, IS THE sha256 OF THE DUMP (.gsa) THAT YtlelnpckbcpkkaaGreatProg.lean LOADS. Nothing in Lean hashes anything: it is a label: what it is worth is what the hold of that sum in a sandbox is worth. -/
noncomputable def Tryz.pinned : Pinned := { name := "ytlelnpckbcpkkaagreat", sum := "c40facf814fd02f2fd40cda412017049ade2b5eb1df984fbdd6733db29436a59", checked := Tryz.checked }
namespace Rows
def none {H : Type} : Left H := { results := [], args := [] }

/-- 'veneerlaw05.BranchDoes': WHATEVER THE INPUT: true; the input reads as it did. -/
def branchDoesSpec : ChangeSpec := { name := "branchDoes", fn := fun _ => fun
  | [d1, d2, d3, d4] => { results := [.lit (.bool true)], args := [d1, d2, d3, d4] }
  | _ => none }
def branchDoesRow : OpenClaim := { program := "ytlelnpckbcpkkaagreat", sum := "c40facf814fd02f2fd40cda412017049ade2b5eb1df984fbdd6733db29436a59", func := "veneer/veneerlaw05.BranchDoes", spec := "branchDoes", inPlace := ["internal/bytealg.IndexByteString", "internal/bytealg.IndexString", "slices.overlaps[veneer/api.Entry]"], unfollowed := true, recurses := true, named := ["internal/bytealg.MaxLen"], apart := false }
def BranchDoesSaid : Prop := branchDoesRow.holds Tryz.pinned (OpenSpec.ofChange branchDoesSpec)

/-- ITS FALSE NEIGHBOUR: 'it returns false'. Refute it at one input. -/
def branchDoesWrong : ChangeSpec := { name := "branchDoes", fn := fun _ => fun
  | [d1, d2, d3, d4] => { results := [.lit (.bool false)], args := [d1, d2, d3, d4] }
  | _ => none }
def BranchDoesWrongFalsely : Prop := branchDoesRow.holds Tryz.pinned (OpenSpec.ofChange branchDoesWrong)

/-- 'veneerlaw05.BranchLinks': WHATEVER THE INPUT: true; the input reads as it did. -/
def branchLinksSpec : ChangeSpec := { name := "branchLinks", fn := fun _ => fun
  | [d1, d2] => { results := [.lit (.bool true)], args := [d1, d2] }
  | _ => none }
def branchLinksRow : OpenClaim := { program := "ytlelnpckbcpkkaagreat", sum := "c40facf814fd02f2fd40cda412017049ade2b5eb1df984fbdd6733db29436a59", func := "veneer/veneerlaw05.BranchLinks", spec := "branchLinks", inPlace := ["internal/bytealg.IndexByteString", "internal/bytealg.IndexString", "slices.overlaps[veneer/api.Entry]"], unfollowed := true, recurses := true, named := ["internal/bytealg.MaxLen"], apart := false }
def BranchLinksSaid : Prop := branchLinksRow.holds Tryz.pinned (OpenSpec.ofChange branchLinksSpec)

/-- ITS FALSE NEIGHBOUR: 'it returns false'. Refute it at one input. -/
def branchLinksWrong : ChangeSpec := { name := "branchLinks", fn := fun _ => fun
  | [d1, d2] => { results := [.lit (.bool false)], args := [d1, d2] }
  | _ => none }
def BranchLinksWrongFalsely : Prop := branchLinksRow.holds Tryz.pinned (OpenSpec.ofChange branchLinksWrong)

/-- 'veneerlaw05.BranchErrors': WHATEVER THE INPUT: true; the input reads as it did. -/
def branchErrorsSpec : ChangeSpec := { name := "branchErrors", fn := fun _ => fun
  | [d1, d2, d3] => { results := [.lit (.bool true)], args := [d1, d2, d3] }
  | _ => none }
def branchErrorsRow : OpenClaim := { program := "ytlelnpckbcpkkaagreat", sum := "c40facf814fd02f2fd40cda412017049ade2b5eb1df984fbdd6733db29436a59", func := "veneer/veneerlaw05.BranchErrors", spec := "branchErrors", inPlace := ["internal/bytealg.IndexByteString", "internal/bytealg.IndexString", "slices.overlaps[veneer/api.Entry]"], unfollowed := true, recurses := true, named := ["internal/bytealg.MaxLen"], apart := false }
def BranchErrorsSaid : Prop := branchErrorsRow.holds Tryz.pinned (OpenSpec.ofChange branchErrorsSpec)

/-- ITS FALSE NEIGHBOUR: 'it returns false'. Refute it at one input. -/
def branchErrorsWrong : ChangeSpec := { name := "branchErrors", fn := fun _ => fun
  | [d1, d2, d3] => { results := [.lit (.bool false)], args := [d1, d2, d3] }
  | _ => none }
def BranchErrorsWrongFalsely : Prop := branchErrorsRow.holds Tryz.pinned (OpenSpec.ofChange branchErrorsWrong)

/-- 'veneerlaw05.BranchHolds': WHATEVER THE INPUT: true; the input reads as it did. -/
def branchHoldsSpec : ChangeSpec := { name := "branchHolds", fn := fun _ => fun
  | [d1, d2, d3, d4, d5] => { results := [.lit (.bool true)], args := [d1, d2, d3, d4, d5] }
  | _ => none }
def branchHoldsRow : OpenClaim := { program := "ytlelnpckbcpkkaagreat", sum := "c40facf814fd02f2fd40cda412017049ade2b5eb1df984fbdd6733db29436a59", func := "veneer/veneerlaw05.BranchHolds", spec := "branchHolds", inPlace := ["internal/bytealg.IndexByteString", "internal/bytealg.IndexString", "slices.overlaps[veneer/api.Entry]"], unfollowed := true, recurses := true, named := ["internal/bytealg.MaxLen"], apart := false }
def BranchHoldsSaid : Prop := branchHoldsRow.holds Tryz.pinned (OpenSpec.ofChange branchHoldsSpec)

/-- ITS FALSE NEIGHBOUR: 'it returns false'. Refute it at one input. -/
def branchHoldsWrong : ChangeSpec := { name := "branchHolds", fn := fun _ => fun
  | [d1, d2, d3, d4, d5] => { results := [.lit (.bool false)], args := [d1, d2, d3, d4, d5] }
  | _ => none }
def BranchHoldsWrongFalsely : Prop := branchHoldsRow.holds Tryz.pinned (OpenSpec.ofChange branchHoldsWrong)

/-- 'veneerlaw05.BranchMoves': WHATEVER THE INPUT: true; the input reads as it did. -/
def branchMovesSpec : ChangeSpec := { name := "branchMoves", fn := fun _ => fun
  | [d1, d2, d3, d4, d5, d6] => { results := [.lit (.bool true)], args := [d1, d2, d3, d4, d5, d6] }
  | _ => none }
def branchMovesRow : OpenClaim := { program := "ytlelnpckbcpkkaagreat", sum := "c40facf814fd02f2fd40cda412017049ade2b5eb1df984fbdd6733db29436a59", func := "veneer/veneerlaw05.BranchMoves", spec := "branchMoves", inPlace := ["internal/bytealg.IndexByteString", "internal/bytealg.IndexString", "slices.overlaps[veneer/api.Entry]"], unfollowed := true, recurses := true, named := ["internal/bytealg.MaxLen"], apart := false }
def BranchMovesSaid : Prop := branchMovesRow.holds Tryz.pinned (OpenSpec.ofChange branchMovesSpec)

/-- ITS FALSE NEIGHBOUR: 'it returns false'. Refute it at one input. -/
def branchMovesWrong : ChangeSpec := { name := "branchMoves", fn := fun _ => fun
  | [d1, d2, d3, d4, d5, d6] => { results := [.lit (.bool false)], args := [d1, d2, d3, d4, d5, d6] }
  | _ => none }
def BranchMovesWrongFalsely : Prop := branchMovesRow.holds Tryz.pinned (OpenSpec.ofChange branchMovesWrong)

/-- 'veneerlaw05.BranchLowest': WHATEVER THE INPUT: true; the input reads as it did. -/
def branchLowestSpec : ChangeSpec := { name := "branchLowest", fn := fun _ => fun
  | [d1, d2, d3, d4] => { results := [.lit (.bool true)], args := [d1, d2, d3, d4] }
  | _ => none }
def branchLowestRow : OpenClaim := { program := "ytlelnpckbcpkkaagreat", sum := "c40facf814fd02f2fd40cda412017049ade2b5eb1df984fbdd6733db29436a59", func := "veneer/veneerlaw05.BranchLowest", spec := "branchLowest", inPlace := ["internal/bytealg.IndexByteString", "internal/bytealg.IndexString", "slices.overlaps[veneer/api.Entry]"], unfollowed := true, recurses := true, named := ["internal/bytealg.MaxLen"], apart := false }
def BranchLowestSaid : Prop := branchLowestRow.holds Tryz.pinned (OpenSpec.ofChange branchLowestSpec)

/-- ITS FALSE NEIGHBOUR: 'it returns false'. Refute it at one input. -/
def branchLowestWrong : ChangeSpec := { name := "branchLowest", fn := fun _ => fun
  | [d1, d2, d3, d4] => { results := [.lit (.bool false)], args := [d1, d2, d3, d4] }
  | _ => none }
def BranchLowestWrongFalsely : Prop := branchLowestRow.holds Tryz.pinned (OpenSpec.ofChange branchLowestWrong)

/-- 'veneerlaw05.BranchBack': WHATEVER THE INPUT: true; the input reads as it did. -/
def branchBackSpec : ChangeSpec := { name := "branchBack", fn := fun _ => fun
  | [d1, d2, d3, d4, d5, d6] => { results := [.lit (.bool true)], args := [d1, d2, d3, d4, d5, d6] }
  | _ => none }
def branchBackRow : OpenClaim := { program := "ytlelnpckbcpkkaagreat", sum := "c40facf814fd02f2fd40cda412017049ade2b5eb1df984fbdd6733db29436a59", func := "veneer/veneerlaw05.BranchBack", spec := "branchBack", inPlace := ["internal/bytealg.IndexByteString", "internal/bytealg.IndexString", "slices.overlaps[veneer/api.Entry]"], unfollowed := true, recurses := true, named := ["internal/bytealg.MaxLen"], apart := false }
def BranchBackSaid : Prop := branchBackRow.holds Tryz.pinned (OpenSpec.ofChange branchBackSpec)

/-- ITS FALSE NEIGHBOUR: 'it returns false'. Refute it at one input. -/
def branchBackWrong : ChangeSpec := { name := "branchBack", fn := fun _ => fun
  | [d1, d2, d3, d4, d5, d6] => { results := [.lit (.bool false)], args := [d1, d2, d3, d4, d5, d6] }
  | _ => none }
def BranchBackWrongFalsely : Prop := branchBackRow.holds Tryz.pinned (OpenSpec.ofChange branchBackWrong)

/-- 'veneerlaw05.BranchNames': WHATEVER THE INPUT: true; the input reads as it did. -/
def branchNamesSpec : ChangeSpec := { name := "branchNames", fn := fun _ => fun
  | [d1, d2, d3, d4, d5, d6, d7] => { results := [.lit (.bool true)], args := [d1, d2, d3, d4, d5, d6, d7] }
  | _ => none }
def branchNamesRow : OpenClaim := { program := "ytlelnpckbcpkkaagreat", sum := "c40facf814fd02f2fd40cda412017049ade2b5eb1df984fbdd6733db29436a59", func := "veneer/veneerlaw05.BranchNames", spec := "branchNames", inPlace := ["internal/bytealg.IndexByteString", "internal/bytealg.IndexString", "slices.overlaps[veneer/api.Entry]"], unfollowed := true, recurses := true, named := ["internal/bytealg.MaxLen"], apart := false }
def BranchNamesSaid : Prop := branchNamesRow.holds Tryz.pinned (OpenSpec.ofChange branchNamesSpec)

/-- ITS FALSE NEIGHBOUR: 'it returns false'. Refute it at one input. -/
def branchNamesWrong : ChangeSpec := { name := "branchNames", fn := fun _ => fun
  | [d1, d2, d3, d4, d5, d6, d7] => { results := [.lit (.bool false)], args := [d1, d2, d3, d4, d5, d6, d7] }
  | _ => none }
def BranchNamesWrongFalsely : Prop := branchNamesRow.holds Tryz.pinned (OpenSpec.ofChange branchNamesWrong)

/- THE SECOND FORM. 'bulk': how many values and letters a reading holds, each counted each time it is reached (what is shared counts as often as it is met; a slice's spare places count too). A statement '..UptoSaid' is the law's where the arguments, and the package variables that the reading takes, are together of bulk at most 1048576: NARROWER than '..Said'. Prove '..Said' where nothing that the law and all that it calls make is longer than what came in: it says more and counts as full. Else prove '..UptoSaid'. A law counts once. -/
mutual
def uptoBulk {H : Type} : DataW H → Nat
  | .lit (.string bytes) => bytes.length + 1
  | .lit _ => 1
  | .nil => 1
  | .ptr d => uptoBulk d + 1
  | .slice elems spare => uptoBulkAll elems + uptoBulkAll spare + 1
  | .agg parts => uptoBulkAll parts + 1
  | .iface _ d => uptoBulk d + 1
  | .map entries => uptoBulkEntries entries + 1
  | .held _ => 1
def uptoBulkAll {H : Type} : List (DataW H) → Nat
  | [] => 0
  | d :: r => uptoBulk d + uptoBulkAll r
def uptoBulkEntries {H : Type} : List (Lit × DataW H) → Nat
  | [] => 0
  | x :: r => uptoBulkEntry x + uptoBulkEntries r
def uptoBulkEntry {H : Type} : Lit × DataW H → Nat
  | (.string bytes, d) => bytes.length + uptoBulk d + 1
  | (_, d) => uptoBulk d + 1
 end
def uptoSmall : (H : Type) → List (DataW H) → Bool := fun _ ds => decide (uptoBulkAll ds ≤ 1048576)
def OpenSpec.upto (s : _root_.Go.ChangeSpec) : _root_.Go.OpenSpec := { _root_.Go.OpenSpec.ofChange s with cond := some uptoSmall }

/-- 'veneerlaw05.BranchDoes', WHERE WHAT IT READS IS OF BULK AT MOST 1048576: true; the input reads as it did. -/
def branchDoesUptoRow : OpenClaim := { program := "ytlelnpckbcpkkaagreat", sum := "c40facf814fd02f2fd40cda412017049ade2b5eb1df984fbdd6733db29436a59", func := "veneer/veneerlaw05.BranchDoes", spec := "branchDoes", inPlace := ["internal/bytealg.IndexByteString", "internal/bytealg.IndexString", "slices.overlaps[veneer/api.Entry]"], unfollowed := true, recurses := true, named := ["internal/bytealg.MaxLen"], apart := false, narrowed := true }
def BranchDoesUptoSaid : Prop := branchDoesUptoRow.holds Tryz.pinned (OpenSpec.upto branchDoesSpec)

/-- 'veneerlaw05.BranchLinks', WHERE WHAT IT READS IS OF BULK AT MOST 1048576: true; the input reads as it did. -/
def branchLinksUptoRow : OpenClaim := { program := "ytlelnpckbcpkkaagreat", sum := "c40facf814fd02f2fd40cda412017049ade2b5eb1df984fbdd6733db29436a59", func := "veneer/veneerlaw05.BranchLinks", spec := "branchLinks", inPlace := ["internal/bytealg.IndexByteString", "internal/bytealg.IndexString", "slices.overlaps[veneer/api.Entry]"], unfollowed := true, recurses := true, named := ["internal/bytealg.MaxLen"], apart := false, narrowed := true }
def BranchLinksUptoSaid : Prop := branchLinksUptoRow.holds Tryz.pinned (OpenSpec.upto branchLinksSpec)

/-- 'veneerlaw05.BranchErrors', WHERE WHAT IT READS IS OF BULK AT MOST 1048576: true; the input reads as it did. -/
def branchErrorsUptoRow : OpenClaim := { program := "ytlelnpckbcpkkaagreat", sum := "c40facf814fd02f2fd40cda412017049ade2b5eb1df984fbdd6733db29436a59", func := "veneer/veneerlaw05.BranchErrors", spec := "branchErrors", inPlace := ["internal/bytealg.IndexByteString", "internal/bytealg.IndexString", "slices.overlaps[veneer/api.Entry]"], unfollowed := true, recurses := true, named := ["internal/bytealg.MaxLen"], apart := false, narrowed := true }
def BranchErrorsUptoSaid : Prop := branchErrorsUptoRow.holds Tryz.pinned (OpenSpec.upto branchErrorsSpec)

/-- 'veneerlaw05.BranchHolds', WHERE WHAT IT READS IS OF BULK AT MOST 1048576: true; the input reads as it did. -/
def branchHoldsUptoRow : OpenClaim := { program := "ytlelnpckbcpkkaagreat", sum := "c40facf814fd02f2fd40cda412017049ade2b5eb1df984fbdd6733db29436a59", func := "veneer/veneerlaw05.BranchHolds", spec := "branchHolds", inPlace := ["internal/bytealg.IndexByteString", "internal/bytealg.IndexString", "slices.overlaps[veneer/api.Entry]"], unfollowed := true, recurses := true, named := ["internal/bytealg.MaxLen"], apart := false, narrowed := true }
def BranchHoldsUptoSaid : Prop := branchHoldsUptoRow.holds Tryz.pinned (OpenSpec.upto branchHoldsSpec)

/-- 'veneerlaw05.BranchMoves', WHERE WHAT IT READS IS OF BULK AT MOST 1048576: true; the input reads as it did. -/
def branchMovesUptoRow : OpenClaim := { program := "ytlelnpckbcpkkaagreat", sum := "c40facf814fd02f2fd40cda412017049ade2b5eb1df984fbdd6733db29436a59", func := "veneer/veneerlaw05.BranchMoves", spec := "branchMoves", inPlace := ["internal/bytealg.IndexByteString", "internal/bytealg.IndexString", "slices.overlaps[veneer/api.Entry]"], unfollowed := true, recurses := true, named := ["internal/bytealg.MaxLen"], apart := false, narrowed := true }
def BranchMovesUptoSaid : Prop := branchMovesUptoRow.holds Tryz.pinned (OpenSpec.upto branchMovesSpec)

/-- 'veneerlaw05.BranchLowest', WHERE WHAT IT READS IS OF BULK AT MOST 1048576: true; the input reads as it did. -/
def branchLowestUptoRow : OpenClaim := { program := "ytlelnpckbcpkkaagreat", sum := "c40facf814fd02f2fd40cda412017049ade2b5eb1df984fbdd6733db29436a59", func := "veneer/veneerlaw05.BranchLowest", spec := "branchLowest", inPlace := ["internal/bytealg.IndexByteString", "internal/bytealg.IndexString", "slices.overlaps[veneer/api.Entry]"], unfollowed := true, recurses := true, named := ["internal/bytealg.MaxLen"], apart := false, narrowed := true }
def BranchLowestUptoSaid : Prop := branchLowestUptoRow.holds Tryz.pinned (OpenSpec.upto branchLowestSpec)

/-- 'veneerlaw05.BranchBack', WHERE WHAT IT READS IS OF BULK AT MOST 1048576: true; the input reads as it did. -/
def branchBackUptoRow : OpenClaim := { program := "ytlelnpckbcpkkaagreat", sum := "c40facf814fd02f2fd40cda412017049ade2b5eb1df984fbdd6733db29436a59", func := "veneer/veneerlaw05.BranchBack", spec := "branchBack", inPlace := ["internal/bytealg.IndexByteString", "internal/bytealg.IndexString", "slices.overlaps[veneer/api.Entry]"], unfollowed := true, recurses := true, named := ["internal/bytealg.MaxLen"], apart := false, narrowed := true }
def BranchBackUptoSaid : Prop := branchBackUptoRow.holds Tryz.pinned (OpenSpec.upto branchBackSpec)

/-- 'veneerlaw05.BranchNames', WHERE WHAT IT READS IS OF BULK AT MOST 1048576: true; the input reads as it did. -/
def branchNamesUptoRow : OpenClaim := { program := "ytlelnpckbcpkkaagreat", sum := "c40facf814fd02f2fd40cda412017049ade2b5eb1df984fbdd6733db29436a59", func := "veneer/veneerlaw05.BranchNames", spec := "branchNames", inPlace := ["internal/bytealg.IndexByteString", "internal/bytealg.IndexString", "slices.overlaps[veneer/api.Entry]"], unfollowed := true, recurses := true, named := ["internal/bytealg.MaxLen"], apart := false, narrowed := true }
def BranchNamesUptoSaid : Prop := branchNamesUptoRow.holds Tryz.pinned (OpenSpec.upto branchNamesSpec)

end Rows
end Go.Proofs.YtlelnpckbcpkkaaGreat
