/-
  No cell of these rows narrows 'for every input' (looked for: loops, veiled, ifaces, maps, wideKeys, modest, calm, conditions, laid).
  DERIVED. THE GIVEN ROWS OF THIS SEAT. 9 by the template 'for every input the law returns true; each argument reads behind the call as it read before'; 0 by the template 'total and deterministic' (their statements: YtgoddboicjfkcaaGreatTotals.lean).
  GIVEN WITH THE SEED: the statements are not yours to turn. If you find one false, say at which input.
  Laid BY PROGRAM, IN A SANDBOX (cutbox-rows.mjs): the forced cells as the released guide's own fill.sh prints them over the translation c108e5b79e49b8b9… (all of the seat's roots in one cut). By AI agents, Wed Nov 11 2026. No macro, syntax, notation, axiom, sorry.
-/
import Derived.Test.YtgoddboicjfkcaaGreatChecked
import GoSem.Claim
import GoSem.ClaimJoined
import GoSem.ClaimMapViews
import Derived.JoinedTies
import Derived.KernelRfl
namespace Go.Proofs.YtgoddboicjfkcaaGreat
/- THE CELL 'sum', in the pinned program and in every row, IS THE sha256 OF THE DUMP (.gsa) THAT YtgoddboicjfkcaaGreatProg.lean LOADS. Nothing in Lean hashes anything: it is a label: what it is worth is what the hold of that sum in a sandbox is worth. -/
noncomputable def Tryz.pinned : Pinned := { name := "ytgoddboicjfkcaagreat", sum := "c108e5b79e49b8b9c445088e13632771a34d55408fc583e349528f4589ba6442", checked := Tryz.checked }
namespace Rows
def none {H : Type} : Left H := { results := [], args := [] }

/-- 'veneerlaw10.MergeTells': WHATEVER THE INPUT: true; the input reads as it did. -/
def mergeTellsSpec : ChangeSpec := { name := "mergeTells", fn := fun _ => fun
  | [d1, d2, d3, d4, d5, d6, d7] => { results := [.lit (.bool true)], args := [d1, d2, d3, d4, d5, d6, d7] }
  | _ => none }
def mergeTellsRow : OpenClaim := { program := "ytgoddboicjfkcaagreat", sum := "c108e5b79e49b8b9c445088e13632771a34d55408fc583e349528f4589ba6442", func := "veneer/veneerlaw10.MergeTells", spec := "mergeTells", inPlace := ["internal/bytealg.IndexByteString", "internal/bytealg.IndexString", "slices.overlaps[veneer/api.Entry]", "internal/reflectlite.ValueOf", "internal/reflectlite.Swapper", "(internal/reflectlite.Value).Len"], unfollowed := true, recurses := true, named := ["internal/bytealg.MaxLen"], apart := false }
def MergeTellsSaid : Prop := mergeTellsRow.holds Tryz.pinned (OpenSpec.ofChange mergeTellsSpec)

/-- ITS FALSE NEIGHBOUR: 'it returns false'. Refute it at one input. -/
def mergeTellsWrong : ChangeSpec := { name := "mergeTells", fn := fun _ => fun
  | [d1, d2, d3, d4, d5, d6, d7] => { results := [.lit (.bool false)], args := [d1, d2, d3, d4, d5, d6, d7] }
  | _ => none }
def MergeTellsWrongFalsely : Prop := mergeTellsRow.holds Tryz.pinned (OpenSpec.ofChange mergeTellsWrong)

/-- 'veneerlaw11.FlatOf': WHATEVER THE INPUT: true; the input reads as it did. -/
def flatOfSpec : ChangeSpec := { name := "flatOf", fn := fun _ => fun
  | [d1, d2, d3] => { results := [.lit (.bool true)], args := [d1, d2, d3] }
  | _ => none }
def flatOfRow : OpenClaim := { program := "ytgoddboicjfkcaagreat", sum := "c108e5b79e49b8b9c445088e13632771a34d55408fc583e349528f4589ba6442", func := "veneer/veneerlaw11.FlatOf", spec := "flatOf", inPlace := ["internal/bytealg.IndexByteString", "internal/bytealg.IndexString", "slices.overlaps[veneer/api.Entry]", "internal/reflectlite.ValueOf", "internal/reflectlite.Swapper", "(internal/reflectlite.Value).Len", "internal/abi.NoEscape"], unfollowed := true, recurses := true, named := ["internal/bytealg.MaxLen"], apart := false }
def FlatOfSaid : Prop := flatOfRow.holds Tryz.pinned (OpenSpec.ofChange flatOfSpec)

/-- ITS FALSE NEIGHBOUR: 'it returns false'. Refute it at one input. -/
def flatOfWrong : ChangeSpec := { name := "flatOf", fn := fun _ => fun
  | [d1, d2, d3] => { results := [.lit (.bool false)], args := [d1, d2, d3] }
  | _ => none }
def FlatOfWrongFalsely : Prop := flatOfRow.holds Tryz.pinned (OpenSpec.ofChange flatOfWrong)

/-- 'veneerlaw12.CopyView': WHATEVER THE INPUT: true; the input reads as it did. -/
def copyViewSpec : ChangeSpec := { name := "copyView", fn := fun _ => fun
  | [d1, d2, d3, d4] => { results := [.lit (.bool true)], args := [d1, d2, d3, d4] }
  | _ => none }
def copyViewRow : OpenClaim := { program := "ytgoddboicjfkcaagreat", sum := "c108e5b79e49b8b9c445088e13632771a34d55408fc583e349528f4589ba6442", func := "veneer/veneerlaw12.CopyView", spec := "copyView", inPlace := ["internal/bytealg.IndexByteString", "internal/bytealg.IndexString", "slices.overlaps[veneer/api.Entry]", "internal/reflectlite.ValueOf", "internal/reflectlite.Swapper", "(internal/reflectlite.Value).Len", "internal/abi.NoEscape"], unfollowed := true, recurses := true, named := ["internal/bytealg.MaxLen"], apart := false }
def CopyViewSaid : Prop := copyViewRow.holds Tryz.pinned (OpenSpec.ofChange copyViewSpec)

/-- ITS FALSE NEIGHBOUR: 'it returns false'. Refute it at one input. -/
def copyViewWrong : ChangeSpec := { name := "copyView", fn := fun _ => fun
  | [d1, d2, d3, d4] => { results := [.lit (.bool false)], args := [d1, d2, d3, d4] }
  | _ => none }
def CopyViewWrongFalsely : Prop := copyViewRow.holds Tryz.pinned (OpenSpec.ofChange copyViewWrong)

/-- 'veneerlaw12.CopyUp': WHATEVER THE INPUT: true; the input reads as it did. -/
def copyUpSpec : ChangeSpec := { name := "copyUp", fn := fun _ => fun
  | [d1, d2, d3, d4] => { results := [.lit (.bool true)], args := [d1, d2, d3, d4] }
  | _ => none }
def copyUpRow : OpenClaim := { program := "ytgoddboicjfkcaagreat", sum := "c108e5b79e49b8b9c445088e13632771a34d55408fc583e349528f4589ba6442", func := "veneer/veneerlaw12.CopyUp", spec := "copyUp", inPlace := ["internal/bytealg.IndexByteString", "internal/bytealg.IndexString", "slices.overlaps[veneer/api.Entry]", "internal/reflectlite.ValueOf", "internal/reflectlite.Swapper", "(internal/reflectlite.Value).Len"], unfollowed := true, recurses := true, named := ["internal/bytealg.MaxLen"], apart := false }
def CopyUpSaid : Prop := copyUpRow.holds Tryz.pinned (OpenSpec.ofChange copyUpSpec)

/-- ITS FALSE NEIGHBOUR: 'it returns false'. Refute it at one input. -/
def copyUpWrong : ChangeSpec := { name := "copyUp", fn := fun _ => fun
  | [d1, d2, d3, d4] => { results := [.lit (.bool false)], args := [d1, d2, d3, d4] }
  | _ => none }
def CopyUpWrongFalsely : Prop := copyUpRow.holds Tryz.pinned (OpenSpec.ofChange copyUpWrong)

/-- 'veneerlaw12.CopyDeep': WHATEVER THE INPUT: true; the input reads as it did. -/
def copyDeepSpec : ChangeSpec := { name := "copyDeep", fn := fun _ => fun
  | [d1, d2, d3, d4] => { results := [.lit (.bool true)], args := [d1, d2, d3, d4] }
  | _ => none }
def copyDeepRow : OpenClaim := { program := "ytgoddboicjfkcaagreat", sum := "c108e5b79e49b8b9c445088e13632771a34d55408fc583e349528f4589ba6442", func := "veneer/veneerlaw12.CopyDeep", spec := "copyDeep", inPlace := ["internal/bytealg.IndexByteString", "internal/bytealg.IndexString", "slices.overlaps[veneer/api.Entry]", "internal/reflectlite.ValueOf", "internal/reflectlite.Swapper", "(internal/reflectlite.Value).Len"], unfollowed := true, recurses := true, named := ["internal/bytealg.MaxLen"], apart := false }
def CopyDeepSaid : Prop := copyDeepRow.holds Tryz.pinned (OpenSpec.ofChange copyDeepSpec)

/-- ITS FALSE NEIGHBOUR: 'it returns false'. Refute it at one input. -/
def copyDeepWrong : ChangeSpec := { name := "copyDeep", fn := fun _ => fun
  | [d1, d2, d3, d4] => { results := [.lit (.bool false)], args := [d1, d2, d3, d4] }
  | _ => none }
def CopyDeepWrongFalsely : Prop := copyDeepRow.holds Tryz.pinned (OpenSpec.ofChange copyDeepWrong)

/-- 'veneerlaw12.CopyHides': WHATEVER THE INPUT: true; the input reads as it did. -/
def copyHidesSpec : ChangeSpec := { name := "copyHides", fn := fun _ => fun
  | [d1, d2, d3, d4] => { results := [.lit (.bool true)], args := [d1, d2, d3, d4] }
  | _ => none }
def copyHidesRow : OpenClaim := { program := "ytgoddboicjfkcaagreat", sum := "c108e5b79e49b8b9c445088e13632771a34d55408fc583e349528f4589ba6442", func := "veneer/veneerlaw12.CopyHides", spec := "copyHides", inPlace := ["internal/bytealg.IndexByteString", "internal/bytealg.IndexString", "slices.overlaps[veneer/api.Entry]", "internal/reflectlite.ValueOf", "internal/reflectlite.Swapper", "(internal/reflectlite.Value).Len"], unfollowed := true, recurses := true, named := ["internal/bytealg.MaxLen"], apart := false }
def CopyHidesSaid : Prop := copyHidesRow.holds Tryz.pinned (OpenSpec.ofChange copyHidesSpec)

/-- ITS FALSE NEIGHBOUR: 'it returns false'. Refute it at one input. -/
def copyHidesWrong : ChangeSpec := { name := "copyHides", fn := fun _ => fun
  | [d1, d2, d3, d4] => { results := [.lit (.bool false)], args := [d1, d2, d3, d4] }
  | _ => none }
def CopyHidesWrongFalsely : Prop := copyHidesRow.holds Tryz.pinned (OpenSpec.ofChange copyHidesWrong)

/-- 'veneerlaw12.CopyChains': WHATEVER THE INPUT: true; the input reads as it did. -/
def copyChainsSpec : ChangeSpec := { name := "copyChains", fn := fun _ => fun
  | [d1, d2, d3, d4] => { results := [.lit (.bool true)], args := [d1, d2, d3, d4] }
  | _ => none }
def copyChainsRow : OpenClaim := { program := "ytgoddboicjfkcaagreat", sum := "c108e5b79e49b8b9c445088e13632771a34d55408fc583e349528f4589ba6442", func := "veneer/veneerlaw12.CopyChains", spec := "copyChains", inPlace := ["internal/bytealg.IndexByteString", "internal/bytealg.IndexString", "slices.overlaps[veneer/api.Entry]", "internal/reflectlite.ValueOf", "internal/reflectlite.Swapper", "(internal/reflectlite.Value).Len"], unfollowed := true, recurses := true, named := ["internal/bytealg.MaxLen"], apart := false }
def CopyChainsSaid : Prop := copyChainsRow.holds Tryz.pinned (OpenSpec.ofChange copyChainsSpec)

/-- ITS FALSE NEIGHBOUR: 'it returns false'. Refute it at one input. -/
def copyChainsWrong : ChangeSpec := { name := "copyChains", fn := fun _ => fun
  | [d1, d2, d3, d4] => { results := [.lit (.bool false)], args := [d1, d2, d3, d4] }
  | _ => none }
def CopyChainsWrongFalsely : Prop := copyChainsRow.holds Tryz.pinned (OpenSpec.ofChange copyChainsWrong)

/-- 'veneerlaw12.CopyRoom': WHATEVER THE INPUT: true; the input reads as it did. -/
def copyRoomSpec : ChangeSpec := { name := "copyRoom", fn := fun _ => fun
  | [d1, d2, d3, d4] => { results := [.lit (.bool true)], args := [d1, d2, d3, d4] }
  | _ => none }
def copyRoomRow : OpenClaim := { program := "ytgoddboicjfkcaagreat", sum := "c108e5b79e49b8b9c445088e13632771a34d55408fc583e349528f4589ba6442", func := "veneer/veneerlaw12.CopyRoom", spec := "copyRoom", inPlace := ["internal/bytealg.IndexByteString", "internal/bytealg.IndexString", "slices.overlaps[veneer/api.Entry]", "internal/reflectlite.ValueOf", "internal/reflectlite.Swapper", "(internal/reflectlite.Value).Len"], unfollowed := true, recurses := true, named := ["internal/bytealg.MaxLen"], apart := false }
def CopyRoomSaid : Prop := copyRoomRow.holds Tryz.pinned (OpenSpec.ofChange copyRoomSpec)

/-- ITS FALSE NEIGHBOUR: 'it returns false'. Refute it at one input. -/
def copyRoomWrong : ChangeSpec := { name := "copyRoom", fn := fun _ => fun
  | [d1, d2, d3, d4] => { results := [.lit (.bool false)], args := [d1, d2, d3, d4] }
  | _ => none }
def CopyRoomWrongFalsely : Prop := copyRoomRow.holds Tryz.pinned (OpenSpec.ofChange copyRoomWrong)

/-- 'veneerlaw12.CopyHoles': WHATEVER THE INPUT: true; the input reads as it did. -/
def copyHolesSpec : ChangeSpec := { name := "copyHoles", fn := fun _ => fun
  | [d] => { results := [.lit (.bool true)], args := [d] }
  | _ => none }
def copyHolesRow : OpenClaim := { program := "ytgoddboicjfkcaagreat", sum := "c108e5b79e49b8b9c445088e13632771a34d55408fc583e349528f4589ba6442", func := "veneer/veneerlaw12.CopyHoles", spec := "copyHoles", inPlace := ["internal/bytealg.IndexByteString", "internal/bytealg.IndexString", "slices.overlaps[veneer/api.Entry]", "internal/reflectlite.ValueOf", "internal/reflectlite.Swapper", "(internal/reflectlite.Value).Len"], unfollowed := true, recurses := true, named := ["internal/bytealg.MaxLen"], apart := false }
def CopyHolesSaid : Prop := copyHolesRow.holds Tryz.pinned (OpenSpec.ofChange copyHolesSpec)

/-- ITS FALSE NEIGHBOUR: 'it returns false'. Refute it at one input. -/
def copyHolesWrong : ChangeSpec := { name := "copyHoles", fn := fun _ => fun
  | [d] => { results := [.lit (.bool false)], args := [d] }
  | _ => none }
def CopyHolesWrongFalsely : Prop := copyHolesRow.holds Tryz.pinned (OpenSpec.ofChange copyHolesWrong)

/- THE SECOND FORM. 'bulk': how many values and letters a reading holds, each counted each time it is reached (what is shared counts as often as it is met; a slice's spare places count too). A statement '..UptoSaid' is the law's where the arguments, and the package variables that the reading takes, are together of bulk at most 1048576: NARROWER than '..Said'. Prove '..Said' where nothing that the law and all that it calls make is longer than what came in: it says more and counts as full. Else prove '..UptoSaid'. A law counts once. -/
mutual
def uptoBulk {H : Type} : DataW H → Nat
  | .lit (.string bytes) => bytes.length + 1
  | .lit _ => 1
  | .nil => 1
  | .ptr d => uptoBulk d + 1
  | .slice elems spare => uptoBulkAll elems + uptoBulkAll spare + 1
  | .agg parts => uptoBulkAll parts + 1
  | .iface _ d => uptoBulk d + 1
  | .map entries => uptoBulkEntries entries + 1
  | .held _ => 1
def uptoBulkAll {H : Type} : List (DataW H) → Nat
  | [] => 0
  | d :: r => uptoBulk d + uptoBulkAll r
def uptoBulkEntries {H : Type} : List (Lit × DataW H) → Nat
  | [] => 0
  | x :: r => uptoBulkEntry x + uptoBulkEntries r
def uptoBulkEntry {H : Type} : Lit × DataW H → Nat
  | (.string bytes, d) => bytes.length + uptoBulk d + 1
  | (_, d) => uptoBulk d + 1
 end
def uptoSmall : (H : Type) → List (DataW H) → Bool := fun _ ds => decide (uptoBulkAll ds ≤ 1048576)
def OpenSpec.upto (s : _root_.Go.ChangeSpec) : _root_.Go.OpenSpec := { _root_.Go.OpenSpec.ofChange s with cond := some uptoSmall }

/-- 'veneerlaw10.MergeTells', WHERE WHAT IT READS IS OF BULK AT MOST 1048576: true; the input reads as it did. -/
def mergeTellsUptoRow : OpenClaim := { program := "ytgoddboicjfkcaagreat", sum := "c108e5b79e49b8b9c445088e13632771a34d55408fc583e349528f4589ba6442", func := "veneer/veneerlaw10.MergeTells", spec := "mergeTells", inPlace := ["internal/bytealg.IndexByteString", "internal/bytealg.IndexString", "slices.overlaps[veneer/api.Entry]", "internal/reflectlite.ValueOf", "internal/reflectlite.Swapper", "(internal/reflectlite.Value).Len"], unfollowed := true, recurses := true, named := ["internal/bytealg.MaxLen"], apart := false, narrowed := true }
def MergeTellsUptoSaid : Prop := mergeTellsUptoRow.holds Tryz.pinned (OpenSpec.upto mergeTellsSpec)

/-- 'veneerlaw11.FlatOf', WHERE WHAT IT READS IS OF BULK AT MOST 1048576: true; the input reads as it did. -/
def flatOfUptoRow : OpenClaim := { program := "ytgoddboicjfkcaagreat", sum := "c108e5b79e49b8b9c445088e13632771a34d55408fc583e349528f4589ba6442", func := "veneer/veneerlaw11.FlatOf", spec := "flatOf", inPlace := ["internal/bytealg.IndexByteString", "internal/bytealg.IndexString", "slices.overlaps[veneer/api.Entry]", "internal/reflectlite.ValueOf", "internal/reflectlite.Swapper", "(internal/reflectlite.Value).Len", "internal/abi.NoEscape"], unfollowed := true, recurses := true, named := ["internal/bytealg.MaxLen"], apart := false, narrowed := true }
def FlatOfUptoSaid : Prop := flatOfUptoRow.holds Tryz.pinned (OpenSpec.upto flatOfSpec)

/-- 'veneerlaw12.CopyView', WHERE WHAT IT READS IS OF BULK AT MOST 1048576: true; the input reads as it did. -/
def copyViewUptoRow : OpenClaim := { program := "ytgoddboicjfkcaagreat", sum := "c108e5b79e49b8b9c445088e13632771a34d55408fc583e349528f4589ba6442", func := "veneer/veneerlaw12.CopyView", spec := "copyView", inPlace := ["internal/bytealg.IndexByteString", "internal/bytealg.IndexString", "slices.overlaps[veneer/api.Entry]", "internal/reflectlite.ValueOf", "internal/reflectlite.Swapper", "(internal/reflectlite.Value).Len", "internal/abi.NoEscape"], unfollowed := true, recurses := true, named := ["internal/bytealg.MaxLen"], apart := false, narrowed := true }
def CopyViewUptoSaid : Prop := copyViewUptoRow.holds Tryz.pinned (OpenSpec.upto copyViewSpec)

/-- 'veneerlaw12.CopyUp', WHERE WHAT IT READS IS OF BULK AT MOST 1048576: true; the input reads as it did. -/
def copyUpUptoRow : OpenClaim := { program := "ytgoddboicjfkcaagreat", sum := "c108e5b79e49b8b9c445088e13632771a34d55408fc583e349528f4589ba6442", func := "veneer/veneerlaw12.CopyUp", spec := "copyUp", inPlace := ["internal/bytealg.IndexByteString", "internal/bytealg.IndexString", "slices.overlaps[veneer/api.Entry]", "internal/reflectlite.ValueOf", "internal/reflectlite.Swapper", "(internal/reflectlite.Value).Len"], unfollowed := true, recurses := true, named := ["internal/bytealg.MaxLen"], apart := false, narrowed := true }
def CopyUpUptoSaid : Prop := copyUpUptoRow.holds Tryz.pinned (OpenSpec.upto copyUpSpec)

/-- 'veneerlaw12.CopyDeep', WHERE WHAT IT READS IS OF BULK AT MOST 1048576: true; the input reads as it did. -/
def copyDeepUptoRow : OpenClaim := { program := "ytgoddboicjfkcaagreat", sum := "c108e5b79e49b8b9c445088e13632771a34d55408fc583e349528f4589ba6442", func := "veneer/veneerlaw12.CopyDeep", spec := "copyDeep", inPlace := ["internal/bytealg.IndexByteString", "internal/bytealg.IndexString", "slices.overlaps[veneer/api.Entry]", "internal/reflectlite.ValueOf", "internal/reflectlite.Swapper", "(internal/reflectlite.Value).Len"], unfollowed := true, recurses := true, named := ["internal/bytealg.MaxLen"], apart := false, narrowed := true }
def CopyDeepUptoSaid : Prop := copyDeepUptoRow.holds Tryz.pinned (OpenSpec.upto copyDeepSpec)

/-- 'veneerlaw12.CopyHides', WHERE WHAT IT READS IS OF BULK AT MOST 1048576: true; the input reads as it did. -/
def copyHidesUptoRow : OpenClaim := { program := "ytgoddboicjfkcaagreat", sum := "c108e5b79e49b8b9c445088e13632771a34d55408fc583e349528f4589ba6442", func := "veneer/veneerlaw12.CopyHides", spec := "copyHides", inPlace := ["internal/bytealg.IndexByteString", "internal/bytealg.IndexString", "slices.overlaps[veneer/api.Entry]", "internal/reflectlite.ValueOf", "internal/reflectlite.Swapper", "(internal/reflectlite.Value).Len"], unfollowed := true, recurses := true, named := ["internal/bytealg.MaxLen"], apart := false, narrowed := true }
def CopyHidesUptoSaid : Prop := copyHidesUptoRow.holds Tryz.pinned (OpenSpec.upto copyHidesSpec)

/-- 'veneerlaw12.CopyChains', WHERE WHAT IT READS IS OF BULK AT MOST 1048576: true; the input reads as it did. -/
def copyChainsUptoRow : OpenClaim := { program := "ytgoddboicjfkcaagreat", sum := "c108e5b79e49b8b9c445088e13632771a34d55408fc583e349528f4589ba6442", func := "veneer/veneerlaw12.CopyChains", spec := "copyChains", inPlace := ["internal/bytealg.IndexByteString", "internal/bytealg.IndexString", "slices.overlaps[veneer/api.Entry]", "internal/reflectlite.ValueOf", "internal/reflectlite.Swapper", "(internal/reflectlite.Value).Len"], unfollowed := true, recurses := true, named := ["internal/bytealg.MaxLen"], apart := false, narrowed := true }
def CopyChainsUptoSaid : Prop := copyChainsUptoRow.holds Tryz.pinned (OpenSpec.upto copyChainsSpec)

/-- 'veneerlaw12.CopyRoom', WHERE WHAT IT READS IS OF BULK AT MOST 1048576: true; the input reads as it did. -/
def copyRoomUptoRow : OpenClaim := { program := "ytgoddboicjfkcaagreat", sum := "c108e5b79e49b8b9c445088e13632771a34d55408fc583e349528f4589ba6442", func := "veneer/veneerlaw12.CopyRoom", spec := "copyRoom", inPlace := ["internal/bytealg.IndexByteString", "internal/bytealg.IndexString", "slices.overlaps[veneer/api.Entry]", "internal/reflectlite.ValueOf", "internal/reflectlite.Swapper", "(internal/reflectlite.Value).Len"], unfollowed := true, recurses := true, named := ["internal/bytealg.MaxLen"], apart := false, narrowed := true }
def CopyRoomUptoSaid : Prop := copyRoomUptoRow.holds Tryz.pinned (OpenSpec.upto copyRoomSpec)

/-- 'veneerlaw12.CopyHoles', WHERE WHAT IT READS IS OF BULK AT MOST 1048576: true; the input reads as it did. -/
def copyHolesUptoRow : OpenClaim := { program := "ytgoddboicjfkcaagreat", sum := "c108e5b79e49b8b9c445088e13632771a34d55408fc583e349528f4589ba6442", func := "veneer/veneerlaw12.CopyHoles", spec := "copyHoles", inPlace := ["internal/bytealg.IndexByteString", "internal/bytealg.IndexString", "slices.overlaps[veneer/api.Entry]", "internal/reflectlite.ValueOf", "internal/reflectlite.Swapper", "(internal/reflectlite.Value).Len"], unfollowed := true, recurses := true, named := ["internal/bytealg.MaxLen"], apart := false, narrowed := true }
def CopyHolesUptoSaid : Prop := copyHolesUptoRow.holds Tryz.pinned (OpenSpec.upto copyHolesSpec)

end Rows
end Go.Proofs.YtgoddboicjfkcaaGreat
