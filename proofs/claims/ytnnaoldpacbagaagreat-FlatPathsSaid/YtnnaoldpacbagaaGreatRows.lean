/-
  No cell of these rows narrows 'for every input' (looked for: loops, veiled, ifaces, maps, wideKeys, modest, calm, conditions, laid).
  DERIVED. THE GIVEN ROWS OF THIS SEAT. 5 by the template 'for every input the law returns true; each argument reads behind the call as it read before'; 0 by the template 'total and deterministic' (their statements: YtnnaoldpacbagaaGreatTotals.lean).
  GIVEN WITH THE SEED: the statements are not yours to turn. If you find one false, say at which input.
  Laid BY PROGRAM, IN A SANDBOX (cutbox-rows.mjs): the forced cells as the released guide's own fill.sh prints them over the translation 9dd2ae5cc61375f1… (all of the seat's roots in one cut). By AI agents, Wed Nov 11 2026. No macro, syntax, notation, axiom, sorry.
-/
import Derived.Test.YtnnaoldpacbagaaGreatChecked
import GoSem.Claim
import GoSem.ClaimJoined
import GoSem.ClaimMapViews
import Derived.JoinedTies
import Derived.KernelRfl
namespace Go.Proofs.YtnnaoldpacbagaaGreat
/- THE CELL 'sum', in the pinned program and in every row, IS THE sha256 OF THE DUMP (.gsa) THAT YtnnaoldpacbagaaGreatProg.lean LOADS. Nothing in Lean hashes anything: it is a label: what it is worth is what the hold of that sum in a sandbox is worth. -/
noncomputable def Tryz.pinned : Pinned := { name := "ytnnaoldpacbagaagreat", sum := "9dd2ae5cc61375f195bcb354ee8648d069cf9b880651ce66259c780424d8f46f", checked := Tryz.checked }
namespace Rows
def none {H : Type} : Left H := { results := [], args := [] }

/-- 'veneerlaw10.MergeTells': WHATEVER THE INPUT: true; the input reads as it did. -/
def mergeTellsSpec : ChangeSpec := { name := "mergeTells", fn := fun _ => fun
  | [d1, d2, d3, d4, d5, d6, d7] => { results := [.lit (.bool true)], args := [d1, d2, d3, d4, d5, d6, d7] }
  | _ => none }
def mergeTellsRow : OpenClaim := { program := "ytnnaoldpacbagaagreat", sum := "9dd2ae5cc61375f195bcb354ee8648d069cf9b880651ce66259c780424d8f46f", func := "veneer/veneerlaw10.MergeTells", spec := "mergeTells", inPlace := ["internal/bytealg.IndexByteString", "internal/bytealg.IndexString", "slices.overlaps[veneer/api.Entry]", "internal/reflectlite.ValueOf", "internal/reflectlite.Swapper", "(internal/reflectlite.Value).Len"], unfollowed := true, recurses := true, named := ["internal/bytealg.MaxLen"], apart := false }
def MergeTellsSaid : Prop := mergeTellsRow.holds Tryz.pinned (OpenSpec.ofChange mergeTellsSpec)

/-- ITS FALSE NEIGHBOUR: 'it returns false'. Refute it at one input. -/
def mergeTellsWrong : ChangeSpec := { name := "mergeTells", fn := fun _ => fun
  | [d1, d2, d3, d4, d5, d6, d7] => { results := [.lit (.bool false)], args := [d1, d2, d3, d4, d5, d6, d7] }
  | _ => none }
def MergeTellsWrongFalsely : Prop := mergeTellsRow.holds Tryz.pinned (OpenSpec.ofChange mergeTellsWrong)

/-- 'veneerlaw11.FlatOf': WHATEVER THE INPUT: true; the input reads as it did. -/
def flatOfSpec : ChangeSpec := { name := "flatOf", fn := fun _ => fun
  | [d1, d2, d3] => { results := [.lit (.bool true)], args := [d1, d2, d3] }
  | _ => none }
def flatOfRow : OpenClaim := { program := "ytnnaoldpacbagaagreat", sum := "9dd2ae5cc61375f195bcb354ee8648d069cf9b880651ce66259c780424d8f46f", func := "veneer/veneerlaw11.FlatOf", spec := "flatOf", inPlace := ["internal/bytealg.IndexByteString", "internal/bytealg.IndexString", "slices.overlaps[veneer/api.Entry]", "internal/reflectlite.ValueOf", "internal/reflectlite.Swapper", "(internal/reflectlite.Value).Len", "internal/abi.NoEscape"], unfollowed := true, recurses := true, named := ["internal/bytealg.MaxLen"], apart := false }
def FlatOfSaid : Prop := flatOfRow.holds Tryz.pinned (OpenSpec.ofChange flatOfSpec)

/-- ITS FALSE NEIGHBOUR: 'it returns false'. Refute it at one input. -/
def flatOfWrong : ChangeSpec := { name := "flatOf", fn := fun _ => fun
  | [d1, d2, d3] => { results := [.lit (.bool false)], args := [d1, d2, d3] }
  | _ => none }
def FlatOfWrongFalsely : Prop := flatOfRow.holds Tryz.pinned (OpenSpec.ofChange flatOfWrong)

/-- 'veneerlaw11.FlatSame': WHATEVER THE INPUT: true; the input reads as it did. -/
def flatSameSpec : ChangeSpec := { name := "flatSame", fn := fun _ => fun
  | [d1, d2] => { results := [.lit (.bool true)], args := [d1, d2] }
  | _ => none }
def flatSameRow : OpenClaim := { program := "ytnnaoldpacbagaagreat", sum := "9dd2ae5cc61375f195bcb354ee8648d069cf9b880651ce66259c780424d8f46f", func := "veneer/veneerlaw11.FlatSame", spec := "flatSame", inPlace := ["internal/bytealg.IndexByteString", "internal/bytealg.IndexString", "slices.overlaps[veneer/api.Entry]", "internal/reflectlite.ValueOf", "internal/reflectlite.Swapper", "(internal/reflectlite.Value).Len", "internal/abi.NoEscape"], unfollowed := true, recurses := true, named := ["internal/bytealg.MaxLen"], apart := false }
def FlatSameSaid : Prop := flatSameRow.holds Tryz.pinned (OpenSpec.ofChange flatSameSpec)

/-- ITS FALSE NEIGHBOUR: 'it returns false'. Refute it at one input. -/
def flatSameWrong : ChangeSpec := { name := "flatSame", fn := fun _ => fun
  | [d1, d2] => { results := [.lit (.bool false)], args := [d1, d2] }
  | _ => none }
def FlatSameWrongFalsely : Prop := flatSameRow.holds Tryz.pinned (OpenSpec.ofChange flatSameWrong)

/-- 'veneerlaw11.FlatPaths': WHATEVER THE INPUT: true; the input reads as it did. -/
def flatPathsSpec : ChangeSpec := { name := "flatPaths", fn := fun _ => fun
  | [d] => { results := [.lit (.bool true)], args := [d] }
  | _ => none }
def flatPathsRow : OpenClaim := { program := "ytnnaoldpacbagaagreat", sum := "9dd2ae5cc61375f195bcb354ee8648d069cf9b880651ce66259c780424d8f46f", func := "veneer/veneerlaw11.FlatPaths", spec := "flatPaths", inPlace := ["internal/bytealg.IndexByteString", "internal/bytealg.IndexString", "slices.overlaps[veneer/api.Entry]", "internal/reflectlite.ValueOf", "internal/reflectlite.Swapper", "(internal/reflectlite.Value).Len", "internal/abi.NoEscape"], unfollowed := true, recurses := true, named := ["internal/bytealg.MaxLen"], apart := false }
def FlatPathsSaid : Prop := flatPathsRow.holds Tryz.pinned (OpenSpec.ofChange flatPathsSpec)

/-- ITS FALSE NEIGHBOUR: 'it returns false'. Refute it at one input. -/
def flatPathsWrong : ChangeSpec := { name := "flatPaths", fn := fun _ => fun
  | [d] => { results := [.lit (.bool false)], args := [d] }
  | _ => none }
def FlatPathsWrongFalsely : Prop := flatPathsRow.holds Tryz.pinned (OpenSpec.ofChange flatPathsWrong)

/-- 'veneerlaw11.FlatMany': WHATEVER THE INPUT: true; the input reads as it did. -/
def flatManySpec : ChangeSpec := { name := "flatMany", fn := fun _ => fun
  | [d1, d2] => { results := [.lit (.bool true)], args := [d1, d2] }
  | _ => none }
def flatManyRow : OpenClaim := { program := "ytnnaoldpacbagaagreat", sum := "9dd2ae5cc61375f195bcb354ee8648d069cf9b880651ce66259c780424d8f46f", func := "veneer/veneerlaw11.FlatMany", spec := "flatMany", inPlace := ["internal/bytealg.IndexByteString", "internal/bytealg.IndexString", "slices.overlaps[veneer/api.Entry]", "internal/reflectlite.ValueOf", "internal/reflectlite.Swapper", "(internal/reflectlite.Value).Len", "internal/abi.NoEscape"], unfollowed := true, recurses := true, named := ["internal/bytealg.MaxLen"], apart := false }
def FlatManySaid : Prop := flatManyRow.holds Tryz.pinned (OpenSpec.ofChange flatManySpec)

/-- ITS FALSE NEIGHBOUR: 'it returns false'. Refute it at one input. -/
def flatManyWrong : ChangeSpec := { name := "flatMany", fn := fun _ => fun
  | [d1, d2] => { results := [.lit (.bool false)], args := [d1, d2] }
  | _ => none }
def FlatManyWrongFalsely : Prop := flatManyRow.holds Tryz.pinned (OpenSpec.ofChange flatManyWrong)

/- THE SECOND FORM. 'bulk': how many values and letters a reading holds, each counted each time it is reached (what is shared counts as often as it is met; a slice's spare places count too). A statement '..UptoSaid' is the law's where the arguments, and the package variables that the reading takes, are together of bulk at most 1048576: NARROWER than '..Said'. Prove '..Said' where nothing that the law and all that it calls make is longer than what came in: it says more and counts as full. Else prove '..UptoSaid'. A law counts once. -/
mutual
def uptoBulk {H : Type} : DataW H → Nat
  | .lit (.string bytes) => bytes.length + 1
  | .lit _ => 1
  | .nil => 1
  | .ptr d => uptoBulk d + 1
  | .slice elems spare => uptoBulkAll elems + uptoBulkAll spare + 1
  | .agg parts => uptoBulkAll parts + 1
  | .iface _ d => uptoBulk d + 1
  | .map entries => uptoBulkEntries entries + 1
  | .held _ => 1
def uptoBulkAll {H : Type} : List (DataW H) → Nat
  | [] => 0
  | d :: r => uptoBulk d + uptoBulkAll r
def uptoBulkEntries {H : Type} : List (Lit × DataW H) → Nat
  | [] => 0
  | x :: r => uptoBulkEntry x + uptoBulkEntries r
def uptoBulkEntry {H : Type} : Lit × DataW H → Nat
  | (.string bytes, d) => bytes.length + uptoBulk d + 1
  | (_, d) => uptoBulk d + 1
 end
def uptoSmall : (H : Type) → List (DataW H) → Bool := fun _ ds => decide (uptoBulkAll ds ≤ 1048576)
def OpenSpec.upto (s : _root_.Go.ChangeSpec) : _root_.Go.OpenSpec := { _root_.Go.OpenSpec.ofChange s with cond := some uptoSmall }

/-- 'veneerlaw10.MergeTells', WHERE WHAT IT READS IS OF BULK AT MOST 1048576: true; the input reads as it did. -/
def mergeTellsUptoRow : OpenClaim := { program := "ytnnaoldpacbagaagreat", sum := "9dd2ae5cc61375f195bcb354ee8648d069cf9b880651ce66259c780424d8f46f", func := "veneer/veneerlaw10.MergeTells", spec := "mergeTells", inPlace := ["internal/bytealg.IndexByteString", "internal/bytealg.IndexString", "slices.overlaps[veneer/api.Entry]", "internal/reflectlite.ValueOf", "internal/reflectlite.Swapper", "(internal/reflectlite.Value).Len"], unfollowed := true, recurses := true, named := ["internal/bytealg.MaxLen"], apart := false, narrowed := true }
def MergeTellsUptoSaid : Prop := mergeTellsUptoRow.holds Tryz.pinned (OpenSpec.upto mergeTellsSpec)

/-- 'veneerlaw11.FlatOf', WHERE WHAT IT READS IS OF BULK AT MOST 1048576: true; the input reads as it did. -/
def flatOfUptoRow : OpenClaim := { program := "ytnnaoldpacbagaagreat", sum := "9dd2ae5cc61375f195bcb354ee8648d069cf9b880651ce66259c780424d8f46f", func := "veneer/veneerlaw11.FlatOf", spec := "flatOf", inPlace := ["internal/bytealg.IndexByteString", "internal/bytealg.IndexString", "slices.overlaps[veneer/api.Entry]", "internal/reflectlite.ValueOf", "internal/reflectlite.Swapper", "(internal/reflectlite.Value).Len", "internal/abi.NoEscape"], unfollowed := true, recurses := true, named := ["internal/bytealg.MaxLen"], apart := false, narrowed := true }
def FlatOfUptoSaid : Prop := flatOfUptoRow.holds Tryz.pinned (OpenSpec.upto flatOfSpec)

/-- 'veneerlaw11.FlatSame', WHERE WHAT IT READS IS OF BULK AT MOST 1048576: true; the input reads as it did. -/
def flatSameUptoRow : OpenClaim := { program := "ytnnaoldpacbagaagreat", sum := "9dd2ae5cc61375f195bcb354ee8648d069cf9b880651ce66259c780424d8f46f", func := "veneer/veneerlaw11.FlatSame", spec := "flatSame", inPlace := ["internal/bytealg.IndexByteString", "internal/bytealg.IndexString", "slices.overlaps[veneer/api.Entry]", "internal/reflectlite.ValueOf", "internal/reflectlite.Swapper", "(internal/reflectlite.Value).Len", "internal/abi.NoEscape"], unfollowed := true, recurses := true, named := ["internal/bytealg.MaxLen"], apart := false, narrowed := true }
def FlatSameUptoSaid : Prop := flatSameUptoRow.holds Tryz.pinned (OpenSpec.upto flatSameSpec)

/-- 'veneerlaw11.FlatPaths', WHERE WHAT IT READS IS OF BULK AT MOST 1048576: true; the input reads as it did. -/
def flatPathsUptoRow : OpenClaim := { program := "ytnnaoldpacbagaagreat", sum := "9dd2ae5cc61375f195bcb354ee8648d069cf9b880651ce66259c780424d8f46f", func := "veneer/veneerlaw11.FlatPaths", spec := "flatPaths", inPlace := ["internal/bytealg.IndexByteString", "internal/bytealg.IndexString", "slices.overlaps[veneer/api.Entry]", "internal/reflectlite.ValueOf", "internal/reflectlite.Swapper", "(internal/reflectlite.Value).Len", "internal/abi.NoEscape"], unfollowed := true, recurses := true, named := ["internal/bytealg.MaxLen"], apart := false, narrowed := true }
def FlatPathsUptoSaid : Prop := flatPathsUptoRow.holds Tryz.pinned (OpenSpec.upto flatPathsSpec)

/-- 'veneerlaw11.FlatMany', WHERE WHAT IT READS IS OF BULK AT MOST 1048576: true; the input reads as it did. -/
def flatManyUptoRow : OpenClaim := { program := "ytnnaoldpacbagaagreat", sum := "9dd2ae5cc61375f195bcb354ee8648d069cf9b880651ce66259c780424d8f46f", func := "veneer/veneerlaw11.FlatMany", spec := "flatMany", inPlace := ["internal/bytealg.IndexByteString", "internal/bytealg.IndexString", "slices.overlaps[veneer/api.Entry]", "internal/reflectlite.ValueOf", "internal/reflectlite.Swapper", "(internal/reflectlite.Value).Len", "internal/abi.NoEscape"], unfollowed := true, recurses := true, named := ["internal/bytealg.MaxLen"], apart := false, narrowed := true }
def FlatManyUptoSaid : Prop := flatManyUptoRow.holds Tryz.pinned (OpenSpec.upto flatManySpec)

end Rows
end Go.Proofs.YtnnaoldpacbagaaGreat
