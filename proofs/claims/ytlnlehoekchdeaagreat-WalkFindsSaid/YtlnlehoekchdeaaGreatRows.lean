/-
  No cell of these rows narrows 'for every input' (looked for: loops, veiled, ifaces, maps, wideKeys, modest, calm, conditions, laid).
  DERIVED. THE GIVEN ROWS OF THIS SEAT. 8 by the template 'for every input the law returns true; each argument reads behind the call as it read before'; 0 by the template 'total and deterministic' (their statements: YtlnlehoekchdeaaGreatTotals.lean).
  GIVEN WITH THE SEED: the statements are not yours to turn. If you find one false, say at which input.
  Laid BY PROGRAM, IN A SANDBOX (cutbox-rows.mjs): the forced cells as the released guide's own fill.sh prints them over the translation 4a46a06b56052182… (all of the seat's roots in one cut). By AI agents, Wed Nov 11 2026. No macro, syntax, notation, axiom, sorry.
-/
import Derived.Test.YtlnlehoekchdeaaGreatChecked
import GoSem.Claim
import GoSem.ClaimJoined
import GoSem.ClaimMapViews
import Derived.JoinedTies
import Derived.KernelRfl
namespace Go.Proofs.YtlnlehoekchdeaaGreat
/- THE CELL 'sum', in the pinned program and in every row, IS THE sha256 OF THE DUMP (.gsa) THAT YtlnlehoekchdeaaGreatProg.lean LOADS. Nothing in Lean hashes anything: it is a label: what it is worth is what the hold of that sum in a sandbox is worth. -/
noncomputable def Tryz.pinned : Pinned := { name := "ytlnlehoekchdeaagreat", sum := "4a46a06b56052182803ecad31ec608e2d0688655b6be13983d3db7f78edb36ee", checked := Tryz.checked }
namespace Rows
def none {H : Type} : Left H := { results := [], args := [] }

/-- 'veneerlaw06.WalkFinds': WHATEVER THE INPUT: true; the input reads as it did. -/
def walkFindsSpec : ChangeSpec := { name := "walkFinds", fn := fun _ => fun
  | [d1, d2, d3] => { results := [.lit (.bool true)], args := [d1, d2, d3] }
  | _ => none }
def walkFindsRow : OpenClaim := { program := "ytlnlehoekchdeaagreat", sum := "4a46a06b56052182803ecad31ec608e2d0688655b6be13983d3db7f78edb36ee", func := "veneer/veneerlaw06.WalkFinds", spec := "walkFinds", inPlace := ["internal/bytealg.IndexByteString", "internal/bytealg.IndexString", "slices.overlaps[veneer/api.Entry]"], unfollowed := true, recurses := true, named := ["internal/bytealg.MaxLen"], apart := false }
def WalkFindsSaid : Prop := walkFindsRow.holds Tryz.pinned (OpenSpec.ofChange walkFindsSpec)

/-- ITS FALSE NEIGHBOUR: 'it returns false'. Refute it at one input. -/
def walkFindsWrong : ChangeSpec := { name := "walkFinds", fn := fun _ => fun
  | [d1, d2, d3] => { results := [.lit (.bool false)], args := [d1, d2, d3] }
  | _ => none }
def WalkFindsWrongFalsely : Prop := walkFindsRow.holds Tryz.pinned (OpenSpec.ofChange walkFindsWrong)

/-- 'veneerlaw06.WalkHas': WHATEVER THE INPUT: true; the input reads as it did. -/
def walkHasSpec : ChangeSpec := { name := "walkHas", fn := fun _ => fun
  | [d1, d2, d3] => { results := [.lit (.bool true)], args := [d1, d2, d3] }
  | _ => none }
def walkHasRow : OpenClaim := { program := "ytlnlehoekchdeaagreat", sum := "4a46a06b56052182803ecad31ec608e2d0688655b6be13983d3db7f78edb36ee", func := "veneer/veneerlaw06.WalkHas", spec := "walkHas", inPlace := ["internal/bytealg.IndexByteString", "internal/bytealg.IndexString", "slices.overlaps[veneer/api.Entry]"], unfollowed := true, recurses := true, named := ["internal/bytealg.MaxLen"], apart := false }
def WalkHasSaid : Prop := walkHasRow.holds Tryz.pinned (OpenSpec.ofChange walkHasSpec)

/-- ITS FALSE NEIGHBOUR: 'it returns false'. Refute it at one input. -/
def walkHasWrong : ChangeSpec := { name := "walkHas", fn := fun _ => fun
  | [d1, d2, d3] => { results := [.lit (.bool false)], args := [d1, d2, d3] }
  | _ => none }
def WalkHasWrongFalsely : Prop := walkHasRow.holds Tryz.pinned (OpenSpec.ofChange walkHasWrong)

/-- 'veneerlaw06.WalkLinks': WHATEVER THE INPUT: true; the input reads as it did. -/
def walkLinksSpec : ChangeSpec := { name := "walkLinks", fn := fun _ => fun
  | [d1, d2, d3] => { results := [.lit (.bool true)], args := [d1, d2, d3] }
  | _ => none }
def walkLinksRow : OpenClaim := { program := "ytlnlehoekchdeaagreat", sum := "4a46a06b56052182803ecad31ec608e2d0688655b6be13983d3db7f78edb36ee", func := "veneer/veneerlaw06.WalkLinks", spec := "walkLinks", inPlace := ["internal/bytealg.IndexByteString", "internal/bytealg.IndexString", "slices.overlaps[veneer/api.Entry]"], unfollowed := true, recurses := true, named := ["internal/bytealg.MaxLen"], apart := false }
def WalkLinksSaid : Prop := walkLinksRow.holds Tryz.pinned (OpenSpec.ofChange walkLinksSpec)

/-- ITS FALSE NEIGHBOUR: 'it returns false'. Refute it at one input. -/
def walkLinksWrong : ChangeSpec := { name := "walkLinks", fn := fun _ => fun
  | [d1, d2, d3] => { results := [.lit (.bool false)], args := [d1, d2, d3] }
  | _ => none }
def WalkLinksWrongFalsely : Prop := walkLinksRow.holds Tryz.pinned (OpenSpec.ofChange walkLinksWrong)

/-- 'veneerlaw06.WalkUp': WHATEVER THE INPUT: true; the input reads as it did. -/
def walkUpSpec : ChangeSpec := { name := "walkUp", fn := fun _ => fun
  | [d1, d2, d3] => { results := [.lit (.bool true)], args := [d1, d2, d3] }
  | _ => none }
def walkUpRow : OpenClaim := { program := "ytlnlehoekchdeaagreat", sum := "4a46a06b56052182803ecad31ec608e2d0688655b6be13983d3db7f78edb36ee", func := "veneer/veneerlaw06.WalkUp", spec := "walkUp", inPlace := ["internal/bytealg.IndexByteString", "internal/bytealg.IndexString", "slices.overlaps[veneer/api.Entry]"], unfollowed := true, recurses := true, named := ["internal/bytealg.MaxLen"], apart := false }
def WalkUpSaid : Prop := walkUpRow.holds Tryz.pinned (OpenSpec.ofChange walkUpSpec)

/-- ITS FALSE NEIGHBOUR: 'it returns false'. Refute it at one input. -/
def walkUpWrong : ChangeSpec := { name := "walkUp", fn := fun _ => fun
  | [d1, d2, d3] => { results := [.lit (.bool false)], args := [d1, d2, d3] }
  | _ => none }
def WalkUpWrongFalsely : Prop := walkUpRow.holds Tryz.pinned (OpenSpec.ofChange walkUpWrong)

/-- 'veneerlaw06.WalkLoops': WHATEVER THE INPUT: true; the input reads as it did. -/
def walkLoopsSpec : ChangeSpec := { name := "walkLoops", fn := fun _ => fun
  | [d1, d2, d3, d4] => { results := [.lit (.bool true)], args := [d1, d2, d3, d4] }
  | _ => none }
def walkLoopsRow : OpenClaim := { program := "ytlnlehoekchdeaagreat", sum := "4a46a06b56052182803ecad31ec608e2d0688655b6be13983d3db7f78edb36ee", func := "veneer/veneerlaw06.WalkLoops", spec := "walkLoops", inPlace := ["internal/bytealg.IndexByteString", "internal/bytealg.IndexString", "slices.overlaps[veneer/api.Entry]"], unfollowed := true, recurses := true, named := ["internal/bytealg.MaxLen"], apart := false }
def WalkLoopsSaid : Prop := walkLoopsRow.holds Tryz.pinned (OpenSpec.ofChange walkLoopsSpec)

/-- ITS FALSE NEIGHBOUR: 'it returns false'. Refute it at one input. -/
def walkLoopsWrong : ChangeSpec := { name := "walkLoops", fn := fun _ => fun
  | [d1, d2, d3, d4] => { results := [.lit (.bool false)], args := [d1, d2, d3, d4] }
  | _ => none }
def WalkLoopsWrongFalsely : Prop := walkLoopsRow.holds Tryz.pinned (OpenSpec.ofChange walkLoopsWrong)

/-- 'veneerlaw06.WalkPlain': WHATEVER THE INPUT: true; the input reads as it did. -/
def walkPlainSpec : ChangeSpec := { name := "walkPlain", fn := fun _ => fun
  | [d1, d2] => { results := [.lit (.bool true)], args := [d1, d2] }
  | _ => none }
def walkPlainRow : OpenClaim := { program := "ytlnlehoekchdeaagreat", sum := "4a46a06b56052182803ecad31ec608e2d0688655b6be13983d3db7f78edb36ee", func := "veneer/veneerlaw06.WalkPlain", spec := "walkPlain", inPlace := ["internal/bytealg.IndexByteString", "internal/bytealg.IndexString", "slices.overlaps[veneer/api.Entry]"], unfollowed := true, recurses := true, named := ["internal/bytealg.MaxLen"], apart := false }
def WalkPlainSaid : Prop := walkPlainRow.holds Tryz.pinned (OpenSpec.ofChange walkPlainSpec)

/-- ITS FALSE NEIGHBOUR: 'it returns false'. Refute it at one input. -/
def walkPlainWrong : ChangeSpec := { name := "walkPlain", fn := fun _ => fun
  | [d1, d2] => { results := [.lit (.bool false)], args := [d1, d2] }
  | _ => none }
def WalkPlainWrongFalsely : Prop := walkPlainRow.holds Tryz.pinned (OpenSpec.ofChange walkPlainWrong)

/-- 'veneerlaw06.WalkDots': WHATEVER THE INPUT: true; the input reads as it did. -/
def walkDotsSpec : ChangeSpec := { name := "walkDots", fn := fun _ => fun
  | [d1, d2, d3] => { results := [.lit (.bool true)], args := [d1, d2, d3] }
  | _ => none }
def walkDotsRow : OpenClaim := { program := "ytlnlehoekchdeaagreat", sum := "4a46a06b56052182803ecad31ec608e2d0688655b6be13983d3db7f78edb36ee", func := "veneer/veneerlaw06.WalkDots", spec := "walkDots", inPlace := ["internal/bytealg.IndexByteString", "internal/bytealg.IndexString", "slices.overlaps[veneer/api.Entry]"], unfollowed := true, recurses := true, named := ["internal/bytealg.MaxLen"], apart := false }
def WalkDotsSaid : Prop := walkDotsRow.holds Tryz.pinned (OpenSpec.ofChange walkDotsSpec)

/-- ITS FALSE NEIGHBOUR: 'it returns false'. Refute it at one input. -/
def walkDotsWrong : ChangeSpec := { name := "walkDots", fn := fun _ => fun
  | [d1, d2, d3] => { results := [.lit (.bool false)], args := [d1, d2, d3] }
  | _ => none }
def WalkDotsWrongFalsely : Prop := walkDotsRow.holds Tryz.pinned (OpenSpec.ofChange walkDotsWrong)

/-- 'veneerlaw06.WalkDirs': WHATEVER THE INPUT: true; the input reads as it did. -/
def walkDirsSpec : ChangeSpec := { name := "walkDirs", fn := fun _ => fun
  | [d1, d2, d3] => { results := [.lit (.bool true)], args := [d1, d2, d3] }
  | _ => none }
def walkDirsRow : OpenClaim := { program := "ytlnlehoekchdeaagreat", sum := "4a46a06b56052182803ecad31ec608e2d0688655b6be13983d3db7f78edb36ee", func := "veneer/veneerlaw06.WalkDirs", spec := "walkDirs", inPlace := ["internal/bytealg.IndexByteString", "internal/bytealg.IndexString", "slices.overlaps[veneer/api.Entry]"], unfollowed := true, recurses := true, named := ["internal/bytealg.MaxLen"], apart := false }
def WalkDirsSaid : Prop := walkDirsRow.holds Tryz.pinned (OpenSpec.ofChange walkDirsSpec)

/-- ITS FALSE NEIGHBOUR: 'it returns false'. Refute it at one input. -/
def walkDirsWrong : ChangeSpec := { name := "walkDirs", fn := fun _ => fun
  | [d1, d2, d3] => { results := [.lit (.bool false)], args := [d1, d2, d3] }
  | _ => none }
def WalkDirsWrongFalsely : Prop := walkDirsRow.holds Tryz.pinned (OpenSpec.ofChange walkDirsWrong)

/- THE SECOND FORM. 'bulk': how many values and letters a reading holds, each counted each time it is reached (what is shared counts as often as it is met; a slice's spare places count too). A statement '..UptoSaid' is the law's where the arguments, and the package variables that the reading takes, are together of bulk at most 1048576: NARROWER than '..Said'. Prove '..Said' where nothing that the law and all that it calls make is longer than what came in: it says more and counts as full. Else prove '..UptoSaid'. A law counts once. -/
mutual
def uptoBulk {H : Type} : DataW H → Nat
  | .lit (.string bytes) => bytes.length + 1
  | .lit _ => 1
  | .nil => 1
  | .ptr d => uptoBulk d + 1
  | .slice elems spare => uptoBulkAll elems + uptoBulkAll spare + 1
  | .agg parts => uptoBulkAll parts + 1
  | .iface _ d => uptoBulk d + 1
  | .map entries => uptoBulkEntries entries + 1
  | .held _ => 1
def uptoBulkAll {H : Type} : List (DataW H) → Nat
  | [] => 0
  | d :: r => uptoBulk d + uptoBulkAll r
def uptoBulkEntries {H : Type} : List (Lit × DataW H) → Nat
  | [] => 0
  | x :: r => uptoBulkEntry x + uptoBulkEntries r
def uptoBulkEntry {H : Type} : Lit × DataW H → Nat
  | (.string bytes, d) => bytes.length + uptoBulk d + 1
  | (_, d) => uptoBulk d + 1
 end
def uptoSmall : (H : Type) → List (DataW H) → Bool := fun _ ds => decide (uptoBulkAll ds ≤ 1048576)
def OpenSpec.upto (s : _root_.Go.ChangeSpec) : _root_.Go.OpenSpec := { _root_.Go.OpenSpec.ofChange s with cond := some uptoSmall }

/-- 'veneerlaw06.WalkFinds', WHERE WHAT IT READS IS OF BULK AT MOST 1048576: true; the input reads as it did. -/
def walkFindsUptoRow : OpenClaim := { program := "ytlnlehoekchdeaagreat", sum := "4a46a06b56052182803ecad31ec608e2d0688655b6be13983d3db7f78edb36ee", func := "veneer/veneerlaw06.WalkFinds", spec := "walkFinds", inPlace := ["internal/bytealg.IndexByteString", "internal/bytealg.IndexString", "slices.overlaps[veneer/api.Entry]"], unfollowed := true, recurses := true, named := ["internal/bytealg.MaxLen"], apart := false, narrowed := true }
def WalkFindsUptoSaid : Prop := walkFindsUptoRow.holds Tryz.pinned (OpenSpec.upto walkFindsSpec)

/-- 'veneerlaw06.WalkHas', WHERE WHAT IT READS IS OF BULK AT MOST 1048576: true; the input reads as it did. -/
def walkHasUptoRow : OpenClaim := { program := "ytlnlehoekchdeaagreat", sum := "4a46a06b56052182803ecad31ec608e2d0688655b6be13983d3db7f78edb36ee", func := "veneer/veneerlaw06.WalkHas", spec := "walkHas", inPlace := ["internal/bytealg.IndexByteString", "internal/bytealg.IndexString", "slices.overlaps[veneer/api.Entry]"], unfollowed := true, recurses := true, named := ["internal/bytealg.MaxLen"], apart := false, narrowed := true }
def WalkHasUptoSaid : Prop := walkHasUptoRow.holds Tryz.pinned (OpenSpec.upto walkHasSpec)

/-- 'veneerlaw06.WalkLinks', WHERE WHAT IT READS IS OF BULK AT MOST 1048576: true; the input reads as it did. -/
def walkLinksUptoRow : OpenClaim := { program := "ytlnlehoekchdeaagreat", sum := "4a46a06b56052182803ecad31ec608e2d0688655b6be13983d3db7f78edb36ee", func := "veneer/veneerlaw06.WalkLinks", spec := "walkLinks", inPlace := ["internal/bytealg.IndexByteString", "internal/bytealg.IndexString", "slices.overlaps[veneer/api.Entry]"], unfollowed := true, recurses := true, named := ["internal/bytealg.MaxLen"], apart := false, narrowed := true }
def WalkLinksUptoSaid : Prop := walkLinksUptoRow.holds Tryz.pinned (OpenSpec.upto walkLinksSpec)

/-- 'veneerlaw06.WalkUp', WHERE WHAT IT READS IS OF BULK AT MOST 1048576: true; the input reads as it did. -/
def walkUpUptoRow : OpenClaim := { program := "ytlnlehoekchdeaagreat", sum := "4a46a06b56052182803ecad31ec608e2d0688655b6be13983d3db7f78edb36ee", func := "veneer/veneerlaw06.WalkUp", spec := "walkUp", inPlace := ["internal/bytealg.IndexByteString", "internal/bytealg.IndexString", "slices.overlaps[veneer/api.Entry]"], unfollowed := true, recurses := true, named := ["internal/bytealg.MaxLen"], apart := false, narrowed := true }
def WalkUpUptoSaid : Prop := walkUpUptoRow.holds Tryz.pinned (OpenSpec.upto walkUpSpec)

/-- 'veneerlaw06.WalkLoops', WHERE WHAT IT READS IS OF BULK AT MOST 1048576: true; the input reads as it did. -/
def walkLoopsUptoRow : OpenClaim := { program := "ytlnlehoekchdeaagreat", sum := "4a46a06b56052182803ecad31ec608e2d0688655b6be13983d3db7f78edb36ee", func := "veneer/veneerlaw06.WalkLoops", spec := "walkLoops", inPlace := ["internal/bytealg.IndexByteString", "internal/bytealg.IndexString", "slices.overlaps[veneer/api.Entry]"], unfollowed := true, recurses := true, named := ["internal/bytealg.MaxLen"], apart := false, narrowed := true }
def WalkLoopsUptoSaid : Prop := walkLoopsUptoRow.holds Tryz.pinned (OpenSpec.upto walkLoopsSpec)

/-- 'veneerlaw06.WalkPlain', WHERE WHAT IT READS IS OF BULK AT MOST 1048576: true; the input reads as it did. -/
def walkPlainUptoRow : OpenClaim := { program := "ytlnlehoekchdeaagreat", sum := "4a46a06b56052182803ecad31ec608e2d0688655b6be13983d3db7f78edb36ee", func := "veneer/veneerlaw06.WalkPlain", spec := "walkPlain", inPlace := ["internal/bytealg.IndexByteString", "internal/bytealg.IndexString", "slices.overlaps[veneer/api.Entry]"], unfollowed := true, recurses := true, named := ["internal/bytealg.MaxLen"], apart := false, narrowed := true }
def WalkPlainUptoSaid : Prop := walkPlainUptoRow.holds Tryz.pinned (OpenSpec.upto walkPlainSpec)

/-- 'veneerlaw06.WalkDots', WHERE WHAT IT READS IS OF BULK AT MOST 1048576: true; the input reads as it did. -/
def walkDotsUptoRow : OpenClaim := { program := "ytlnlehoekchdeaagreat", sum := "4a46a06b56052182803ecad31ec608e2d0688655b6be13983d3db7f78edb36ee", func := "veneer/veneerlaw06.WalkDots", spec := "walkDots", inPlace := ["internal/bytealg.IndexByteString", "internal/bytealg.IndexString", "slices.overlaps[veneer/api.Entry]"], unfollowed := true, recurses := true, named := ["internal/bytealg.MaxLen"], apart := false, narrowed := true }
def WalkDotsUptoSaid : Prop := walkDotsUptoRow.holds Tryz.pinned (OpenSpec.upto walkDotsSpec)

/-- 'veneerlaw06.WalkDirs', WHERE WHAT IT READS IS OF BULK AT MOST 1048576: true; the input reads as it did. -/
def walkDirsUptoRow : OpenClaim := { program := "ytlnlehoekchdeaagreat", sum := "4a46a06b56052182803ecad31ec608e2d0688655b6be13983d3db7f78edb36ee", func := "veneer/veneerlaw06.WalkDirs", spec := "walkDirs", inPlace := ["internal/bytealg.IndexByteString", "internal/bytealg.IndexString", "slices.overlaps[veneer/api.Entry]"], unfollowed := true, recurses := true, named := ["internal/bytealg.MaxLen"], apart := false, narrowed := true }
def WalkDirsUptoSaid : Prop := walkDirsUptoRow.holds Tryz.pinned (OpenSpec.upto walkDirsSpec)

end Rows
end Go.Proofs.YtlnlehoekchdeaaGreat
