/-
  No cell of these rows narrows 'for every input' (looked for: loops, veiled, ifaces, maps, wideKeys, modest, calm, conditions, laid).
  DERIVED. THE GIVEN ROWS OF THIS SEAT. 5 by the template 'for every input the law returns true; each argument reads behind the call as it read before'; 0 by the template 'total and deterministic' (their statements: YtagkimnmgalejaaTotals.lean).
  GIVEN WITH THE SEED: the statements are not yours to turn. If you find one false, say at which input.
  Laid BY PROGRAM, IN A SANDBOX (cutbox-rows.mjs): the forced cells as the released guide's own fill.sh prints them over the translation 88c16e400d83f35f… (all of the seat's roots in one cut). By AI agents, Wed Nov 11 2026. No macro, syntax, notation, axiom, sorry.
-/
import Derived.Test.YtagkimnmgalejaaChecked
import GoSem.Claim
import GoSem.ClaimJoined
import GoSem.ClaimMapViews
import Derived.JoinedTies
import Derived.KernelRfl
namespace Go.Proofs.Ytagkimnmgalejaa
/- THE CELL 'sum', in the pinned program and in every row, IS THE sha256 OF THE DUMP (.gsa) THAT YtagkimnmgalejaaProg.lean LOADS. Nothing in Lean hashes anything: it is a label: what it is worth is what the hold of that sum in a sandbox is worth. -/
noncomputable def Try.pinned : Pinned := { name := "ytagkimnmgalejaa", sum := "88c16e400d83f35fa40738c44db0baacfb45ae6baff4e356b7a3fadfe7bd192e", checked := Try.checked }
namespace Rows
def none {H : Type} : Left H := { results := [], args := [] }

/-- 'veneerlaw14.SchedAlone': WHATEVER THE INPUT: true; the input reads as it did. -/
def schedAloneSpec : ChangeSpec := { name := "schedAlone", fn := fun _ => fun
  | [d1, d2] => { results := [.lit (.bool true)], args := [d1, d2] }
  | _ => none }
def schedAloneRow : OpenClaim := { program := "ytagkimnmgalejaa", sum := "88c16e400d83f35fa40738c44db0baacfb45ae6baff4e356b7a3fadfe7bd192e", func := "veneer/veneerlaw14.SchedAlone", spec := "schedAlone", unfollowed := true, recurses := true, apart := false }
def SchedAloneSaid : Prop := schedAloneRow.holds Try.pinned (OpenSpec.ofChange schedAloneSpec)

/-- ITS FALSE NEIGHBOUR: 'it returns false'. Refute it at one input. -/
def schedAloneWrong : ChangeSpec := { name := "schedAlone", fn := fun _ => fun
  | [d1, d2] => { results := [.lit (.bool false)], args := [d1, d2] }
  | _ => none }
def SchedAloneWrongFalsely : Prop := schedAloneRow.holds Try.pinned (OpenSpec.ofChange schedAloneWrong)

/-- 'veneerlaw14.SchedOrder': WHATEVER THE INPUT: true; the input reads as it did. -/
def schedOrderSpec : ChangeSpec := { name := "schedOrder", fn := fun _ => fun
  | [d1, d2] => { results := [.lit (.bool true)], args := [d1, d2] }
  | _ => none }
def schedOrderRow : OpenClaim := { program := "ytagkimnmgalejaa", sum := "88c16e400d83f35fa40738c44db0baacfb45ae6baff4e356b7a3fadfe7bd192e", func := "veneer/veneerlaw14.SchedOrder", spec := "schedOrder", unfollowed := true, recurses := true, apart := false }
def SchedOrderSaid : Prop := schedOrderRow.holds Try.pinned (OpenSpec.ofChange schedOrderSpec)

/-- ITS FALSE NEIGHBOUR: 'it returns false'. Refute it at one input. -/
def schedOrderWrong : ChangeSpec := { name := "schedOrder", fn := fun _ => fun
  | [d1, d2] => { results := [.lit (.bool false)], args := [d1, d2] }
  | _ => none }
def SchedOrderWrongFalsely : Prop := schedOrderRow.holds Try.pinned (OpenSpec.ofChange schedOrderWrong)

/-- 'veneerlaw14.SchedNever': WHATEVER THE INPUT: true; the input reads as it did. -/
def schedNeverSpec : ChangeSpec := { name := "schedNever", fn := fun _ => fun
  | [d1, d2, d3] => { results := [.lit (.bool true)], args := [d1, d2, d3] }
  | _ => none }
def schedNeverRow : OpenClaim := { program := "ytagkimnmgalejaa", sum := "88c16e400d83f35fa40738c44db0baacfb45ae6baff4e356b7a3fadfe7bd192e", func := "veneer/veneerlaw14.SchedNever", spec := "schedNever", unfollowed := true, recurses := true, apart := false }
def SchedNeverSaid : Prop := schedNeverRow.holds Try.pinned (OpenSpec.ofChange schedNeverSpec)

/-- ITS FALSE NEIGHBOUR: 'it returns false'. Refute it at one input. -/
def schedNeverWrong : ChangeSpec := { name := "schedNever", fn := fun _ => fun
  | [d1, d2, d3] => { results := [.lit (.bool false)], args := [d1, d2, d3] }
  | _ => none }
def SchedNeverWrongFalsely : Prop := schedNeverRow.holds Try.pinned (OpenSpec.ofChange schedNeverWrong)

/-- 'veneerlaw14.SchedBack': WHATEVER THE INPUT: true; the input reads as it did. -/
def schedBackSpec : ChangeSpec := { name := "schedBack", fn := fun _ => fun
  | [d1, d2, d3, d4, d5] => { results := [.lit (.bool true)], args := [d1, d2, d3, d4, d5] }
  | _ => none }
def schedBackRow : OpenClaim := { program := "ytagkimnmgalejaa", sum := "88c16e400d83f35fa40738c44db0baacfb45ae6baff4e356b7a3fadfe7bd192e", func := "veneer/veneerlaw14.SchedBack", spec := "schedBack", unfollowed := true, recurses := true, apart := false }
def SchedBackSaid : Prop := schedBackRow.holds Try.pinned (OpenSpec.ofChange schedBackSpec)

/-- ITS FALSE NEIGHBOUR: 'it returns false'. Refute it at one input. -/
def schedBackWrong : ChangeSpec := { name := "schedBack", fn := fun _ => fun
  | [d1, d2, d3, d4, d5] => { results := [.lit (.bool false)], args := [d1, d2, d3, d4, d5] }
  | _ => none }
def SchedBackWrongFalsely : Prop := schedBackRow.holds Try.pinned (OpenSpec.ofChange schedBackWrong)

/-- 'veneerlaw14.SchedReaders': WHATEVER THE INPUT: true; the input reads as it did. -/
def schedReadersSpec : ChangeSpec := { name := "schedReaders", fn := fun _ => fun
  | [d1, d2] => { results := [.lit (.bool true)], args := [d1, d2] }
  | _ => none }
def schedReadersRow : OpenClaim := { program := "ytagkimnmgalejaa", sum := "88c16e400d83f35fa40738c44db0baacfb45ae6baff4e356b7a3fadfe7bd192e", func := "veneer/veneerlaw14.SchedReaders", spec := "schedReaders", unfollowed := true, recurses := true, apart := false }
def SchedReadersSaid : Prop := schedReadersRow.holds Try.pinned (OpenSpec.ofChange schedReadersSpec)

/-- ITS FALSE NEIGHBOUR: 'it returns false'. Refute it at one input. -/
def schedReadersWrong : ChangeSpec := { name := "schedReaders", fn := fun _ => fun
  | [d1, d2] => { results := [.lit (.bool false)], args := [d1, d2] }
  | _ => none }
def SchedReadersWrongFalsely : Prop := schedReadersRow.holds Try.pinned (OpenSpec.ofChange schedReadersWrong)

/- THE SECOND FORM. 'bulk': how many values and letters a reading holds, each counted each time it is reached (what is shared counts as often as it is met; a slice's spare places count too). A statement '..UptoSaid' is the law's where the arguments, and the package variables that the reading takes, are together of bulk at most 1048576: NARROWER than '..Said'. Prove '..Said' where nothing that the law and all that it calls make is longer than what came in: it says more and counts as full. Else prove '..UptoSaid'. A law counts once. -/
mutual
def uptoBulk {H : Type} : DataW H → Nat
  | .lit (.string bytes) => bytes.length + 1
  | .lit _ => 1
  | .nil => 1
  | .ptr d => uptoBulk d + 1
  | .slice elems spare => uptoBulkAll elems + uptoBulkAll spare + 1
  | .agg parts => uptoBulkAll parts + 1
  | .iface _ d => uptoBulk d + 1
  | .map entries => uptoBulkEntries entries + 1
  | .held _ => 1
def uptoBulkAll {H : Type} : List (DataW H) → Nat
  | [] => 0
  | d :: r => uptoBulk d + uptoBulkAll r
def uptoBulkEntries {H : Type} : List (Lit × DataW H) → Nat
  | [] => 0
  | x :: r => uptoBulkEntry x + uptoBulkEntries r
def uptoBulkEntry {H : Type} : Lit × DataW H → Nat
  | (.string bytes, d) => bytes.length + uptoBulk d + 1
  | (_, d) => uptoBulk d + 1
 end
def uptoSmall : (H : Type) → List (DataW H) → Bool := fun _ ds => decide (uptoBulkAll ds ≤ 1048576)
def OpenSpec.upto (s : _root_.Go.ChangeSpec) : _root_.Go.OpenSpec := { _root_.Go.OpenSpec.ofChange s with cond := some uptoSmall }

/-- 'veneerlaw14.SchedAlone', WHERE WHAT IT READS IS OF BULK AT MOST 1048576: true; the input reads as it did. -/
def schedAloneUptoRow : OpenClaim := { program := "ytagkimnmgalejaa", sum := "88c16e400d83f35fa40738c44db0baacfb45ae6baff4e356b7a3fadfe7bd192e", func := "veneer/veneerlaw14.SchedAlone", spec := "schedAlone", unfollowed := true, recurses := true, apart := false, narrowed := true }
def SchedAloneUptoSaid : Prop := schedAloneUptoRow.holds Try.pinned (OpenSpec.upto schedAloneSpec)

/-- 'veneerlaw14.SchedOrder', WHERE WHAT IT READS IS OF BULK AT MOST 1048576: true; the input reads as it did. -/
def schedOrderUptoRow : OpenClaim := { program := "ytagkimnmgalejaa", sum := "88c16e400d83f35fa40738c44db0baacfb45ae6baff4e356b7a3fadfe7bd192e", func := "veneer/veneerlaw14.SchedOrder", spec := "schedOrder", unfollowed := true, recurses := true, apart := false, narrowed := true }
def SchedOrderUptoSaid : Prop := schedOrderUptoRow.holds Try.pinned (OpenSpec.upto schedOrderSpec)

/-- 'veneerlaw14.SchedNever', WHERE WHAT IT READS IS OF BULK AT MOST 1048576: true; the input reads as it did. -/
def schedNeverUptoRow : OpenClaim := { program := "ytagkimnmgalejaa", sum := "88c16e400d83f35fa40738c44db0baacfb45ae6baff4e356b7a3fadfe7bd192e", func := "veneer/veneerlaw14.SchedNever", spec := "schedNever", unfollowed := true, recurses := true, apart := false, narrowed := true }
def SchedNeverUptoSaid : Prop := schedNeverUptoRow.holds Try.pinned (OpenSpec.upto schedNeverSpec)

/-- 'veneerlaw14.SchedBack', WHERE WHAT IT READS IS OF BULK AT MOST 1048576: true; the input reads as it did. -/
def schedBackUptoRow : OpenClaim := { program := "ytagkimnmgalejaa", sum := "88c16e400d83f35fa40738c44db0baacfb45ae6baff4e356b7a3fadfe7bd192e", func := "veneer/veneerlaw14.SchedBack", spec := "schedBack", unfollowed := true, recurses := true, apart := false, narrowed := true }
def SchedBackUptoSaid : Prop := schedBackUptoRow.holds Try.pinned (OpenSpec.upto schedBackSpec)

/-- 'veneerlaw14.SchedReaders', WHERE WHAT IT READS IS OF BULK AT MOST 1048576: true; the input reads as it did. -/
def schedReadersUptoRow : OpenClaim := { program := "ytagkimnmgalejaa", sum := "88c16e400d83f35fa40738c44db0baacfb45ae6baff4e356b7a3fadfe7bd192e", func := "veneer/veneerlaw14.SchedReaders", spec := "schedReaders", unfollowed := true, recurses := true, apart := false, narrowed := true }
def SchedReadersUptoSaid : Prop := schedReadersUptoRow.holds Try.pinned (OpenSpec.upto schedReadersSpec)

end Rows
end Go.Proofs.Ytagkimnmgalejaa
