/-
  No cell of these rows narrows 'for every input' (looked for: loops, veiled, ifaces, maps, wideKeys, modest, calm, conditions, laid).
  DERIVED. THE GIVEN ROWS OF THIS SEAT. 4 by the template 'for every input the law returns true; each argument reads behind the call as it read before'; 0 by the template 'total and deterministic' (their statements: YtldleojipogcmaaTotals.lean).
  GIVEN WITH THE SEED: the statements are not yours to turn. If you find one false, say at which input.
  Laid BY PROGRAM, IN A SANDBOX (cutbox-rows.mjs): the forced cells as the released guide's own fill.sh prints them over the translation ca89a3c9f3710f2a… (all of the seat's roots in one cut). By AI agents, Wed Nov 11 2026. No macro, syntax, notation, axiom, sorry.
-/
import Derived.Test.YtldleojipogcmaaChecked
import GoSem.Claim
import GoSem.ClaimJoined
import GoSem.ClaimMapViews
import Derived.JoinedTies
import Derived.KernelRfl
namespace Go.Proofs.Ytldleojipogcmaa
/- THE CELL 'sum', in the pinned program and in every row, IS THE sha256 OF THE DUMP (.gsa) THAT YtldleojipogcmaaProg.lean LOADS. Nothing in Lean hashes anything: it is a label: what it is worth is what the hold of that sum in a sandbox is worth. -/
noncomputable def Try.pinned : Pinned := { name := "ytldleojipogcmaa", sum := "ca89a3c9f3710f2a2aae8c30cce3df068c429fa44b9d2bad59f73ece1ecb7ce7", checked := Try.checked }
namespace Rows
def none {H : Type} : Left H := { results := [], args := [] }

/-- 'veneerlaw16.FlightOnce': WHATEVER THE INPUT: true; the input reads as it did. -/
def flightOnceSpec : ChangeSpec := { name := "flightOnce", fn := fun _ => fun
  | [d] => { results := [.lit (.bool true)], args := [d] }
  | _ => none }
def flightOnceRow : OpenClaim := { program := "ytldleojipogcmaa", sum := "ca89a3c9f3710f2a2aae8c30cce3df068c429fa44b9d2bad59f73ece1ecb7ce7", func := "veneer/veneerlaw16.FlightOnce", spec := "flightOnce", unfollowed := true, recurses := true, apart := false }
def FlightOnceSaid : Prop := flightOnceRow.holds Try.pinned (OpenSpec.ofChange flightOnceSpec)

/-- ITS FALSE NEIGHBOUR: 'it returns false'. Refute it at one input. -/
def flightOnceWrong : ChangeSpec := { name := "flightOnce", fn := fun _ => fun
  | [d] => { results := [.lit (.bool false)], args := [d] }
  | _ => none }
def FlightOnceWrongFalsely : Prop := flightOnceRow.holds Try.pinned (OpenSpec.ofChange flightOnceWrong)

/-- 'veneerlaw16.FlightFree': WHATEVER THE INPUT: true; the input reads as it did. -/
def flightFreeSpec : ChangeSpec := { name := "flightFree", fn := fun _ => fun
  | [d1, d2, d3] => { results := [.lit (.bool true)], args := [d1, d2, d3] }
  | _ => none }
def flightFreeRow : OpenClaim := { program := "ytldleojipogcmaa", sum := "ca89a3c9f3710f2a2aae8c30cce3df068c429fa44b9d2bad59f73ece1ecb7ce7", func := "veneer/veneerlaw16.FlightFree", spec := "flightFree", unfollowed := true, recurses := true, apart := false }
def FlightFreeSaid : Prop := flightFreeRow.holds Try.pinned (OpenSpec.ofChange flightFreeSpec)

/-- ITS FALSE NEIGHBOUR: 'it returns false'. Refute it at one input. -/
def flightFreeWrong : ChangeSpec := { name := "flightFree", fn := fun _ => fun
  | [d1, d2, d3] => { results := [.lit (.bool false)], args := [d1, d2, d3] }
  | _ => none }
def FlightFreeWrongFalsely : Prop := flightFreeRow.holds Try.pinned (OpenSpec.ofChange flightFreeWrong)

/-- 'veneerlaw16.FlightApart': WHATEVER THE INPUT: true; the input reads as it did. -/
def flightApartSpec : ChangeSpec := { name := "flightApart", fn := fun _ => fun
  | [d1, d2, d3] => { results := [.lit (.bool true)], args := [d1, d2, d3] }
  | _ => none }
def flightApartRow : OpenClaim := { program := "ytldleojipogcmaa", sum := "ca89a3c9f3710f2a2aae8c30cce3df068c429fa44b9d2bad59f73ece1ecb7ce7", func := "veneer/veneerlaw16.FlightApart", spec := "flightApart", unfollowed := true, recurses := true, apart := false }
def FlightApartSaid : Prop := flightApartRow.holds Try.pinned (OpenSpec.ofChange flightApartSpec)

/-- ITS FALSE NEIGHBOUR: 'it returns false'. Refute it at one input. -/
def flightApartWrong : ChangeSpec := { name := "flightApart", fn := fun _ => fun
  | [d1, d2, d3] => { results := [.lit (.bool false)], args := [d1, d2, d3] }
  | _ => none }
def FlightApartWrongFalsely : Prop := flightApartRow.holds Try.pinned (OpenSpec.ofChange flightApartWrong)

/-- 'veneerlaw16.FlightOrder': WHATEVER THE INPUT: true; the input reads as it did. -/
def flightOrderSpec : ChangeSpec := { name := "flightOrder", fn := fun _ => fun
  | [d1, d2, d3] => { results := [.lit (.bool true)], args := [d1, d2, d3] }
  | _ => none }
def flightOrderRow : OpenClaim := { program := "ytldleojipogcmaa", sum := "ca89a3c9f3710f2a2aae8c30cce3df068c429fa44b9d2bad59f73ece1ecb7ce7", func := "veneer/veneerlaw16.FlightOrder", spec := "flightOrder", unfollowed := true, recurses := true, apart := false }
def FlightOrderSaid : Prop := flightOrderRow.holds Try.pinned (OpenSpec.ofChange flightOrderSpec)

/-- ITS FALSE NEIGHBOUR: 'it returns false'. Refute it at one input. -/
def flightOrderWrong : ChangeSpec := { name := "flightOrder", fn := fun _ => fun
  | [d1, d2, d3] => { results := [.lit (.bool false)], args := [d1, d2, d3] }
  | _ => none }
def FlightOrderWrongFalsely : Prop := flightOrderRow.holds Try.pinned (OpenSpec.ofChange flightOrderWrong)

/- THE SECOND FORM. 'bulk': how many values and letters a reading holds, each counted each time it is reached (what is shared counts as often as it is met; a slice's spare places count too). A statement '..UptoSaid' is the law's where the arguments, and the package variables that the reading takes, are together of bulk at most 1048576: NARROWER than '..Said'. Prove '..Said' where nothing that the law and all that it calls make is longer than what came in: it says more and counts as full. Else prove '..UptoSaid'. A law counts once. -/
mutual
def uptoBulk {H : Type} : DataW H → Nat
  | .lit (.string bytes) => bytes.length + 1
  | .lit _ => 1
  | .nil => 1
  | .ptr d => uptoBulk d + 1
  | .slice elems spare => uptoBulkAll elems + uptoBulkAll spare + 1
  | .agg parts => uptoBulkAll parts + 1
  | .iface _ d => uptoBulk d + 1
  | .map entries => uptoBulkEntries entries + 1
  | .held _ => 1
def uptoBulkAll {H : Type} : List (DataW H) → Nat
  | [] => 0
  | d :: r => uptoBulk d + uptoBulkAll r
def uptoBulkEntries {H : Type} : List (Lit × DataW H) → Nat
  | [] => 0
  | x :: r => uptoBulkEntry x + uptoBulkEntries r
def uptoBulkEntry {H : Type} : Lit × DataW H → Nat
  | (.string bytes, d) => bytes.length + uptoBulk d + 1
  | (_, d) => uptoBulk d + 1
 end
def uptoSmall : (H : Type) → List (DataW H) → Bool := fun _ ds => decide (uptoBulkAll ds ≤ 1048576)
def OpenSpec.upto (s : _root_.Go.ChangeSpec) : _root_.Go.OpenSpec := { _root_.Go.OpenSpec.ofChange s with cond := some uptoSmall }

/-- 'veneerlaw16.FlightOnce', WHERE WHAT IT READS IS OF BULK AT MOST 1048576: true; the input reads as it did. -/
def flightOnceUptoRow : OpenClaim := { program := "ytldleojipogcmaa", sum := "ca89a3c9f3710f2a2aae8c30cce3df068c429fa44b9d2bad59f73ece1ecb7ce7", func := "veneer/veneerlaw16.FlightOnce", spec := "flightOnce", unfollowed := true, recurses := true, apart := false, narrowed := true }
def FlightOnceUptoSaid : Prop := flightOnceUptoRow.holds Try.pinned (OpenSpec.upto flightOnceSpec)

/-- 'veneerlaw16.FlightFree', WHERE WHAT IT READS IS OF BULK AT MOST 1048576: true; the input reads as it did. -/
def flightFreeUptoRow : OpenClaim := { program := "ytldleojipogcmaa", sum := "ca89a3c9f3710f2a2aae8c30cce3df068c429fa44b9d2bad59f73ece1ecb7ce7", func := "veneer/veneerlaw16.FlightFree", spec := "flightFree", unfollowed := true, recurses := true, apart := false, narrowed := true }
def FlightFreeUptoSaid : Prop := flightFreeUptoRow.holds Try.pinned (OpenSpec.upto flightFreeSpec)

/-- 'veneerlaw16.FlightApart', WHERE WHAT IT READS IS OF BULK AT MOST 1048576: true; the input reads as it did. -/
def flightApartUptoRow : OpenClaim := { program := "ytldleojipogcmaa", sum := "ca89a3c9f3710f2a2aae8c30cce3df068c429fa44b9d2bad59f73ece1ecb7ce7", func := "veneer/veneerlaw16.FlightApart", spec := "flightApart", unfollowed := true, recurses := true, apart := false, narrowed := true }
def FlightApartUptoSaid : Prop := flightApartUptoRow.holds Try.pinned (OpenSpec.upto flightApartSpec)

/-- 'veneerlaw16.FlightOrder', WHERE WHAT IT READS IS OF BULK AT MOST 1048576: true; the input reads as it did. -/
def flightOrderUptoRow : OpenClaim := { program := "ytldleojipogcmaa", sum := "ca89a3c9f3710f2a2aae8c30cce3df068c429fa44b9d2bad59f73ece1ecb7ce7", func := "veneer/veneerlaw16.FlightOrder", spec := "flightOrder", unfollowed := true, recurses := true, apart := false, narrowed := true }
def FlightOrderUptoSaid : Prop := flightOrderUptoRow.holds Try.pinned (OpenSpec.upto flightOrderSpec)

end Rows
end Go.Proofs.Ytldleojipogcmaa
