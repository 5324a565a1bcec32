/- Flights: the mathematics of a table. No program in it. -/
import Derived.Lib.Hide
import Derived.RowKit
namespace Go.Proofs.Ytldleojipogcmaa.fl
set_option linter.unusedVariables false

/-- A table: each flight's leader and who has joined it; who flies; what is owed. -/
structure Fs where
  fl : Int → Option (Int × List Int)
  ab : Int → Bool
  res : Int → Option Int
  N : Nat
  K : Nat
def upf {α : Type} (f : Int → α) (a : Int) (v : α) : Int → α := fun x => if x = a then v else f x
theorem upf_self {α : Type} (f : Int → α) (a : Int) (v : α) : upf f a v a = v := by simp [upf]
theorem upf_ne {α : Type} {f : Int → α} {a x : Int} {v : α} (h : x ≠ a) : upf f a v x = f x := by simp [upf, h]
def Fs.new : Fs := ⟨fun _ => none, fun _ => false, fun _ => none, 0, 0⟩
def Fs.busy (s : Fs) (who : Int) : Bool := s.ab who || (s.res who).isSome
def more (o : Option (Int × List Int)) (who : Int) : Int × List Int := match o with | none => (who, []) | some (l, xs) => (l, xs ++ [who])
def Fs.come (s : Fs) (k who : Int) : Fs := { s with fl := upf s.fl k (some (more (s.fl k) who)), ab := upf s.ab who true, N := s.N + 1 }
/-- 'Join': whether who leads, the error, what is then. -/
def Fs.join (s : Fs) (k who : Int) : Bool × Int × Fs := if s.busy who then (false, 16, s) else (!(s.fl k).isSome, 0, s.come k who)
/-- What is when the flight k of l and xs has landed with e, the first i of xs told. -/
def Fs.told (s : Fs) (k l : Int) (xs : List Int) (e : Int) (K : Nat) : Fs := { s with fl := upf s.fl k none, ab := fun a => s.ab a && !decide (a = l) && !decide (a ∈ xs), res := fun a => if a ∈ xs then some e else s.res a, K := K }
def Fs.land (s : Fs) (k who e : Int) : List Int × Int × Fs := match s.fl k with
  | none => ([], 2, s)
  | some (l, xs) => if l = who then (xs, 0, s.told k l xs e (s.K + xs.length)) else ([], 1, s)
def Fs.result (s : Fs) (who : Int) : Int × Bool × Fs := ((s.res who).getD 0, (s.res who).isSome, { s with res := upf s.res who none })
def Fs.lead (s : Fs) (k : Int) : Int × Bool := (((s.fl k).getD (0, [])).1, (s.fl k).isSome)
def Fs.joined (s : Fs) (k : Int) : List Int := ((s.fl k).getD (0, [])).2
end Go.Proofs.Ytldleojipogcmaa.fl
