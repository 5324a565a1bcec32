/- Locks and tasks: the mathematics of a schedule. No program in it. -/
import Derived.Lib.Hide
import Derived.RowKit
namespace Go.Proofs.Ytlplbpilpkmoaaa.sc
set_option linter.unusedVariables false

/-- A claim: whose, to write, held. -/
structure Cl where
  task : Nat
  write : Bool
  held : Bool
/-- The tasks: what each is at (0 ready, 1 waits, 2 done), how many locks it holds. -/
structure Tk where
  st : Nat → Nat
  lk : Nat → Int
def Tk.ini : Tk := ⟨fun _ => 0, fun _ => 0⟩
def Tk.put (T : Tk) (k s : Nat) : Tk := ⟨fun x => if x = k then s else T.st x, T.lk⟩
def Tk.add (T : Tk) (k : Nat) (a : Int) : Tk := ⟨T.st, fun x => if x = k then RowKit.wrap64 (T.lk x + a) else T.lk x⟩
def fitsB (H : List Cl) (c : Cl) : Bool := match H with
  | [] => true
  | h :: _ => !c.write && !h.write
def Cl.hold (c : Cl) : Cl := ⟨c.task, c.write, true⟩
/-- 'admit': what is passed already, what comes. -/
def adm : List Cl → List Cl → Tk → List Cl × Tk
  | pre, [], T => (pre, T)
  | pre, c :: r, T =>
    if c.held then adm (pre ++ [c]) r T
    else if fitsB pre c then adm (pre ++ [c.hold]) r ((T.add c.task 1).put c.task 0)
    else (pre ++ c :: r, T)
structure Sd where
  n : Nat
  T : Tk
  cl : Int → List Cl
  N : Nat
def upc (f : Int → List Cl) (l : Int) (L : List Cl) : Int → List Cl := fun x => if x = l then L else f x
def Sd.setL (s : Sd) (l : Int) (L : List Cl) : Sd := { s with cl := upc s.cl l L }
def Sd.new (n : Nat) : Sd := ⟨n, Tk.ini, fun _ => [], 0⟩
def Sd.admit (s : Sd) (l : Int) : Sd := { s with T := (adm [] (s.cl l) s.T).2, cl := upc s.cl l (adm [] (s.cl l) s.T).1 }
def Sd.has (s : Sd) (k : Nat) (l : Int) : Bool := (s.cl l).any fun c => decide (c.task = k) && c.held
def Sd.ok (s : Sd) (t : Int) : Prop := 0 ≤ t ∧ t < (s.n : Int)
instance (s : Sd) (t : Int) : Decidable (s.ok t) := by unfold Sd.ok; exact inferInstance
def Sd.come (s : Sd) (k : Nat) (l : Int) (w : Bool) : Sd := { s with T := s.T.put k 1, cl := upc s.cl l (s.cl l ++ [⟨k, w, false⟩]), N := s.N + 1 }
/-- 'Lock': the answer, the error, what is then. -/
def Sd.lock (s : Sd) (t l : Int) (w : Bool) : Bool × Int × Sd :=
  if s.ok t ∧ s.T.st t.toNat = 0 then
    if s.has t.toNat l then (false, 16, s)
    else (decide (((s.come t.toNat l w).admit l).T.st t.toNat = 0), 0, (s.come t.toNat l w).admit l)
  else (false, 22, s)
def Sd.gone (s : Sd) (k : Nat) (l : Int) : Sd := { s with T := s.T.add k (-1), cl := upc s.cl l ((s.cl l).filter fun c => !decide (c.task = k)) }
def Sd.unlock (s : Sd) (t l : Int) : Int × Sd :=
  if s.ok t then
    if s.has t.toNat l then (0, (s.gone t.toNat l).admit l) else (1, s)
  else (22, s)
def Sd.done (s : Sd) (t : Int) : Int × Sd :=
  if s.ok t ∧ s.T.st t.toNat = 0 then
    if 0 < s.T.lk t.toNat then (16, s) else (0, { s with T := s.T.put t.toNat 2 })
  else (22, s)
/-- Who is at what. -/
def Sd.at_ (s : Sd) (what : Nat) : List Nat := (List.range s.n).filter fun k => decide (s.T.st k = what)
def Sd.queue (s : Sd) (l : Int) : List Nat := ((s.cl l).filter fun c => !c.held).map (·.task)
def Sd.heldL (s : Sd) (l : Int) : List Cl := (s.cl l).filter (·.held)
def headW (L : List Cl) : Bool := match L with | [] => false | c :: _ => c.write
def Sd.pick (s : Sd) (n : Int) : Option Nat := if (s.at_ 0).length = 0 then none else some ((s.at_ 0).getD (n % ((s.at_ 0).length : Int)).toNat 0)
def Sd.stuck (s : Sd) : Bool := decide ((s.at_ 0).length = 0) && decide (0 < (s.at_ 1).length)

theorem adm_len : ∀ (r pre : List Cl) (T : Tk), (adm pre r T).1.length = pre.length + r.length
  | [], pre, T => by simp [adm]
  | c :: r, pre, T => by
    unfold adm
    split
    · rw [adm_len]; simp; omega
    · split
      · rw [adm_len]; simp; omega
      · simp
theorem adm_tasks : ∀ (r pre : List Cl) (T : Tk), (adm pre r T).1.map (·.task) = (pre ++ r).map (·.task)
  | [], pre, T => by simp [adm]
  | c :: r, pre, T => by
    unfold adm
    split
    · rw [adm_tasks]; simp
    · split
      · rw [adm_tasks]; simp [Cl.hold]
      · simp
theorem upc_self (f : Int → List Cl) (l : Int) (L : List Cl) : upc f l L l = L := by simp [upc]
theorem upc_ne {f : Int → List Cl} {l x : Int} {L : List Cl} (h : x ≠ l) : upc f l L x = f x := by simp [upc, h]
theorem upc_id (f : Int → List Cl) (l : Int) : upc f l (f l) = f := by funext x; unfold upc; split <;> simp [*]
theorem upc_upc (f : Int → List Cl) (l : Int) (L K : List Cl) : upc (upc f l L) l K = upc f l K := by funext x; unfold upc; split <;> rfl

end Go.Proofs.Ytlplbpilpkmoaaa.sc
