/- A branch as the document tells it: its inodes by number and what is used of its store; what each function answers and what it makes of the branch. A branch as the document tells it: sums over its inodes. A branch as the document tells it: what holds of every branch holds of a new one, and stays where holds and marks alone are turned. A branch as the document tells it: a name goes, and its inode has a link less. A branch as the document tells it: a name comes, and its inode has a link more. A branch as the document tells it: a body turned; an inode without names goes; the directories' depth. -/
import Derived.Test.YtnnaoldpacbagaaGreatZ04
import Derived.Test.YtnnaoldpacbagaaGreatZ07
section
namespace Go.Proofs.YtnnaoldpacbagaaGreat.br
open Go.RowKit
open Go.Proofs.YtnnaoldpacbagaaGreat.dn (En lget lset ldel nerr dotB Sorted)
open Go.Proofs.YtnnaoldpacbagaaGreat.bl (AB cut cutR cutB readR WR wr)
set_option linter.unusedVariables false

/-- An inode; kind 0: there is none. -/
structure Ino where
  kind : Int
  links : Int
  holds : Int
  marks : Int
  parent : Int
  body : AB
  dir : List En
  target : ByteArray
def abE : AB := ⟨0, fun _ => false, fun _ => 0⟩
def Ino.nil : Ino := ⟨0, 0, 0, 0, 0, abE, [], ⟨#[]⟩⟩
/-- A branch: inodes by number, chunks used. -/
structure BS where
  ino : Nat → Ino
  used : Nat
def upd (f : Nat → Ino) (i : Nat) (x : Ino) : Nat → Ino := fun k => if k = i then x else f k
theorem upd_same (f : Nat → Ino) (i : Nat) (x : Ino) : upd f i x i = x := by simp [upd]
theorem upd_other (f : Nat → Ino) {i k : Nat} (x : Ino) (h : k ≠ i) : upd f i x k = f k := by simp [upd, h]
/-- The inode at a number as it is handed in. -/
def BS.at (S : BS) (i : Int) : Ino := S.ino i.toNat
def BS.put (S : BS) (i : Int) (x : Ino) : BS := ⟨upd S.ino i.toNat x, S.used⟩
def BS.isI (S : BS) (i : Int) : Bool := decide (1 ≤ i ∧ i ≤ 200 ∧ (S.at i).kind ≠ 0)
def fresh : BS := ⟨upd (fun _ => Ino.nil) 1 { Ino.nil with kind := 2, links := 1, parent := 1 }, 0⟩
/-- The sum of a number for each of 1 to n. -/
def sumF (f : Nat → Nat) : Nat → Nat
  | 0 => 0
  | n + 1 => sumF f n + f (n + 1)
/-- How many there are among the numbers 1 to n. -/
def BS.count (S : BS) (n : Nat) : Nat := sumF (fun k => if (S.ino k).kind ≠ 0 then 1 else 0) n
/-- The check of a directory. -/
def BS.dirE (S : BS) (d : Int) (change : Bool) : Int :=
  if S.isI d = false then 2 else if (S.at d).kind ≠ 2 then 20 else if change = true ∧ (S.at d).links = 0 then 2 else 0
/-- The check of a new name. -/
def nameE (s : ByteArray) : Int := if nerr s.data.toList = 0 ∧ dotB s = true then 22 else nerr s.data.toList
def BS.get (S : BS) (d : Int) (s : ByteArray) : Int × Int :=
  if S.dirE d false ≠ 0 then (0, S.dirE d false) else match lget s (S.at d).dir with | some v => (v, 0) | none => (0, 2)
/-- What bars a name's being set. -/
def BS.vacant (S : BS) (d : Int) (s : ByteArray) : Int :=
  if S.dirE d true ≠ 0 then S.dirE d true else if nameE s ≠ 0 then nameE s else if (lget s (S.at d).dir).isSome then 17 else 0
/-- The lowest free number from k on, of n numbers; 201 where there is none. -/
def BS.free (S : BS) : Nat → Nat → Nat
  | k, 0 => k
  | k, n + 1 => if (S.ino k).kind = 0 then k else BS.free S (k + 1) n
def badKind (kind : Int) (t : ByteArray) : Bool :=
  decide (kind < 1 ∨ kind > 4 ∨ (kind ≠ 3 ∧ t ≠ ⟨#[]⟩) ∨ (kind = 3 ∧ (t = ⟨#[]⟩ ∨ 400 < t.size)))
def BS.putDir (S : BS) (d : Int) (L : List En) : BS := S.put d { S.at d with dir := L }
def BS.make (S : BS) (d : Int) (s : ByteArray) (kind : Int) (t : ByteArray) : (Int × Int) × BS :=
  if S.vacant d s ≠ 0 then ((0, S.vacant d s), S)
  else if badKind kind t = true then ((0, 22), S)
  else let n := S.free 1 200
    if 200 < n then ((0, 28), S)
    else
      let S1 := S.put n ⟨kind, 1, 0, 0, if kind = 2 then d else 0, abE, [], t⟩
      (((n : Int), 0), S1.putDir d (lset s n (S1.at d).dir))
/-- Links and holds fewer; what has neither goes. -/
def BS.less (S : BS) (i : Int) (dl dh : Int) : BS :=
  let x := { S.at i with links := (S.at i).links - dl, holds := (S.at i).holds - dh }
  if x.links = 0 ∧ x.holds = 0 then ⟨upd S.ino i.toNat Ino.nil, S.used - x.body.n⟩ else S.put i x
def BS.link (S : BS) (d : Int) (s : ByteArray) (i : Int) : Int × BS :=
  if S.vacant d s ≠ 0 then (S.vacant d s, S)
  else if S.isI i = false ∨ (S.at i).links = 0 then (2, S)
  else if (S.at i).kind = 2 then (1, S)
  else if 20 ≤ (S.at i).links then (31, S)
  else
    let S1 := S.put i { S.at i with links := (S.at i).links + 1 }
    (0, S1.putDir d (lset s i (S1.at d).dir))
def BS.drop (S : BS) (d : Int) (s : ByteArray) (i : Int) : BS := (S.putDir d (ldel s (S.at d).dir)).less i 1 0
def BS.unlink (S : BS) (d : Int) (s : ByteArray) : Int × BS :=
  if S.dirE d true ≠ 0 then (S.dirE d true, S)
  else if (S.get d s).2 ≠ 0 then ((S.get d s).2, S)
  else if (S.at (S.get d s).1).kind = 2 then (21, S)
  else (0, S.drop d s (S.get d s).1)
def BS.rmdir (S : BS) (d : Int) (s : ByteArray) : Int × BS :=
  if S.dirE d true ≠ 0 then (S.dirE d true, S)
  else if (S.get d s).2 ≠ 0 then ((S.get d s).2, S)
  else if (S.at (S.get d s).1).kind ≠ 2 then (20, S)
  else if (S.at (S.get d s).1).dir ≠ [] then (39, S)
  else (0, S.drop d s (S.get d s).1)
/-- Is a directory top, or below it, within n steps up? -/
def BS.below (S : BS) (i top : Int) : Nat → Bool
  | 0 => false
  | n + 1 => decide (i = top) || BS.below S (S.at i).parent top n
/-- A name goes from one directory to another. -/
def BS.move (S : BS) (d : Int) (s : ByteArray) (t : Int) (u : ByteArray) (i : Int) : BS :=
  let S1 := S.putDir d (ldel s (S.at d).dir)
  let S2 := S1.putDir t (lset u i (S1.at t).dir)
  if (S.at i).kind = 2 then S2.put i { S2.at i with parent := t } else S2
def BS.rename (S : BS) (d : Int) (s : ByteArray) (t : Int) (u : ByteArray) : Int × BS :=
  if S.dirE d true ≠ 0 then (S.dirE d true, S)
  else if (S.get d s).2 ≠ 0 then ((S.get d s).2, S)
  else if S.dirE t true ≠ 0 then (S.dirE t true, S)
  else if nameE u ≠ 0 then (nameE u, S)
  else
    let i := (S.get d s).1
    if (S.at i).kind = 2 ∧ S.below t i 300 = true then (22, S)
    else match lget u (S.at t).dir with
      | none => (0, S.move d s t u i)
      | some old =>
        if old = i then (0, S)
        else if (S.at old).kind = 2 ∧ (S.at i).kind ≠ 2 then (21, S)
        else if (S.at old).kind ≠ 2 ∧ (S.at i).kind = 2 then (20, S)
        else if (S.at old).kind = 2 ∧ (S.at old).dir ≠ [] then (39, S)
        else (0, (S.drop t u old).move d s t u i)
def BS.kindOf (S : BS) (i : Int) : Int := if S.isI i then (S.at i).kind else 0
def BS.parentOf (S : BS) (i : Int) : Int := if S.isI i then (S.at i).parent else 0
def BS.marksOf (S : BS) (i : Int) : Int := if S.isI i then (S.at i).marks else 0
def Ino.sizeOf (x : Ino) : Nat := if x.kind = 1 then x.body.size else if x.kind = 2 then x.dir.length else if x.kind = 3 then x.target.size else 0
/-- Kind, size, links; the error. -/
def BS.stat (S : BS) (i : Int) : (Int × Nat × Int) × Int := if S.isI i then (((S.at i).kind, (S.at i).sizeOf, (S.at i).links), 0) else ((0, 0, 0), 2)
def BS.targetOf (S : BS) (i : Int) : ByteArray × Int := if S.isI i = false then (⟨#[]⟩, 2) else if (S.at i).kind ≠ 3 then (⟨#[]⟩, 22) else ((S.at i).target, 0)
def BS.all (S : BS) (i : Int) : List En × Int := if S.dirE i false ≠ 0 then ([], S.dirE i false) else ((S.at i).dir, 0)
/-- The check of a file. -/
def BS.fileE (S : BS) (i : Int) : Int := if S.kindOf i = 0 then 2 else if S.kindOf i = 2 then 21 else if S.kindOf i = 1 then 0 else 22
/-- Behind a write of p bytes. -/
def BS.wrote (S : BS) (i : Int) (off : Int) (p : Nat) (f : Nat → UInt8) : BS :=
  ⟨upd S.ino i.toNat { S.at i with body := wr (S.at i).body off p f }, S.used + (wr (S.at i).body off p f).n - (S.at i).body.n⟩
def BS.cutI (S : BS) (i : Int) (off : Int) : Int × BS :=
  if S.fileE i ≠ 0 then (S.fileE i, S)
  else (cutR off, ⟨upd S.ino i.toNat { S.at i with body := cut (S.at i).body off }, S.used + (cut (S.at i).body off).n - (S.at i).body.n⟩)
def BS.hold (S : BS) (i : Int) : Int × BS := if S.isI i = false then (2, S) else (0, S.put i { S.at i with holds := (S.at i).holds + 1 })
def BS.release (S : BS) (i : Int) : Int × BS := if S.isI i = false then (2, S) else if (S.at i).holds = 0 then (22, S) else (0, S.less i 0 1)
def BS.mark (S : BS) (i : Int) (m : Int) : Int × BS := if S.isI i = false then (2, S) else (0, S.put i { S.at i with marks := m })

/-! ### what holds of every branch -/
/-- How many of a directory's names lead to i. -/
def names (i : Int) (L : List En) : Nat := (L.filter fun e => decide (e.2 = i)).length
/-- How many names lead to i in the directories 1 to n. -/
def BS.names (S : BS) (i : Int) (n : Nat) : Nat := sumF (fun k => br.names i (S.ino k).dir) n
def BS.chunks (S : BS) (n : Nat) : Nat := sumF (fun k => (S.ino k).body.n) n
structure Inv (S : BS) (room : Nat) : Prop where
  out : ∀ k, k = 0 ∨ 200 < k → S.ino k = Ino.nil
  none : ∀ k, (S.ino k).kind = 0 → S.ino k = Ino.nil
  kinds : ∀ k, 0 ≤ (S.ino k).kind ∧ (S.ino k).kind ≤ 4
  nums : ∀ k, 0 ≤ (S.ino k).links ∧ 0 ≤ (S.ino k).holds
  kept : ∀ k, (S.ino k).kind ≠ 0 → (S.ino k).links ≠ 0 ∨ (S.ino k).holds ≠ 0
  root : (S.ino 1).kind = 2 ∧ (S.ino 1).links = 1 ∧ (S.ino 1).parent = 1
  body : ∀ k, (S.ino k).body.Ok
  noBody : ∀ k, (S.ino k).kind ≠ 1 → (S.ino k).body = abE
  noDir : ∀ k, (S.ino k).kind ≠ 2 → (S.ino k).dir = []
  noTarget : ∀ k, (S.ino k).kind ≠ 3 → (S.ino k).target = ⟨#[]⟩
  target : ∀ k, (S.ino k).target.size ≤ 400
  sorted : ∀ k, Sorted (S.ino k).dir
  good : ∀ k, ∀ e ∈ (S.ino k).dir, nerr e.1.data.toList = 0 ∧ dotB e.1 = false ∧ 1 ≤ e.2 ∧ e.2 ≤ 200
  used : S.used = S.chunks 200
  room : S.used ≤ room
  links : ∀ k, 1 ≤ k → k ≤ 200 → (S.ino k).links = (S.names k 200 : Int) + if k = 1 then 1 else 0
  twenty : ∀ k, (S.ino k).links ≤ 20
  gone : ∀ k, (S.ino k).kind = 2 → (S.ino k).links = 0 → (S.ino k).dir = []
  up : ∀ k, ∀ e ∈ (S.ino k).dir, (S.at e.2).kind = 2 → (S.at e.2).parent = k
  single : ∀ k, (S.ino k).kind = 2 → (S.ino k).links ≤ 1
/-- Each directory that has links is reached by its parents from the root. -/
def Tree (S : BS) : Prop := ∃ deep : Nat → Nat, ∀ k, (S.ino k).kind = 2 → (S.ino k).links ≠ 0 → k ≠ 1 →
  ∃ p : Nat, (S.ino k).parent = (p : Int) ∧ (S.ino p).kind = 2 ∧ (S.ino p).links ≠ 0 ∧ deep p < deep k
end Go.Proofs.YtnnaoldpacbagaaGreat.br
end
section
namespace Go.Proofs.YtnnaoldpacbagaaGreat.br
open Go.RowKit
open Go.Proofs.YtnnaoldpacbagaaGreat.dn (En lget lset ldel nerr dotB Sorted lset_new lget_none names_inj lget_some)
open Go.Proofs.YtnnaoldpacbagaaGreat.bl (AB cut cutR cutB readR WR wr)
set_option linter.unusedVariables false

theorem sumF_congr {f g : Nat → Nat} {n : Nat} (h : ∀ k, 1 ≤ k → k ≤ n → f k = g k) : sumF f n = sumF g n := by
  induction n with
  | zero => rfl
  | succ n ih => simp only [sumF]; rw [ih fun k h1 h2 => h k h1 (by omega), h (n + 1) (by omega) (Nat.le_refl _)]
theorem sumF_upd (g : Ino → Nat) (f : Nat → Ino) (d n : Nat) (x : Ino) (h1 : 1 ≤ d) (h2 : d ≤ n) : sumF (fun k => g (upd f d x k)) n + g (f d) = sumF (fun k => g (f k)) n + g x := by
  induction n with
  | zero => omega
  | succ n ih =>
    simp only [sumF]
    by_cases e : d = n + 1
    · subst e
      rw [sumF_congr (g := fun k => g (f k)) (n := n) (fun k _ hk => by show g (upd f (n + 1) x k) = _; rw [upd_other f x (by omega)]), upd_same]
      omega
    · rw [upd_other f x (fun e1 => e e1.symm)]
      have := ih (by omega)
      omega
theorem sumF_out (g : Ino → Nat) (f : Nat → Ino) (d n : Nat) (x : Ino) (h : d = 0 ∨ n < d) : sumF (fun k => g (upd f d x k)) n = sumF (fun k => g (f k)) n :=
  sumF_congr fun k h1 h2 => by rw [upd_other f x (by omega)]
theorem sumF_zero {f : Nat → Nat} {n : Nat} (h : ∀ k, 1 ≤ k → k ≤ n → f k = 0) : sumF f n = 0 := by
  induction n with
  | zero => rfl
  | succ n ih => simp only [sumF]; rw [ih fun k h1 h2 => h k h1 (by omega), h (n + 1) (by omega) (Nat.le_refl _)]
theorem sumF_le {f : Nat → Nat} {k n : Nat} (h1 : 1 ≤ k) (h2 : k ≤ n) : f k ≤ sumF f n := by
  induction n with
  | zero => omega
  | succ n ih =>
    simp only [sumF]
    by_cases e : k = n + 1
    · subst e; omega
    · have := ih (by omega); omega
theorem sumF_pos {f : Nat → Nat} {n : Nat} (h : 0 < sumF f n) : ∃ k, 1 ≤ k ∧ k ≤ n ∧ 0 < f k := by
  induction n with
  | zero => simp [sumF] at h
  | succ n ih =>
    simp only [sumF] at h
    by_cases e : 0 < f (n + 1)
    · exact ⟨n + 1, by omega, Nat.le_refl _, e⟩
    · obtain ⟨k, h1, h2, h3⟩ := ih (by omega)
      exact ⟨k, h1, by omega, h3⟩

theorem names_nil (i : Int) : names i [] = 0 := rfl
theorem names_cons (i : Int) (x : En) (l : List En) : names i (x :: l) = (if x.2 = i then 1 else 0) + names i l := by
  unfold names
  rw [List.filter_cons]
  by_cases h : x.2 = i
  · simp [h]; omega
  · simp [h]
theorem names_append (i : Int) (l m : List En) : names i (l ++ m) = names i l + names i m := by simp [names, List.filter_append]
theorem names_lset {s : ByteArray} {v i : Int} {L : List En} (h : lget s L = none) : names i (lset s v L) = names i L + if v = i then 1 else 0 := by
  rw [lset_new fun x hx => (lget_none.1 h) x (List.mem_of_getElem? hx), names_append, names_cons]
  conv => rhs; rw [← List.take_append_drop (dn.pos s L) L, names_append]
  dsimp only
  omega
theorem names_ldel {s : ByteArray} {v i : Int} {L : List En} (hs : Sorted L) (h : lget s L = some v) : names i L = names i (ldel s L) + if v = i then 1 else 0 := by
  induction L with
  | nil => simp [lget] at h
  | cons x l ih =>
    obtain ⟨h1, h2⟩ := hs.cons
    by_cases e : x.1 = s
    · have hv : x.2 = v := by simpa [lget, e] using h
      have hl : ldel s l = l := by
        unfold ldel
        rw [List.filter_eq_self]
        intro y hy
        have := dn.less_ne (h2 y hy)
        simpa [← e] using fun e1 => this e1.symm
      have hd : ldel s (x :: l) = l := by
        have : ldel s (x :: l) = ldel s l := by simp [ldel, e]
        rw [this, hl]
      rw [hd, names_cons, hv]; omega
    · have hg : lget s l = some v := by simpa [lget, e] using h
      have hd : ldel s (x :: l) = x :: ldel s l := by simp [ldel, e]
      rw [hd, names_cons, names_cons, ih h1 hg]; omega
theorem names_mem {i : Int} {L : List En} : 0 < names i L ↔ ∃ e ∈ L, e.2 = i := by
  unfold names
  rw [List.length_pos_iff, Ne, List.filter_eq_nil_iff]
  simp
theorem names_put (S : BS) (i : Int) (d : Nat) (x : Ino) (u : Nat) (h1 : 1 ≤ d) (h2 : d ≤ 200) : (⟨upd S.ino d x, u⟩ : BS).names i 200 + names i (S.ino d).dir = S.names i 200 + names i x.dir :=
  sumF_upd (fun x => names i x.dir) S.ino d 200 x h1 h2
theorem chunks_put (S : BS) (d : Nat) (x : Ino) (u : Nat) (h1 : 1 ≤ d) (h2 : d ≤ 200) : (⟨upd S.ino d x, u⟩ : BS).chunks 200 + (S.ino d).body.n = S.chunks 200 + x.body.n :=
  sumF_upd (fun x => x.body.n) S.ino d 200 x h1 h2
theorem count_put (S : BS) (d : Nat) (x : Ino) (u : Nat) (h1 : 1 ≤ d) (h2 : d ≤ 200) : (⟨upd S.ino d x, u⟩ : BS).count 200 + (if (S.ino d).kind ≠ 0 then 1 else 0) = S.count 200 + if x.kind ≠ 0 then 1 else 0 :=
  sumF_upd (fun x => if x.kind ≠ 0 then 1 else 0) S.ino d 200 x h1 h2
theorem abE_n : abE.n = 0 := by unfold AB.n bl.cnt abE; simp
theorem abE_ok : abE.Ok := ⟨by simp [abE], by simp [abE], by simp [abE]⟩
end Go.Proofs.YtnnaoldpacbagaaGreat.br
end
section
namespace Go.Proofs.YtnnaoldpacbagaaGreat.br
open Go.RowKit
open Go.Proofs.YtnnaoldpacbagaaGreat.dn (En lget lset ldel nerr dotB Sorted)
open Go.Proofs.YtnnaoldpacbagaaGreat.bl (AB cut cutR cutB readR WR wr)
set_option linter.unusedVariables false

theorem fresh_ino (k : Nat) : fresh.ino k = if k = 1 then { Ino.nil with kind := 2, links := 1, parent := 1 } else Ino.nil := rfl
theorem fresh_dir (k : Nat) : (fresh.ino k).dir = [] := by rw [fresh_ino]; split <;> rfl
theorem fresh_body (k : Nat) : (fresh.ino k).body = abE := by rw [fresh_ino]; split <;> rfl
theorem fresh_target (k : Nat) : (fresh.ino k).target = ⟨#[]⟩ := by rw [fresh_ino]; split <;> rfl
theorem Inv.fresh (room : Nat) : Inv fresh room where
  out k hk := by rw [fresh_ino, if_neg (by omega)]
  none k hk := by
    rw [fresh_ino] at hk ⊢
    by_cases e : k = 1
    · rw [if_pos e] at hk; cases hk
    · rw [if_neg e]
  kinds k := by rw [fresh_ino]; split <;> exact ⟨by decide, by decide⟩
  nums k := by rw [fresh_ino]; split <;> exact ⟨by decide, by decide⟩
  kept k hk := by
    rw [fresh_ino] at hk ⊢
    by_cases e : k = 1
    · rw [if_pos e]; left; decide
    · rw [if_neg e] at hk; exact absurd rfl hk
  root := ⟨rfl, rfl, rfl⟩
  body k := by rw [fresh_body]; exact abE_ok
  noBody k _ := fresh_body k
  noDir k _ := fresh_dir k
  noTarget k _ := fresh_target k
  target k := by rw [fresh_target]; decide
  sorted k := by rw [fresh_dir]; exact List.Pairwise.nil
  good k e he := by rw [fresh_dir] at he; cases he
  used := by
    show 0 = sumF _ _
    exact (sumF_zero fun k _ _ => by show (br.fresh.ino k).body.n = 0; rw [fresh_body, abE_n]).symm
  room := Nat.zero_le _
  links k h1 h2 := by
    have : br.fresh.names (k : Int) 200 = 0 := sumF_zero fun j _ _ => by show names _ (br.fresh.ino j).dir = 0; rw [fresh_dir]; rfl
    rw [this, fresh_ino]
    by_cases e : k = 1
    · rw [if_pos e, if_pos e]; rfl
    · rw [if_neg e, if_neg e]; rfl
  twenty k := by rw [fresh_ino]; split <;> decide
  gone k _ _ := fresh_dir k
  up k e he := by rw [fresh_dir] at he; cases he
  single k _ := by rw [fresh_ino]; split <;> decide
/-- Holds and marks alone are turned. -/
theorem Inv.tweak {S : BS} {room : Nat} (h : Inv S room) (i : Nat) (x : Ino) (hk : x.kind = (S.ino i).kind) (hl : x.links = (S.ino i).links) (hp : x.parent = (S.ino i).parent) (hb : x.body = (S.ino i).body) (hd : x.dir = (S.ino i).dir)
    (ht : x.target = (S.ino i).target) (h0 : 0 ≤ x.holds) (hn : x.kind ≠ 0) (hkp : x.links ≠ 0 ∨ x.holds ≠ 0) : Inv ⟨upd S.ino i x, S.used⟩ room := by
  have K : ∀ k, (upd S.ino i x k).kind = (S.ino k).kind ∧ (upd S.ino i x k).links = (S.ino k).links ∧ (upd S.ino i x k).parent = (S.ino k).parent ∧ (upd S.ino i x k).body = (S.ino k).body ∧ (upd S.ino i x k).dir = (S.ino k).dir ∧ (upd S.ino i x k).target = (S.ino k).target := fun k => by
    by_cases e : k = i
    · subst e; rw [upd_same]; exact ⟨hk, hl, hp, hb, hd, ht⟩
    · rw [upd_other _ _ e]; exact ⟨rfl, rfl, rfl, rfl, rfl, rfl⟩
  have hi : ¬ (i = 0 ∨ 200 < i) := fun e => hn (by rw [hk, h.out i e]; rfl)
  have hN : ∀ j, (⟨upd S.ino i x, S.used⟩ : BS).names j 200 = S.names j 200 := fun j => sumF_congr fun k _ _ => by show names j (upd S.ino i x k).dir = _; rw [(K k).2.2.2.2.1]
  refine ⟨fun k hk' => ?_, fun k hk' => ?_, fun k => by rw [(K k).1]; exact h.kinds k, fun k => ?_, fun k hk' => ?_, ?_, fun k => by rw [(K k).2.2.2.1]; exact h.body k, fun k hk' => by rw [(K k).2.2.2.1]; rw [(K k).1] at hk'; exact h.noBody k hk',
    fun k hk' => by rw [(K k).2.2.2.2.1]; rw [(K k).1] at hk'; exact h.noDir k hk', fun k hk' => by rw [(K k).2.2.2.2.2]; rw [(K k).1] at hk'; exact h.noTarget k hk', fun k => by rw [(K k).2.2.2.2.2]; exact h.target k, fun k => by rw [(K k).2.2.2.2.1]; exact h.sorted k,
    fun k e he => by rw [(K k).2.2.2.2.1] at he; exact h.good k e he, ?_, h.room, fun k h1 h2 => by rw [hN, (K k).2.1]; exact h.links k h1 h2, fun k => by rw [(K k).2.1]; exact h.twenty k, fun k h1 h2 => by rw [(K k).2.2.2.2.1]; rw [(K k).1] at h1; rw [(K k).2.1] at h2; exact h.gone k h1 h2,
    fun k e he hk' => ?_, fun k hk' => by rw [(K k).2.1]; rw [(K k).1] at hk'; exact h.single k hk'⟩
  · show upd S.ino i x k = _
    rw [upd_other _ _ (fun e => hi (by rw [← e]; exact hk'))]; exact h.out k hk'
  · show upd S.ino i x k = _
    have e : k ≠ i := fun e => by
      have h1 : (upd S.ino i x k).kind = 0 := hk'
      rw [e, upd_same] at h1; exact hn h1
    have h1 : (upd S.ino i x k).kind = 0 := hk'
    rw [upd_other _ _ e] at h1 ⊢; exact h.none k h1
  · rw [(K k).2.1]
    refine ⟨(h.nums k).1, ?_⟩
    show 0 ≤ (upd S.ino i x k).holds
    by_cases e : k = i
    · rw [e, upd_same]; exact h0
    · rw [upd_other _ _ e]; exact (h.nums k).2
  · by_cases e : k = i
    · show (upd S.ino i x k).links ≠ 0 ∨ (upd S.ino i x k).holds ≠ 0
      rw [e, upd_same]; exact hkp
    · have h1 : (upd S.ino i x k).kind ≠ 0 := hk'
      show (upd S.ino i x k).links ≠ 0 ∨ (upd S.ino i x k).holds ≠ 0
      rw [upd_other _ _ e] at h1 ⊢; exact h.kept k h1
  · rw [(K 1).1, (K 1).2.1, (K 1).2.2.1]; exact h.root
  · rw [h.used]
    exact sumF_congr fun k _ _ => by show _ = (upd S.ino i x k).body.n; rw [(K k).2.2.2.1]
  · have h1 : (S.at e.2).kind = 2 := by have := hk'; show (S.ino _).kind = 2; rw [← (K _).1]; exact this
    rw [(K k).2.2.2.2.1] at he
    show (upd S.ino i x e.2.toNat).parent = k
    rw [(K _).2.2.1]; exact h.up k e he h1
end Go.Proofs.YtnnaoldpacbagaaGreat.br
end
section
namespace Go.Proofs.YtnnaoldpacbagaaGreat.br
open Go.RowKit
open Go.Proofs.YtnnaoldpacbagaaGreat.dn (En lget lset ldel nerr dotB Sorted lget_some lget_none ldel_mem ldel_sorted)
open Go.Proofs.YtnnaoldpacbagaaGreat.bl (AB cut cutR cutB readR WR wr)
set_option linter.unusedVariables false

theorem Inv.num {S : BS} {room k : Nat} (h : Inv S room) (hk : (S.ino k).kind ≠ 0) : 1 ≤ k ∧ k ≤ 200 := by
  by_cases e : k = 0 ∨ 200 < k
  · exact absurd (by rw [h.out k e]; rfl) hk
  · omega
theorem Inv.linked {S : BS} {room k : Nat} (h : Inv S room) (hk : (S.ino k).links ≠ 0) : (S.ino k).kind ≠ 0 := fun e => hk (by rw [h.none k e]; rfl)
/-- What a name leads to: an inode with links, not the root. -/
theorem Inv.entry {S : BS} {room D : Nat} (h : Inv S room) {e : En} (he : e ∈ (S.ino D).dir) : (S.ino D).kind = 2 ∧ (1 ≤ D ∧ D ≤ 200) ∧ ∃ I : Nat, e.2 = (I : Int) ∧ 1 ≤ I ∧ I ≤ 200 ∧ I ≠ 1 ∧ 1 ≤ (S.ino I).links ∧ (S.ino I).kind ≠ 0 := by
  have hD : (S.ino D).kind = 2 := by
    by_cases e1 : (S.ino D).kind = 2
    · exact e1
    · rw [h.noDir D e1] at he; cases he
  have hDn := h.num (k := D) (by rw [hD]; decide)
  obtain ⟨_, _, g1, g2⟩ := h.good D e he
  refine ⟨hD, hDn, e.2.toNat, by omega, by omega, by omega, ?_⟩
  have hl := h.links e.2.toNat (by omega) (by omega)
  have hn : 0 < names e.2 (S.ino D).dir := names_mem.2 ⟨e, he, rfl⟩
  have hs : names e.2 (S.ino D).dir ≤ S.names e.2 200 := sumF_le (f := fun k => names e.2 (S.ino k).dir) hDn.1 hDn.2
  rw [show ((e.2.toNat : Nat) : Int) = e.2 by omega] at hl
  have hL : 1 ≤ (S.ino e.2.toNat).links := by split at hl <;> omega
  refine ⟨fun e1 => ?_, hL, h.linked (by omega)⟩
  rw [if_pos e1] at hl
  have := h.root.2.1
  rw [← e1] at this
  omega
theorem Inv.lead {S : BS} {room D : Nat} (h : Inv S room) {s : ByteArray} {v : Int} (hg : lget s (S.ino D).dir = some v) : (S.ino D).kind = 2 ∧ (1 ≤ D ∧ D ≤ 200) ∧ ∃ I : Nat, v = (I : Int) ∧ 1 ≤ I ∧ I ≤ 200 ∧ I ≠ 1 ∧ 1 ≤ (S.ino I).links ∧ (S.ino I).kind ≠ 0 :=
  h.entry ((lget_some (h.sorted D)).1 hg)
/-- A directory is not its own entry. -/
theorem Inv.own {S : BS} {room D : Nat} (h : Inv S room) (ht : Tree S) {s : ByteArray} (hg : lget s (S.ino D).dir = some (D : Int)) : False := by
  obtain ⟨hD, hDn, I, hI, _, _, h1, hl, _⟩ := h.lead hg
  obtain rfl : D = I := by omega
  have hu := h.up D _ ((lget_some (h.sorted D)).1 hg) (by show (S.ino ((D : Int)).toNat).kind = 2; rw [Int.toNat_natCast]; exact hD)
  have hu2 : (S.ino D).parent = (D : Int) := by
    have : (S.ino ((D : Int)).toNat).parent = (D : Int) := hu
    rwa [Int.toNat_natCast] at this
  obtain ⟨deep, hd⟩ := ht
  obtain ⟨p, hp, _, _, hlt⟩ := hd D hD (by omega) h1
  obtain rfl : p = D := by omega
  omega
/-- Behind a name's going: D's entries, and the inode I that is one link poorer or gone. -/
structure Drop (S S' : BS) (D I : Nat) (s : ByteArray) : Prop where
  oth : ∀ k, k ≠ D → k ≠ I → S'.ino k = S.ino k
  dir : S'.ino D = { S.ino D with dir := ldel s (S.ino D).dir }
  ino : (S'.ino I = Ino.nil ∧ (S.ino I).links = 1 ∧ (S.ino I).holds = 0 ∧ S'.used = S.used - (S.ino I).body.n) ∨
    (S'.ino I = { S.ino I with links := (S.ino I).links - 1 } ∧ ((S.ino I).links ≠ 1 ∨ (S.ino I).holds ≠ 0) ∧ S'.used = S.used)
theorem drop_drop {S : BS} {D I : Nat} (s : ByteArray) (hne : I ≠ D) : Drop S (S.drop D s I) D I s := by
  have e1 : (S.putDir (D : Int) (ldel s (S.at D).dir)).at (I : Int) = S.ino I := by
    show upd S.ino ((D : Int)).toNat _ ((I : Int)).toNat = _
    rw [Int.toNat_natCast, Int.toNat_natCast, upd_other _ _ hne]
  have e2 : ∀ k, (S.putDir (D : Int) (ldel s (S.at D).dir)).ino k = if k = D then { S.ino D with dir := ldel s (S.ino D).dir } else S.ino k := fun k => by
    show upd S.ino ((D : Int)).toNat _ k = _
    rw [Int.toNat_natCast]
    rfl
  unfold BS.drop BS.less
  simp only [e1]
  by_cases hz : (S.ino I).links - 1 = 0 ∧ (S.ino I).holds - 0 = 0
  · rw [if_pos hz]
    refine ⟨fun k h1 h2 => ?_, ?_, Or.inl ⟨?_, by omega, by omega, rfl⟩⟩
    · show upd _ ((I : Int)).toNat _ k = _
      rw [Int.toNat_natCast, upd_other _ _ h2, e2, if_neg h1]
    · show upd _ ((I : Int)).toNat _ D = _
      rw [Int.toNat_natCast, upd_other _ _ (fun e => hne e.symm), e2, if_pos rfl]
    · show upd _ ((I : Int)).toNat _ I = _
      rw [Int.toNat_natCast, upd_same]
  · rw [if_neg hz]
    refine ⟨fun k h1 h2 => ?_, ?_, Or.inr ⟨?_, by omega, rfl⟩⟩
    · show upd _ ((I : Int)).toNat _ k = _
      rw [Int.toNat_natCast, upd_other _ _ h2, e2, if_neg h1]
    · show upd _ ((I : Int)).toNat _ D = _
      rw [Int.toNat_natCast, upd_other _ _ (fun e => hne e.symm), e2, if_pos rfl]
    · show upd _ ((I : Int)).toNat _ I = _
      rw [Int.toNat_natCast, upd_same, Int.sub_zero]

section
variable {S S' : BS} {D I room : Nat} {s : ByteArray}
theorem Drop.dirs (d : Drop S S' D I s) (hne : I ≠ D) (hd : (S.ino I).dir = []) (k : Nat) : (S'.ino k).dir = if k = D then ldel s (S.ino D).dir else (S.ino k).dir := by
  by_cases e : k = D
  · subst e; rw [if_pos rfl, d.dir]
  · rw [if_neg e]
    by_cases e2 : k = I
    · subst e2
      rcases d.ino with ⟨h, _⟩ | ⟨h, _⟩
      · rw [h, hd]; rfl
      · rw [h]
    · rw [d.oth k e e2]
/-- What an inode is, if it is still there. -/
theorem Drop.keep (d : Drop S S' D I s) (k : Nat) (hk : (S'.ino k).kind ≠ 0) : (S'.ino k).kind = (S.ino k).kind ∧ (S'.ino k).parent = (S.ino k).parent ∧ (S'.ino k).body = (S.ino k).body ∧ (S'.ino k).target = (S.ino k).target ∧ (S'.ino k).holds = (S.ino k).holds ∧ (S'.ino k).marks = (S.ino k).marks := by
  by_cases e2 : k = I
  · subst e2
    rcases d.ino with ⟨h, _⟩ | ⟨h, _⟩
    · rw [h] at hk; exact absurd rfl hk
    · rw [h]; exact ⟨rfl, rfl, rfl, rfl, rfl, rfl⟩
  · by_cases e : k = D
    · subst e; rw [d.dir]; exact ⟨rfl, rfl, rfl, rfl, rfl, rfl⟩
    · rw [d.oth k e e2]; exact ⟨rfl, rfl, rfl, rfl, rfl, rfl⟩
theorem Drop.links (d : Drop S S' D I s) (hne : I ≠ D) (k : Nat) : (S'.ino k).links = (S.ino k).links - if k = I then 1 else 0 := by
  by_cases e2 : k = I
  · subst e2
    rw [if_pos rfl]
    rcases d.ino with ⟨h, h1, _⟩ | ⟨h, _⟩
    · rw [h, h1]; rfl
    · rw [h]
  · rw [if_neg e2, Int.sub_zero]
    by_cases e : k = D
    · subst e; rw [d.dir]
    · rw [d.oth k e e2]
theorem Drop.gone (d : Drop S S' D I s) (k : Nat) (hk : (S'.ino k).kind = 0) (hS : ∀ k, (S.ino k).kind = 0 → S.ino k = Ino.nil) (hD : (S.ino D).kind ≠ 0) (hI : (S.ino I).kind ≠ 0) : S'.ino k = Ino.nil := by
  by_cases e2 : k = I
  · subst e2
    rcases d.ino with ⟨h, _⟩ | ⟨h, _⟩
    · exact h
    · rw [h] at hk; exact absurd hk hI
  · by_cases e : k = D
    · subst e; rw [d.dir] at hk; exact absurd hk hD
    · rw [d.oth k e e2] at hk ⊢; exact hS k hk
theorem Drop.names (d : Drop S S' D I s) (h : Inv S room) (hne : I ≠ D) (hd : (S.ino I).dir = []) (hg : lget s (S.ino D).dir = some (I : Int)) (j : Int) : S'.names j 200 + (if (I : Int) = j then 1 else 0) = S.names j 200 := by
  obtain ⟨_, hDn, _⟩ := h.lead hg
  obtain ⟨y, hy⟩ : ∃ y : Ino, y.dir = ldel s (S.ino D).dir := ⟨{ S.ino D with dir := ldel s (S.ino D).dir }, rfl⟩
  have e1 : S'.names j 200 = (⟨upd S.ino D y, 0⟩ : BS).names j 200 := sumF_congr fun k _ _ => by
    show br.names j (S'.ino k).dir = br.names j (upd S.ino D y k).dir
    rw [d.dirs hne hd k]
    by_cases e : k = D
    · subst e; rw [if_pos rfl, upd_same, hy]
    · rw [if_neg e, upd_other _ _ e]
  have e2 := names_put S j D y 0 hDn.1 hDn.2
  have e3 := names_ldel (i := j) (h.sorted D) hg
  rw [hy] at e2
  rw [e1]
  omega
theorem Drop.chunks (d : Drop S S' D I s) (h : Inv S room) (hne : I ≠ D) (hI : 1 ≤ I ∧ I ≤ 200) : S'.used = S'.chunks 200 := by
  have e1 : S'.chunks 200 = (⟨upd S.ino I (S'.ino I), 0⟩ : BS).chunks 200 := sumF_congr fun k _ _ => by
    show (S'.ino k).body.n = (upd S.ino I _ k).body.n
    by_cases e : k = I
    · subst e; rw [upd_same]
    · rw [upd_other _ _ e]
      by_cases e2 : k = D
      · subst e2; rw [d.dir]
      · rw [d.oth k e2 e]
  have e2 := chunks_put S I (S'.ino I) 0 hI.1 hI.2
  have e3 := h.used
  rcases d.ino with ⟨h1, _, _, h4⟩ | ⟨h1, _, h4⟩
  · have e4 : (S'.ino I).body.n = 0 := by rw [h1]; exact abE_n
    rw [h4]; omega
  · have e4 : (S'.ino I).body = (S.ino I).body := by rw [h1]
    rw [e4] at e2
    rw [h4]; omega
/-- What holds of every branch holds behind a name's going. -/
theorem Drop.inv (d : Drop S S' D I s) (h : Inv S room) (hne : I ≠ D) (hd : (S.ino I).kind = 2 → (S.ino I).dir = []) (hg : lget s (S.ino D).dir = some (I : Int)) : Inv S' room := by
  obtain ⟨hDk, hDn, I', hI', i1, i2, i3, i4, i5⟩ := h.lead hg
  obtain rfl : I = I' := by omega
  have hd0 : (S.ino I).dir = [] := by
    by_cases e : (S.ino I).kind = 2
    · exact hd e
    · exact h.noDir I e
  have hDk0 : (S.ino D).kind ≠ 0 := by rw [hDk]; decide
  have G := fun k hk => d.gone k hk h.none hDk0 i5
  have K := d.keep
  have L := d.links hne
  have R := d.dirs hne hd0
  have N := d.names h hne hd0 hg
  have hI1 : (S.ino 1).kind ≠ 0 := by rw [h.root.1]; decide
  have K1 : (S'.ino 1).kind ≠ 0 := by
    by_cases e : (1 : Nat) = D
    · rw [e, d.dir]; exact hDk0
    · rw [d.oth 1 e (fun e => i3 e.symm)]; exact hI1
  have hz : ∀ k, (S'.ino k).kind = 0 ∨ (S'.ino k).kind ≠ 0 := fun k => Classical.em _
  refine ⟨fun k hk => ?_, G, fun k => ?_, fun k => ?_, fun k hk => ?_, ?_, fun k => ?_, fun k hk => ?_, fun k hk => ?_, fun k hk => ?_, fun k => ?_, fun k => ?_, fun k e he => ?_, d.chunks h hne ⟨i1, i2⟩, ?_, fun k h1 h2 => ?_, fun k => ?_, fun k hk h0 => ?_, fun k e he hk => ?_, fun k hk => ?_⟩
  · rw [d.oth k (by omega) (by omega)]; exact h.out k hk
  · rcases hz k with e | e
    · rw [G k e]; exact ⟨by decide, by decide⟩
    · rw [(K k e).1]; exact h.kinds k
  · rcases hz k with e | e
    · rw [G k e]; exact ⟨by decide, by decide⟩
    · rw [(K k e).2.2.2.2.1, L]
      have := h.nums k
      by_cases e2 : k = I
      · subst e2; rw [if_pos rfl]; exact ⟨by omega, this.2⟩
      · rw [if_neg e2]; exact ⟨by omega, this.2⟩
  · by_cases e2 : k = I
    · subst e2
      rcases d.ino with ⟨h1, _⟩ | ⟨h1, h2, _⟩
      · rw [h1] at hk; exact absurd rfl hk
      · rw [h1]
        show (S.ino k).links - 1 ≠ 0 ∨ (S.ino k).holds ≠ 0
        omega
    · have := h.kept k (by rw [← (K k hk).1]; exact hk)
      rw [L, if_neg e2, (K k hk).2.2.2.2.1, Int.sub_zero]; exact this
  · rw [(K 1 K1).1, (K 1 K1).2.1, L, if_neg (fun e => i3 e.symm), Int.sub_zero]; exact h.root
  · rcases hz k with e | e
    · rw [G k e]; exact abE_ok
    · rw [(K k e).2.2.1]; exact h.body k
  · rcases hz k with e | e
    · rw [G k e]; rfl
    · rw [(K k e).2.2.1]; rw [(K k e).1] at hk; exact h.noBody k hk
  · rcases hz k with e | e
    · rw [G k e]; rfl
    · rw [(K k e).1] at hk
      rw [R]
      by_cases e2 : k = D
      · subst e2; exact absurd hDk hk
      · rw [if_neg e2]; exact h.noDir k hk
  · rcases hz k with e | e
    · rw [G k e]; rfl
    · rw [(K k e).2.2.2.1]; rw [(K k e).1] at hk; exact h.noTarget k hk
  · rcases hz k with e | e
    · rw [G k e]; decide
    · rw [(K k e).2.2.2.1]; exact h.target k
  · rw [R]; split
    · exact ldel_sorted (h.sorted D)
    · exact h.sorted k
  · rw [R] at he
    split at he
    · exact h.good D e ((ldel_mem e).1 he).1
    · exact h.good k e he
  · rcases d.ino with ⟨_, _, _, h4⟩ | ⟨_, _, h4⟩
    · rw [h4]; exact Nat.le_trans (Nat.sub_le _ _) h.room
    · rw [h4]; exact h.room
  · have e1 := N (k : Int)
    have e2 := h.links k h1 h2
    rw [L, e2]
    by_cases e : k = I
    · subst e
      rw [if_pos rfl] at e1
      rw [if_pos rfl]
      omega
    · rw [if_neg (fun e3 => e (by omega))] at e1
      rw [if_neg e]
      omega
  · rw [L]; have := h.twenty k; split <;> omega
  · have hk0 : (S'.ino k).kind ≠ 0 := by rw [hk]; decide
    rw [(K k hk0).1] at hk
    rw [R]
    by_cases e2 : k = D
    · subst e2
      rw [L, if_neg (fun e => hne e.symm), Int.sub_zero] at h0
      rw [if_pos rfl, h.gone k hk h0]; rfl
    · rw [if_neg e2]
      by_cases e3 : k = I
      · rw [e3]; exact hd0
      · rw [L, if_neg e3, Int.sub_zero] at h0
        exact h.gone k hk h0
  · have hk0 : (S'.at e.2).kind ≠ 0 := by rw [hk]; decide
    have hk1 : (S.at e.2).kind = 2 := by show (S.ino e.2.toNat).kind = 2; rw [← (K e.2.toNat hk0).1]; exact hk
    show (S'.ino e.2.toNat).parent = _
    rw [(K _ hk0).2.1]
    rw [R] at he
    split at he
    · rename_i e1; subst e1; exact h.up k e ((ldel_mem e).1 he).1 hk1
    · exact h.up k e he hk1
  · have hk0 : (S'.ino k).kind ≠ 0 := by rw [hk]; decide
    rw [(K k hk0).1] at hk
    have := h.single k hk
    rw [L]; split <;> omega
/-- The directories still hang together. -/
theorem Drop.tree (d : Drop S S' D I s) (h : Inv S room) (ht : Tree S) (hne : I ≠ D) (hd : (S.ino I).kind = 2 → (S.ino I).dir = []) (hg : lget s (S.ino D).dir = some (I : Int)) : Tree S' := by
  obtain ⟨hDk, hDn, I', hI', i1, i2, i3, i4, i5⟩ := h.lead hg
  obtain rfl : I = I' := by omega
  obtain ⟨deep, hdp⟩ := ht
  refine ⟨deep, fun k hk hl h1 => ?_⟩
  have hk0 : (S'.ino k).kind ≠ 0 := by rw [hk]; decide
  have hkS : (S.ino k).kind = 2 := by rw [← (d.keep k hk0).1]; exact hk
  have hlS : (S.ino k).links ≠ 0 := by
    rw [d.links hne] at hl
    by_cases e : k = I
    · subst e; omega
    · rw [if_neg e, Int.sub_zero] at hl; exact hl
  obtain ⟨p, hp, hpk, hpl, hlt⟩ := hdp k hkS hlS h1
  have hpI : p ≠ I := fun e => by
    subst e
    have hkn := h.num (k := k) (by rw [hkS]; decide)
    have e1 := h.links k hkn.1 hkn.2
    rw [if_neg h1] at e1
    have hpos := (h.nums k).1
    have hN : 0 < S.names (k : Int) 200 := by omega
    obtain ⟨j, hj1, hj2, hj3⟩ := sumF_pos hN
    obtain ⟨e, he, hek⟩ := names_mem.1 hj3
    have hu := h.up j e he (by rw [hek]; show (S.ino ((k : Int)).toNat).kind = 2; rw [Int.toNat_natCast]; exact hkS)
    rw [hek] at hu
    have hu2 : (S.ino k).parent = (j : Int) := by
      have : (S.ino ((k : Int)).toNat).parent = (j : Int) := hu
      rwa [Int.toNat_natCast] at this
    obtain rfl : j = p := by omega
    rw [hd hpk] at he
    cases he
  refine ⟨p, ?_, ?_, ?_, hlt⟩
  · rw [(d.keep k hk0).2.1]; exact hp
  · by_cases e : p = D
    · subst e; rw [d.dir]; exact hpk
    · rw [d.oth p e hpI]; exact hpk
  · rw [d.links hne, if_neg hpI, Int.sub_zero]; exact hpl
end
end Go.Proofs.YtnnaoldpacbagaaGreat.br
end
section
namespace Go.Proofs.YtnnaoldpacbagaaGreat.br
open Go.RowKit
open Go.Proofs.YtnnaoldpacbagaaGreat.dn (En lget lset ldel nerr dotB Sorted lget_some lget_none ldel_mem ldel_sorted lset_mem lset_sorted)
open Go.Proofs.YtnnaoldpacbagaaGreat.bl (AB cut cutR cutB readR WR wr)
set_option linter.unusedVariables false

/-- The inode that a new name leads to, behind it. -/
structure Fits (x z : Ino) (D : Nat) : Prop where
  kind : 1 ≤ z.kind ∧ z.kind ≤ 4
  was : x.kind ≠ 2
  links : z.links = x.links + 1 ∧ z.links ≤ 20
  holds : 0 ≤ z.holds
  body : z.body = x.body
  dir : z.dir = [] ∧ x.dir = []
  noBody : z.kind ≠ 1 → z.body = abE
  noTarget : z.kind ≠ 3 → z.target = ⟨#[]⟩
  target : z.target.size ≤ 400
  isDir : z.kind = 2 → z.links = 1 ∧ z.parent = (D : Int)
structure Gain (S S' : BS) (D I : Nat) (s : ByteArray) : Prop where
  oth : ∀ k, k ≠ D → k ≠ I → S'.ino k = S.ino k
  dir : S'.ino D = { S.ino D with dir := lset s I (S.ino D).dir }
  fits : Fits (S.ino I) (S'.ino I) D
  used : S'.used = S.used
section
variable {S S' : BS} {D I room : Nat} {s : ByteArray}
theorem Gain.dirs (d : Gain S S' D I s) (hne : I ≠ D) (k : Nat) : (S'.ino k).dir = if k = D then lset s I (S.ino D).dir else (S.ino k).dir := by
  by_cases e : k = D
  · subst e; rw [if_pos rfl, d.dir]
  · rw [if_neg e]
    by_cases e2 : k = I
    · subst e2; rw [d.fits.dir.1, d.fits.dir.2]
    · rw [d.oth k e e2]
theorem Gain.keep (d : Gain S S' D I s) (k : Nat) (hk : k ≠ I) : (S'.ino k).kind = (S.ino k).kind ∧ (S'.ino k).parent = (S.ino k).parent ∧ (S'.ino k).body = (S.ino k).body ∧ (S'.ino k).target = (S.ino k).target ∧ (S'.ino k).holds = (S.ino k).holds ∧ (S'.ino k).links = (S.ino k).links := by
  by_cases e : k = D
  · subst e; rw [d.dir]; exact ⟨rfl, rfl, rfl, rfl, rfl, rfl⟩
  · rw [d.oth k e hk]; exact ⟨rfl, rfl, rfl, rfl, rfl, rfl⟩
theorem Gain.names (d : Gain S S' D I s) (hDn : 1 ≤ D ∧ D ≤ 200) (hne : I ≠ D) (hg : lget s (S.ino D).dir = none) (j : Int) : S'.names j 200 = S.names j 200 + if (I : Int) = j then 1 else 0 := by
  obtain ⟨y, hy⟩ : ∃ y : Ino, y.dir = lset s I (S.ino D).dir := ⟨{ S.ino D with dir := lset s I (S.ino D).dir }, rfl⟩
  have e1 : S'.names j 200 = (⟨upd S.ino D y, 0⟩ : BS).names j 200 := sumF_congr fun k _ _ => by
    show br.names j (S'.ino k).dir = br.names j (upd S.ino D y k).dir
    rw [d.dirs hne k]
    by_cases e : k = D
    · subst e; rw [if_pos rfl, upd_same, hy]
    · rw [if_neg e, upd_other _ _ e]
  have e2 := names_put S j D y 0 hDn.1 hDn.2
  have e3 := names_lset (i := j) (v := (I : Int)) hg
  rw [hy] at e2
  rw [e1]
  omega
theorem Gain.chunks (d : Gain S S' D I s) (h : Inv S room) : S'.used = S'.chunks 200 := by
  rw [d.used, h.used]
  exact sumF_congr fun k _ _ => by
    show (S.ino k).body.n = (S'.ino k).body.n
    by_cases e : k = I
    · subst e; rw [d.fits.body]
    · rw [(d.keep k e).2.2.1]
/-- What holds of every branch holds behind a name's coming. -/
theorem Gain.inv (d : Gain S S' D I s) (h : Inv S room) (hI : 1 ≤ I ∧ I ≤ 200) (hDk : (S.ino D).kind = 2) (hDl : (S.ino D).links ≠ 0) (hg : lget s (S.ino D).dir = none) (hs : nerr s.data.toList = 0 ∧ dotB s = false) : Inv S' room := by
  have hne : I ≠ D := fun e => d.fits.was (by rw [e]; exact hDk)
  have hDn := h.num (k := D) (by rw [hDk]; decide)
  have hI1 : I ≠ 1 := fun e => d.fits.was (by rw [e]; exact h.root.1)
  have K := d.keep
  have R := d.dirs hne
  have N := d.names hDn hne hg
  have F := d.fits
  have hIl := h.links I hI.1 hI.2
  rw [if_neg hI1] at hIl
  have hIn := (h.nums I).1
  have hem : ∀ e ∈ lset s (I : Int) (S.ino D).dir, e = (s, (I : Int)) ∨ e ∈ (S.ino D).dir := fun e he => by
    rcases (lset_mem (h.sorted D) e).1 he with h1 | h1
    · exact .inl h1
    · exact .inr h1.1
  refine ⟨fun k hk => ?_, fun k hk => ?_, fun k => ?_, fun k => ?_, fun k hk => ?_, ?_, fun k => ?_, fun k hk => ?_, fun k hk => ?_, fun k hk => ?_, fun k => ?_, fun k => ?_, fun k e he => ?_, d.chunks h, by rw [d.used]; exact h.room, fun k h1 h2 => ?_, fun k => ?_, fun k hk h0 => ?_, fun k e he hk => ?_, fun k hk => ?_⟩
  · rw [d.oth k (by omega) (by omega)]; exact h.out k hk
  · by_cases e : k = I
    · subst e; have := F.kind; omega
    · rw [(K k e).1] at hk
      by_cases e2 : k = D
      · subst e2; rw [hDk] at hk; cases hk
      · rw [d.oth k e2 e]; exact h.none k hk
  · by_cases e : k = I
    · subst e; have := F.kind; omega
    · rw [(K k e).1]; exact h.kinds k
  · by_cases e : k = I
    · subst e; exact ⟨by rw [F.links.1]; omega, F.holds⟩
    · rw [(K k e).2.2.2.2.1, (K k e).2.2.2.2.2]; exact h.nums k
  · by_cases e : k = I
    · subst e; left; rw [F.links.1]; omega
    · rw [(K k e).2.2.2.2.1, (K k e).2.2.2.2.2]; rw [(K k e).1] at hk; exact h.kept k hk
  · have e : (1 : Nat) ≠ I := fun e => hI1 e.symm
    rw [(K 1 e).1, (K 1 e).2.1, (K 1 e).2.2.2.2.2]; exact h.root
  · by_cases e : k = I
    · subst e; rw [F.body]; exact h.body k
    · rw [(K k e).2.2.1]; exact h.body k
  · by_cases e : k = I
    · subst e; exact F.noBody hk
    · rw [(K k e).2.2.1]; rw [(K k e).1] at hk; exact h.noBody k hk
  · by_cases e : k = I
    · subst e; exact F.dir.1
    · rw [(K k e).1] at hk
      rw [R]
      by_cases e2 : k = D
      · subst e2; exact absurd hDk hk
      · rw [if_neg e2]; exact h.noDir k hk
  · by_cases e : k = I
    · subst e; exact F.noTarget hk
    · rw [(K k e).2.2.2.1]; rw [(K k e).1] at hk; exact h.noTarget k hk
  · by_cases e : k = I
    · subst e; exact F.target
    · rw [(K k e).2.2.2.1]; exact h.target k
  · rw [R]; split
    · exact lset_sorted (h.sorted D)
    · exact h.sorted k
  · rw [R] at he
    split at he
    · rcases hem e he with rfl | h1
      · exact ⟨hs.1, hs.2, by show (1 : Int) ≤ (I : Int); omega, by show (I : Int) ≤ 200; omega⟩
      · exact h.good D e h1
    · exact h.good k e he
  · have e2 := h.links k h1 h2
    rw [N]
    by_cases e : k = I
    · subst e
      rw [F.links.1, e2, if_pos rfl]
      omega
    · rw [(K k e).2.2.2.2.2, e2, if_neg (fun e3 : (I : Int) = (k : Int) => e (by omega))]
      omega
  · by_cases e : k = I
    · subst e; exact F.links.2
    · rw [(K k e).2.2.2.2.2]; exact h.twenty k
  · by_cases e : k = I
    · subst e; exact F.dir.1
    · rw [(K k e).1] at hk
      rw [(K k e).2.2.2.2.2] at h0
      rw [R]
      by_cases e2 : k = D
      · subst e2; exact absurd h0 hDl
      · rw [if_neg e2]; exact h.gone k hk h0
  · show (S'.ino e.2.toNat).parent = _
    have hk2 : (S'.ino e.2.toNat).kind = 2 := hk
    by_cases e2 : e.2.toNat = I
    · rw [e2] at hk2 ⊢
      have hz := F.isDir hk2
      have hl0 : (S.ino I).links = 0 := by have := F.links.1; omega
      have hN0 : S.names (I : Int) 200 = 0 := by omega
      have hkD : k = D := by
        by_cases e3 : k = D
        · exact e3
        · rw [R, if_neg e3] at he
          obtain ⟨_, hkn, _⟩ := h.entry he
          have h5 := (h.good k e he).2.2.1
          have h3 : 0 < br.names (I : Int) (S.ino k).dir := names_mem.2 ⟨e, he, by omega⟩
          have h4 : br.names (I : Int) (S.ino k).dir ≤ S.names (I : Int) 200 := sumF_le (f := fun k => br.names (I : Int) (S.ino k).dir) hkn.1 hkn.2
          omega
      rw [hkD]; exact hz.2
    · rw [(K _ e2).2.1]
      rw [(K _ e2).1] at hk2
      rw [R] at he
      split at he
      · rename_i e1; subst e1
        rcases hem e he with rfl | h1
        · exact absurd (Int.toNat_natCast I) e2
        · exact h.up k e h1 hk2
      · exact h.up k e he hk2
  · by_cases e : k = I
    · subst e; rw [(F.isDir hk).1]; decide
    · rw [(K k e).2.2.2.2.2]; rw [(K k e).1] at hk; exact h.single k hk
theorem Gain.tree (d : Gain S S' D I s) (h : Inv S room) (ht : Tree S) (hDk : (S.ino D).kind = 2) (hDl : (S.ino D).links ≠ 0) : Tree S' := by
  have hne : I ≠ D := fun e => d.fits.was (by rw [e]; exact hDk)
  have K := d.keep
  obtain ⟨deep, hdp⟩ := ht
  refine ⟨fun k => if k = I then deep D + 1 else deep k, fun k hk hl h1 => ?_⟩
  by_cases e : k = I
  · subst e
    refine ⟨D, (d.fits.isDir hk).2, by rw [(K D (fun e => hne e.symm)).1]; exact hDk, by rw [(K D (fun e => hne e.symm)).2.2.2.2.2]; exact hDl, ?_⟩
    dsimp only
    rw [if_pos rfl, if_neg (fun e => hne e.symm)]; omega
  · rw [(K k e).1] at hk
    rw [(K k e).2.2.2.2.2] at hl
    obtain ⟨p, hp, hpk, hpl, hlt⟩ := hdp k hk hl h1
    have hpI : p ≠ I := fun e => d.fits.was (by rw [← e]; exact hpk)
    exact ⟨p, by rw [(K k e).2.1]; exact hp, by rw [(K p hpI).1]; exact hpk, by rw [(K p hpI).2.2.2.2.2]; exact hpl, by dsimp only; rw [if_neg hpI, if_neg e]; exact hlt⟩
end
end Go.Proofs.YtnnaoldpacbagaaGreat.br
end
section
namespace Go.Proofs.YtnnaoldpacbagaaGreat.br
open Go.RowKit
open Go.Proofs.YtnnaoldpacbagaaGreat.dn (En lget lset ldel nerr dotB Sorted lget_some lget_none ldel_mem ldel_sorted lset_mem lset_sorted)
open Go.Proofs.YtnnaoldpacbagaaGreat.bl (AB cut cutR cutB readR WR wr)
set_option linter.unusedVariables false

theorem Tree.of {S S' : BS} (h : Tree S) (h1 : ∀ k, (S'.ino k).kind = 2 → (S'.ino k).links ≠ 0 → (S.ino k).kind = 2 ∧ (S.ino k).links ≠ 0 ∧ (S'.ino k).parent = (S.ino k).parent)
    (h2 : ∀ k, (S.ino k).kind = 2 → (S.ino k).links ≠ 0 → (S'.ino k).kind = 2 ∧ (S'.ino k).links ≠ 0) : Tree S' := by
  obtain ⟨deep, hd⟩ := h
  refine ⟨deep, fun k hk hl hn => ?_⟩
  obtain ⟨a, b, c⟩ := h1 k hk hl
  obtain ⟨p, hp, x, y, z⟩ := hd k a b hn
  obtain ⟨x', y'⟩ := h2 p x y
  exact ⟨p, c.trans hp, x', y', z⟩
/-- An inode as before but for its bytes. -/
structure Turned (S S' : BS) (I : Nat) (b : AB) : Prop where
  oth : ∀ k, k ≠ I → S'.ino k = S.ino k
  ino : S'.ino I = { S.ino I with body := b }
  used : S'.used = S.used + b.n - (S.ino I).body.n
theorem Turned.keep {S S' : BS} {I : Nat} {b : AB} (d : Turned S S' I b) (k : Nat) : (S'.ino k).kind = (S.ino k).kind ∧ (S'.ino k).links = (S.ino k).links ∧ (S'.ino k).parent = (S.ino k).parent ∧ (S'.ino k).dir = (S.ino k).dir ∧ (S'.ino k).target = (S.ino k).target ∧ (S'.ino k).holds = (S.ino k).holds := by
  by_cases e : k = I
  · subst e; rw [d.ino]; exact ⟨rfl, rfl, rfl, rfl, rfl, rfl⟩
  · rw [d.oth k e]; exact ⟨rfl, rfl, rfl, rfl, rfl, rfl⟩
theorem Turned.inv {S S' : BS} {I room : Nat} {b : AB} (d : Turned S S' I b) (h : Inv S room) (hk : (S.ino I).kind = 1) (hb : b.Ok) (hr : S'.used ≤ room) : Inv S' room := by
  have K := d.keep
  have hIn := h.num (k := I) (by rw [hk]; decide)
  have hN : ∀ j, S'.names j 200 = S.names j 200 := fun j => sumF_congr fun k _ _ => by show br.names j (S'.ino k).dir = br.names j (S.ino k).dir; rw [(K k).2.2.2.1]
  have hB : ∀ k, k ≠ I → (S'.ino k).body = (S.ino k).body := fun k e => by rw [d.oth k e]
  have hBI : (S'.ino I).body = b := by rw [d.ino]
  refine ⟨fun k hk' => ?_, fun k hk' => ?_, fun k => by rw [(K k).1]; exact h.kinds k, fun k => by rw [(K k).2.1, (K k).2.2.2.2.2]; exact h.nums k, fun k hk' => by rw [(K k).2.1, (K k).2.2.2.2.2]; rw [(K k).1] at hk'; exact h.kept k hk', ?_, fun k => ?_, fun k hk' => ?_,
    fun k hk' => by rw [(K k).2.2.2.1]; rw [(K k).1] at hk'; exact h.noDir k hk', fun k hk' => by rw [(K k).2.2.2.2.1]; rw [(K k).1] at hk'; exact h.noTarget k hk', fun k => by rw [(K k).2.2.2.2.1]; exact h.target k, fun k => by rw [(K k).2.2.2.1]; exact h.sorted k,
    fun k e he => by rw [(K k).2.2.2.1] at he; exact h.good k e he, ?_, hr, fun k h1 h2 => by rw [hN, (K k).2.1]; exact h.links k h1 h2, fun k => by rw [(K k).2.1]; exact h.twenty k, fun k h1 h2 => by rw [(K k).2.2.2.1]; rw [(K k).1] at h1; rw [(K k).2.1] at h2; exact h.gone k h1 h2,
    fun k e he hk' => ?_, fun k hk' => by rw [(K k).2.1]; rw [(K k).1] at hk'; exact h.single k hk'⟩
  · rw [d.oth k (by omega)]; exact h.out k hk'
  · rw [(K k).1] at hk'
    rw [d.oth k (fun e => by rw [e, hk] at hk'; cases hk')]; exact h.none k hk'
  · rw [(K 1).1, (K 1).2.1, (K 1).2.2.1]; exact h.root
  · by_cases e : k = I
    · rw [e, hBI]; exact hb
    · rw [hB k e]; exact h.body k
  · rw [(K k).1] at hk'
    by_cases e : k = I
    · rw [e] at hk'; exact absurd hk hk'
    · rw [hB k e]; exact h.noBody k hk'
  · have e1 : S'.chunks 200 = (⟨upd S.ino I (S'.ino I), 0⟩ : BS).chunks 200 := sumF_congr fun k _ _ => by
      show (S'.ino k).body.n = (upd S.ino I _ k).body.n
      by_cases e : k = I
      · subst e; rw [upd_same]
      · rw [upd_other _ _ e, hB k e]
    have e2 := chunks_put S I (S'.ino I) 0 hIn.1 hIn.2
    rw [hBI] at e2
    have := h.used
    rw [d.used]; omega
  · have h1 : (S'.ino e.2.toNat).kind = 2 := hk'
    rw [(K _).1] at h1
    rw [(K k).2.2.2.1] at he
    show (S'.ino e.2.toNat).parent = k
    rw [(K _).2.2.1]; exact h.up k e he h1
theorem Turned.tree {S S' : BS} {I : Nat} {b : AB} (d : Turned S S' I b) (h : Tree S) : Tree S' :=
  h.of (fun k hk hl => ⟨by rw [← (d.keep k).1]; exact hk, by rw [← (d.keep k).2.1]; exact hl, (d.keep k).2.2.1⟩) fun k hk hl => ⟨by rw [(d.keep k).1]; exact hk, by rw [(d.keep k).2.1]; exact hl⟩
/-- An inode without names goes. -/
structure Lost (S S' : BS) (I : Nat) : Prop where
  oth : ∀ k, k ≠ I → S'.ino k = S.ino k
  ino : S'.ino I = Ino.nil
  used : S'.used = S.used - (S.ino I).body.n
theorem Lost.inv {S S' : BS} {I room : Nat} (d : Lost S S' I) (h : Inv S room) (hk : (S.ino I).kind ≠ 0) (hl : (S.ino I).links = 0) : Inv S' room := by
  have hIn := h.num hk
  have hI1 : I ≠ 1 := fun e => by rw [e, h.root.2.1] at hl; cases hl
  have hD : (S.ino I).dir = [] := by
    by_cases e : (S.ino I).kind = 2
    · exact h.gone I e hl
    · exact h.noDir I e
  have hdir : ∀ k, (S'.ino k).dir = (S.ino k).dir := fun k => by
    by_cases e : k = I
    · subst e; rw [d.ino, hD]; rfl
    · rw [d.oth k e]
  have hN : ∀ j, S'.names j 200 = S.names j 200 := fun j => sumF_congr fun k _ _ => by show br.names j (S'.ino k).dir = br.names j (S.ino k).dir; rw [hdir]
  refine ⟨fun k hk' => ?_, fun k hk' => ?_, fun k => ?_, fun k => ?_, fun k hk' => ?_, ?_, fun k => ?_, fun k hk' => ?_, fun k hk' => ?_, fun k hk' => ?_, fun k => ?_, fun k => by rw [hdir]; exact h.sorted k, fun k e he => by rw [hdir] at he; exact h.good k e he, ?_, ?_, fun k h1 h2 => ?_, fun k => ?_, fun k h1 h2 => ?_, fun k e he hk' => ?_, fun k hk' => ?_⟩
  · rw [d.oth k (by omega)]; exact h.out k hk'
  · by_cases e : k = I
    · subst e; exact d.ino
    · rw [d.oth k e] at hk' ⊢; exact h.none k hk'
  · by_cases e : k = I
    · subst e; rw [d.ino]; exact ⟨by decide, by decide⟩
    · rw [d.oth k e]; exact h.kinds k
  · by_cases e : k = I
    · subst e; rw [d.ino]; exact ⟨by decide, by decide⟩
    · rw [d.oth k e]; exact h.nums k
  · by_cases e : k = I
    · subst e; rw [d.ino] at hk'; exact absurd rfl hk'
    · rw [d.oth k e] at hk' ⊢; exact h.kept k hk'
  · rw [d.oth 1 (fun e => hI1 e.symm)]; exact h.root
  · by_cases e : k = I
    · subst e; rw [d.ino]; exact abE_ok
    · rw [d.oth k e]; exact h.body k
  · by_cases e : k = I
    · subst e; rw [d.ino]; rfl
    · rw [d.oth k e] at hk' ⊢; exact h.noBody k hk'
  · rw [hdir]
    by_cases e : k = I
    · rw [e]; exact hD
    · rw [d.oth k e] at hk'; exact h.noDir k hk'
  · by_cases e : k = I
    · subst e; rw [d.ino]; rfl
    · rw [d.oth k e] at hk' ⊢; exact h.noTarget k hk'
  · by_cases e : k = I
    · subst e; rw [d.ino]; decide
    · rw [d.oth k e]; exact h.target k
  · have e1 : S'.chunks 200 = (⟨upd S.ino I (S'.ino I), 0⟩ : BS).chunks 200 := sumF_congr fun k _ _ => by
      show (S'.ino k).body.n = (upd S.ino I _ k).body.n
      by_cases e : k = I
      · subst e; rw [upd_same]
      · rw [upd_other _ _ e, d.oth k e]
    have e2 := chunks_put S I (S'.ino I) 0 hIn.1 hIn.2
    have e4 : (S'.ino I).body.n = 0 := by rw [d.ino]; exact abE_n
    have := h.used
    rw [d.used]; omega
  · rw [d.used]; exact Nat.le_trans (Nat.sub_le _ _) h.room
  · rw [hN]
    have := h.links k h1 h2
    by_cases e : k = I
    · rw [e, d.ino, ← e, ← this, e, hl]; rfl
    · rw [d.oth k e]; exact this
  · by_cases e : k = I
    · subst e; rw [d.ino]; decide
    · rw [d.oth k e]; exact h.twenty k
  · rw [hdir]
    by_cases e : k = I
    · rw [e]; exact hD
    · rw [d.oth k e] at h1 h2; exact h.gone k h1 h2
  · have h1 : (S'.ino e.2.toNat).kind = 2 := hk'
    have e1 : e.2.toNat ≠ I := fun e1 => by rw [e1, d.ino] at h1; cases h1
    rw [d.oth _ e1] at h1
    rw [hdir] at he
    show (S'.ino e.2.toNat).parent = k
    rw [d.oth _ e1]; exact h.up k e he h1
  · by_cases e : k = I
    · subst e; rw [d.ino]; decide
    · rw [d.oth k e] at hk' ⊢; exact h.single k hk'
theorem Lost.tree {S S' : BS} {I : Nat} (d : Lost S S' I) (h : Tree S) (hl : (S.ino I).links = 0) : Tree S' := by
  refine h.of (fun k hk hl' => ?_) fun k hk hl' => ?_
  · have e : k ≠ I := fun e => by rw [e, d.ino] at hk; cases hk
    rw [d.oth k e] at hk hl' ⊢; exact ⟨hk, hl', rfl⟩
  · rw [d.oth k (fun e => hl' (by rw [e]; exact hl))]; exact ⟨hk, hl'⟩
theorem sumF_mono {f g : Nat → Nat} {n : Nat} (h : ∀ k, 1 ≤ k → k ≤ n → f k ≤ g k) : sumF f n ≤ sumF g n := by
  induction n with
  | zero => exact Nat.le_refl _
  | succ n ih => simp only [sumF]; exact Nat.add_le_add (ih fun k h1 h2 => h k h1 (by omega)) (h (n + 1) (by omega) (Nat.le_refl _))
theorem sumF_lt {f g : Nat → Nat} {n j : Nat} (h : ∀ k, 1 ≤ k → k ≤ n → f k ≤ g k) (h1 : 1 ≤ j) (h2 : j ≤ n) (hj : f j < g j) : sumF f n < sumF g n := by
  induction n with
  | zero => omega
  | succ n ih =>
    simp only [sumF]
    by_cases e : j = n + 1
    · subst e
      have := sumF_mono (f := f) (g := g) (n := n) fun k h1 h2 => h k h1 (by omega)
      omega
    · have := ih (fun k h1 h2 => h k h1 (by omega)) (by omega)
      have := h (n + 1) (by omega) (Nat.le_refl _)
      omega
theorem sumF_one {f : Nat → Nat} {n : Nat} (h : ∀ k, f k ≤ 1) : sumF f n ≤ n := by
  induction n with
  | zero => exact Nat.le_refl _
  | succ n ih => simp only [sumF]; have := h (n + 1); omega
/-- Depths can be told by numbers up to 200. -/
theorem Tree.bound {S : BS} {room : Nat} (h : Inv S room) (ht : Tree S) : ∃ deep : Nat → Nat, (∀ k, deep k ≤ 200) ∧ ∀ k, (S.ino k).kind = 2 → (S.ino k).links ≠ 0 → k ≠ 1 →
    ∃ p : Nat, (S.ino k).parent = (p : Int) ∧ (S.ino p).kind = 2 ∧ (S.ino p).links ≠ 0 ∧ deep p < deep k := by
  obtain ⟨deep, hd⟩ := ht
  refine ⟨fun k => sumF (fun j => if deep j < deep k then 1 else 0) 200, fun k => sumF_one fun j => by split <;> omega, fun k hk hl h1 => ?_⟩
  obtain ⟨p, hp, a, b, c⟩ := hd k hk hl h1
  have hpn := h.num (k := p) (by rw [a]; decide)
  refine ⟨p, hp, a, b, sumF_lt (j := p) (fun j _ _ => ?_) hpn.1 hpn.2 ?_⟩
  · by_cases e : deep j < deep p
    · rw [if_pos e, if_pos (by omega)]; exact Nat.le_refl _
    · rw [if_neg e]; exact Nat.zero_le _
  · rw [if_neg (Nat.lt_irrefl _), if_pos c]; exact Nat.zero_lt_one
end Go.Proofs.YtnnaoldpacbagaaGreat.br
end
