/- Part 32 of what is known of the program's functions and of the document's words: contracts, and the mathematics beneath them. -/
import Derived.Test.YtpmpbmjjlccbbaaGreatProg
import Derived.Test.YtpmpbmjjlccbbaaGreatZ17
import Derived.Test.YtpmpbmjjlccbbaaGreatZ25
import Derived.Test.YtpmpbmjjlccbbaaGreatZ28
import Derived.Test.YtpmpbmjjlccbbaaGreatZ31
import Derived.Test.YtpmpbmjjlccbbaaGreatZ20
set_option linter.unusedVariables false
set_option linter.unusedSimpArgs false
set_option maxRecDepth 100000
set_option maxHeartbeats 8000000
namespace Go.Proofs.YtpmpbmjjlccbbaaGreat.tr
open br (BS Inv)
open wk (walkT pe pn pd e0 r0 dot1 dot2)
open cb (trS readI)
open ds (De Tb dz lowV openT getV errV setT closeT full allT)
structure Cal where
 op : Int
 fd : Int
 flag : Int
 n : Int
 off : Int
 a : ByteArray
 b : ByteArray
structure Res where
 e : Int
 n : Int
 s : ByteArray
 t : Int × Nat × Int
def wrong (e : Int) : Res := ⟨e, 0, e0, (0, 0, 0)⟩
structure Sy where
 S : BS
 T : Tb
def lead (S : BS) (t : ByteArray) (fol : Bool) : wk.Rs := if pe t ≠ 0 then (r0, pe t) else walkT (trS S) fol 40 1 (pn t) (pd t)
def upR (S : BS) (t : ByteArray) : wk.Rs := walkT (trS S) true 40 1 (pn t).dropLast true
def placeN (t : ByteArray) : ByteArray := (pn t).getLast?.getD e0
def placeE (S : BS) (t : ByteArray) (busy : Int) : Int :=
 if pe t ≠ 0 then pe t
 else if pn t = [] ∨ placeN t = dot1 ∨ placeN t = dot2 then busy
 else if (upR S t).2 ≠ 0 then (upR S t).2
 else if S.kindOf (upR S t).1.2.2 ≠ 2 then 20 else 0
def placeD (S : BS) (t : ByteArray) : Int := (upR S t).1.2.2
def fileD (T : Tb) (fd : Int) (k : Option Nat) : De × Int :=
 if (getV T fd).2 ≠ 0 ∨ (getV T fd).1.isd = true ∨ (∃ j, k = some j ∧ bit (getV T fd).1.flag j = false) then (dz, 9) else ((getV T fd).1, 0)
def namesOf (S : BS) (i : Int) : List (List UInt8) := (S.all i).1.map fun e => e.1.data.toList
def opened (y : Sy) (d : De) : Res × Sy := (⟨0, (lowV y.T).1, e0, (0, 0, 0)⟩, ⟨(y.S.hold d.ino).2, openT y.T d⟩)
def openIno (y : Sy) (i flag : Int) : Res × Sy :=
 if y.S.kindOf i = 2 then (wrong 21, y) else if y.S.kindOf i = 3 then (wrong 40, y)
 else opened ⟨if bit flag 4 = true then (y.S.cutI i 0).2 else y.S, y.T⟩ ⟨i, flag, 0, false, [], 0⟩
def doOpen (y : Sy) (c : Cal) : Res × Sy :=
 if bit c.flag 1 = false ∧ (bit c.flag 0 = false ∨ bit c.flag 4 = true ∨ bit c.flag 5 = true) then (wrong 22, y)
 else if full y.T = true then (wrong 24, y)
 else
  let alone := bit c.flag 2 && bit c.flag 3
  let r := lead y.S c.a (!alone)
  if r.2 = 2 ∧ r.1.2.1 ≠ e0 ∧ bit c.flag 2 = true then
   if pd c.a = true then (wrong 21, y)
   else
    let m := y.S.make r.1.1 r.1.2.1 1 e0
    if m.1.2 ≠ 0 then (wrong m.1.2, y) else openIno ⟨m.2, y.T⟩ m.1.1 c.flag
  else if r.2 ≠ 0 then (wrong r.2, y)
  else if alone = true then (wrong 17, y)
  else openIno y r.1.2.2 c.flag
def doClose (y : Sy) (c : Cal) : Res × Sy :=
 if (getV y.T c.fd).2 ≠ 0 then (wrong (getV y.T c.fd).2, y) else (wrong 0, ⟨(y.S.release (getV y.T c.fd).1.ino).2, closeT y.T c.fd⟩)
def doRead (y : Sy) (c : Cal) (p : Bool) : Res × Sy :=
 let d := fileD y.T c.fd (some 0)
 let at_ := if p = true then c.off else d.1.off
 let n : Int := if c.n < 65536 then c.n else 65536
 let q := readI y.S d.1.ino at_ n
 if d.2 ≠ 0 then (wrong d.2, y) else if c.n < 0 ∨ at_ < 0 then (wrong 22, y)
 else if q.1 ≠ 0 then (wrong q.1, y)
 else (⟨0, (q.2 : Int), ⟨(List.ofFn (n := q.2) fun j => (y.S.at d.1.ino).body.dat (at_.toNat + j)).toArray⟩, (0, 0, 0)⟩,
  if p = true then y else ⟨y.S, setT y.T c.fd { d.1 with off := at_ + (q.2 : Int) }⟩)
def writeAt (y : Sy) (c : Cal) (p : Bool) (d : De) : Int := if p = true then c.off else if bit d.flag 5 = true then ((y.S.stat d.ino).1.2.1 : Int) else d.off
def DoWrite (room : Nat) (y : Sy) (c : Cal) (p : Bool) (r : Res) (y' : Sy) : Prop :=
 let d := fileD y.T c.fd (some 1)
 if d.2 ≠ 0 then r = wrong d.2 ∧ y' = y
 else ∃ (q : Nat) (e : Int) (S' : BS), cb.WrI y.S room d.1.ino (writeAt y c p d.1) c.a.size (fun j => c.a.data[j]?.getD 0) q e S' ∧
  (e ≠ 0 → r = wrong e ∧ y' = y) ∧
  (e = 0 → r = ⟨0, (q : Int), e0, (0, 0, 0)⟩ ∧ y' = ⟨S', if p = true then y.T else setT y.T c.fd { d.1 with off := writeAt y c p d.1 + (q : Int) }⟩)
def doSeek (y : Sy) (c : Cal) : Res × Sy :=
 let d := fileD y.T c.fd none
 let base : Int := if c.flag = 1 then d.1.off else if c.flag = 2 then ((y.S.stat d.1.ino).1.2.1 : Int) else 0
 if d.2 ≠ 0 then (wrong d.2, y)
 else if c.flag < 0 ∨ 2 < c.flag ∨ 1099511627776 - base < c.off ∨ c.off < 0 - base then (wrong 22, y)
 else (⟨0, base + c.off, e0, (0, 0, 0)⟩, ⟨y.S, setT y.T c.fd { d.1 with off := base + c.off }⟩)
def doCut (y : Sy) (c : Cal) : Res × Sy :=
 let r := lead y.S c.a true
 if r.2 ≠ 0 then (wrong r.2, y) else (wrong (y.S.cutI r.1.2.2 c.off).1, ⟨(y.S.cutI r.1.2.2 c.off).2, y.T⟩)
def doStat (y : Sy) (c : Cal) (fol : Bool) : Res :=
 let r := lead y.S c.a fol
 if r.2 ≠ 0 then wrong r.2 else ⟨0, 0, e0, (y.S.stat r.1.2.2).1⟩
def doReadlink (y : Sy) (c : Cal) : Res :=
 let r := lead y.S c.a false
 if r.2 ≠ 0 then wrong r.2 else ⟨(y.S.targetOf r.1.2.2).2, ((y.S.targetOf r.1.2.2).1.size : Int), (y.S.targetOf r.1.2.2).1, (0, 0, 0)⟩
def doMkdir (y : Sy) (c : Cal) : Res × Sy :=
 if placeE y.S c.a 17 ≠ 0 then (wrong (placeE y.S c.a 17), y)
 else let m := y.S.make (placeD y.S c.a) (placeN c.a) 2 e0; (wrong m.1.2, ⟨m.2, y.T⟩)
def doSymlink (y : Sy) (c : Cal) : Res × Sy :=
 if c.a.size = 0 then (wrong 2, y) else if 400 < c.a.size then (wrong 36, y)
 else if (0 : UInt8) ∈ c.a.data.toList then (wrong 22, y)
 else if placeE y.S c.b 17 ≠ 0 then (wrong (placeE y.S c.b 17), y)
 else if pd c.b = true then (wrong 2, y)
 else let m := y.S.make (placeD y.S c.b) (placeN c.b) 3 c.a; (wrong m.1.2, ⟨m.2, y.T⟩)
def doRmdir (y : Sy) (c : Cal) : Res × Sy :=
 if placeE y.S c.a 16 ≠ 0 then (wrong (placeE y.S c.a 16), y)
 else let m := y.S.rmdir (placeD y.S c.a) (placeN c.a); (wrong m.1, ⟨m.2, y.T⟩)
def doUnlink (y : Sy) (c : Cal) : Res × Sy :=
 if placeE y.S c.a 21 ≠ 0 then (wrong (placeE y.S c.a 21), y)
 else
  let g := y.S.get (placeD y.S c.a) (placeN c.a)
  if pd c.a = true ∧ g.2 = 0 ∧ y.S.kindOf g.1 ≠ 2 then (wrong 20, y)
  else let m := y.S.unlink (placeD y.S c.a) (placeN c.a); (wrong m.1, ⟨m.2, y.T⟩)
def doLink (y : Sy) (c : Cal) : Res × Sy :=
 let r := lead y.S c.a false
 if r.2 ≠ 0 then (wrong r.2, y) else if y.S.kindOf r.1.2.2 = 2 then (wrong 1, y)
 else if placeE y.S c.b 17 ≠ 0 then (wrong (placeE y.S c.b 17), y)
 else if pd c.b = true then (wrong 2, y)
 else let m := y.S.link (placeD y.S c.b) (placeN c.b) r.1.2.2; (wrong m.1, ⟨m.2, y.T⟩)
def doRename (y : Sy) (c : Cal) : Res × Sy :=
 if placeE y.S c.a 16 ≠ 0 then (wrong (placeE y.S c.a 16), y)
 else if placeE y.S c.b 16 ≠ 0 then (wrong (placeE y.S c.b 16), y)
 else
  let g := y.S.get (placeD y.S c.a) (placeN c.a)
  if g.2 ≠ 0 then (wrong g.2, y)
  else if (pd c.a = true ∨ pd c.b = true) ∧ y.S.kindOf g.1 ≠ 2 then (wrong 20, y)
  else let m := y.S.rename (placeD y.S c.a) (placeN c.a) (placeD y.S c.b) (placeN c.b); (wrong m.1, ⟨m.2, y.T⟩)
def doOpendir (y : Sy) (c : Cal) : Res × Sy :=
 let r := lead y.S c.a true
 if full y.T = true then (wrong 24, y) else if r.2 ≠ 0 then (wrong r.2, y)
 else if y.S.kindOf r.1.2.2 ≠ 2 then (wrong 20, y)
 else opened y ⟨r.1.2.2, 0, 0, true, namesOf y.S r.1.2.2, 0⟩
def doReaddir (y : Sy) (c : Cal) : Res × Sy :=
 let d := getV y.T c.fd
 if d.2 ≠ 0 ∨ d.1.isd = false then (wrong 9, y)
 else match d.1.ns[d.1.pos.toNat]? with
  | none => (wrong 0, y)
  | some s => (⟨0, 1, ⟨s.toArray⟩, (0, 0, 0)⟩, ⟨y.S, setT y.T c.fd { d.1 with pos := d.1.pos + 1 }⟩)
def doRewind (y : Sy) (c : Cal) : Res × Sy :=
 let d := getV y.T c.fd
 if d.2 ≠ 0 ∨ d.1.isd = false then (wrong 9, y)
 else (wrong 0, ⟨y.S, setT y.T c.fd { d.1 with ns := namesOf y.S d.1.ino, pos := 0 }⟩)
def Does (room : Nat) (y : Sy) (c : Cal) (r : Res) (y' : Sy) : Prop :=
 if c.op = 1 then (r, y') = doOpen y c else if c.op = 2 then (r, y') = doClose y c
 else if c.op = 3 then (r, y') = doRead y c false else if c.op = 5 then (r, y') = doRead y c true
 else if c.op = 4 then DoWrite room y c false r y' else if c.op = 6 then DoWrite room y c true r y'
 else if c.op = 7 then (r, y') = doSeek y c else if c.op = 8 then (r, y') = doCut y c
 else if c.op = 9 then r = doStat y c true ∧ y' = y else if c.op = 10 then r = doStat y c false ∧ y' = y
 else if c.op = 11 then (r, y') = doMkdir y c else if c.op = 12 then (r, y') = doRmdir y c
 else if c.op = 13 then (r, y') = doUnlink y c else if c.op = 14 then (r, y') = doLink y c
 else if c.op = 15 then (r, y') = doSymlink y c else if c.op = 16 then r = doReadlink y c ∧ y' = y
 else if c.op = 17 then (r, y') = doRename y c else if c.op = 18 then (r, y') = doOpendir y c
 else if c.op = 19 then (r, y') = doReaddir y c else if c.op = 20 then (r, y') = doRewind y c
 else r = wrong 22 ∧ y' = y
end Go.Proofs.YtpmpbmjjlccbbaaGreat.tr
namespace Go.Proofs.YtpmpbmjjlccbbaaGreat.cb
open Go.RowKit
open br
open dn (En nerr lget lset ldel dotB)
open bl (AB Pq U8 wr cut cutR)
theorem link_err {S : BS} {d i : Int} {s : ByteArray} (h : (S.link d s i).1 ≠ 0) : (S.link d s i).2 = S := by
 unfold BS.link at h ⊢
 split at h <;> rename_i h1
 ·rw [if_pos h1]
 ·rw [if_neg h1]
  split at h <;> rename_i h2
  ·rw [if_pos h2]
  ·rw [if_neg h2]
   split at h <;> rename_i h3
   ·rw [if_pos h3]
   ·rw [if_neg h3]
    split at h <;> rename_i h4
    ·rw [if_pos h4]
    ·exact absurd rfl h
theorem unlink_err {S : BS} {d : Int} {s : ByteArray} (h : (S.unlink d s).1 ≠ 0) : (S.unlink d s).2 = S := by
 unfold BS.unlink at h ⊢
 split at h <;> rename_i h1
 ·rw [if_pos h1]
 ·rw [if_neg h1]
  split at h <;> rename_i h2
  ·rw [if_pos h2]
  ·rw [if_neg h2]
   split at h <;> rename_i h3
   ·rw [if_pos h3]
   ·exact absurd rfl h
theorem rmdir_err {S : BS} {d : Int} {s : ByteArray} (h : (S.rmdir d s).1 ≠ 0) : (S.rmdir d s).2 = S := by
 unfold BS.rmdir at h ⊢
 split at h <;> rename_i h1
 ·rw [if_pos h1]
 ·rw [if_neg h1]
  split at h <;> rename_i h2
  ·rw [if_pos h2]
  ·rw [if_neg h2]
   split at h <;> rename_i h3
   ·rw [if_pos h3]
   ·rw [if_neg h3]
    split at h <;> rename_i h4
    ·rw [if_pos h4]
    ·exact absurd rfl h
theorem rename_err {S : BS} {d t : Int} {s u : ByteArray} (h : (S.rename d s t u).1 ≠ 0) : (S.rename d s t u).2 = S := by
 unfold BS.rename at h ⊢
 split at h <;> rename_i h1
 ·rw [if_pos h1]
 ·rw [if_neg h1]
  split at h <;> rename_i h2
  ·rw [if_pos h2]
  ·rw [if_neg h2]
   split at h <;> rename_i h3
   ·rw [if_pos h3]
   ·rw [if_neg h3]
    split at h <;> rename_i h4
    ·rw [if_pos h4]
    ·rw [if_neg h4]
     dsimp only at h ⊢
     split at h <;> rename_i h5
     ·rw [if_pos h5]
     ·rw [if_neg h5]
      cases hg : lget u (S.at t).dir with
      | none => rw [hg] at h; exact absurd rfl h
      | some old =>
       rw [hg] at h
       dsimp only at h ⊢
       split at h <;> rename_i h6
       ·rw [if_pos h6]
       ·rw [if_neg h6]
        split at h <;> rename_i h7
        ·rw [if_pos h7]
        ·rw [if_neg h7]
         split at h <;> rename_i h8
         ·rw [if_pos h8]
         ·rw [if_neg h8]
          split at h <;> rename_i h9
          ·rw [if_pos h9]
          ·exact absurd rfl h
theorem same_body (S : BS) (i : Int) {b : AB} (hb : b = (S.at i).body) : (⟨br.upd S.ino i.toNat { S.at i with body := b }, S.used + b.n - (S.at i).body.n⟩ : BS) = S := by
 subst hb
 refine BS.ext' (fun k => ?_) (by show S.used + _ - _ = S.used; omega)
 show br.upd S.ino i.toNat _ k = _
 by_cases e : k = i.toNat
 ·subst e; rw [upd_same]; rfl
 ·rw [upd_other _ _ e]
theorem cut_err {S : BS} {i off : Int} (h : (S.cutI i off).1 ≠ 0) : (S.cutI i off).2 = S := by
 unfold BS.cutI at h ⊢
 split at h <;> rename_i h1
 ·rw [if_pos h1]
 ·rw [if_neg h1]
  have e : cut (S.at i).body off = (S.at i).body := by
   unfold cut
   rw [if_neg]
   intro e
   apply h
   show cutR off = 0
   unfold cutR
   rw [if_neg (by omega), if_neg (by omega)]
  exact same_body S i e
theorem write_err {S S' : BS} {room : Nat} {i off : Int} {len p : Nat} {f : Nat → UInt8} {err : Int} (hw : WrI S room i off len f p err S') (h : err ≠ 0) : S' = S := by
 rcases hw with ⟨_, _, _, rfl⟩ | ⟨_, h2, _, _, rfl⟩
 ·rfl
 ·have hp : p = 0 := by
   rcases h2 with ⟨_, e, _⟩ | ⟨_, _, e, _⟩ | ⟨_, _, e, _⟩ | ⟨_, _, _, _, e⟩
   ·exact e
   ·exact e
   ·exact e
   ·by_cases e0 : p = 0
    ·exact e0
    ·rw [if_neg e0] at e; exact absurd e h
  subst hp
  exact same_body S i (bl.wrB_zero _ _ _)
end Go.Proofs.YtpmpbmjjlccbbaaGreat.cb
namespace Go.Proofs.YtpmpbmjjlccbbaaGreat.tr
open br (BS Inv)
open wk (walkT pe pn pd e0 r0 dot1 dot2)
open cb (trS readI)
open ds (De Tb dz lowV openT getV errV setT closeT full allT)
theorem make_err {S : BS} {d : Int} {s : ByteArray} {k : Int} {t : ByteArray} (h : (S.make d s k t).1.2 ≠ 0) : (S.make d s k t).2 = S := by
 unfold BS.make at h ⊢
 split at h <;> rename_i h1
 ·rw [if_pos h1]
 ·rw [if_neg h1]
  split at h <;> rename_i h2
  ·rw [if_pos h2]
  ·rw [if_neg h2]
   dsimp only at h ⊢
   split at h <;> rename_i h3
   ·rw [if_pos h3]
   ·exact absurd rfl h
def Bare (x : Res × Sy) (y : Sy) : Prop := x.1.e ≠ 0 → x.2 = y ∧ x.1 = wrong x.1.e
theorem bare_wrong (e : Int) (y : Sy) : Bare (wrong e, y) y := fun _ => ⟨rfl, rfl⟩
theorem bare_ok {r : Res} {y y' : Sy} (h : r.e = 0) : Bare (r, y') y := fun k => absurd h k
theorem bare_next {e : Int} {S' : BS} {y : Sy} (h : e ≠ 0 → S' = y.S) : Bare (wrong e, ⟨S', y.T⟩) y := fun k => by
 have he : e ≠ 0 := k
 exact ⟨by rw [h he], rfl⟩
theorem opened_bare (y y0 : Sy) (d : De) : Bare (opened y d) y0 := bare_ok rfl
theorem ite_bare {c : Prop} [Decidable c] {a b : Res × Sy} {y : Sy} (h1 : c → Bare a y) (h2 : ¬ c → Bare b y) : Bare (if c then a else b) y := by
 split
 ·exact h1 ‹_›
 ·exact h2 ‹_›
theorem openIno_bare (y : Sy) (i f : Int) : Bare (openIno y i f) y :=
 ite_bare (fun _ => bare_wrong _ _) fun _ => ite_bare (fun _ => bare_wrong _ _) fun _ => opened_bare _ _ _
theorem openIno_file (y y0 : Sy) (i f : Int) (h : y.S.kindOf i = 1) : Bare (openIno y i f) y0 := by
 unfold openIno
 rw [if_neg (by rw [h]; decide), if_neg (by rw [h]; decide)]
 exact opened_bare _ _ _
theorem make_kind {S : BS} {room : Nat} (hG : br.Good S room) {d : Int} {s : ByteArray} {k : Int} {t : ByteArray} (h : (S.make d s k t).1.2 = 0) : (S.make d s k t).2.kindOf (S.make d s k t).1.1 = k := by
 unfold BS.make at h ⊢
 split at h <;> rename_i h1
 ·exact absurd h h1
 ·rw [if_neg h1]
  obtain ⟨D, rfl, hD1, hD2, hDk, hDl, -⟩ := br.vacant_ok (Classical.not_not.1 h1)
  split at h <;> rename_i h2
  ·exact absurd h (show ¬ (22 : Int) = 0 by decide)
  ·rw [if_neg h2]
   dsimp only at h ⊢
   split at h <;> rename_i h3
   ·exact absurd h (show ¬ (28 : Int) = 0 by decide)
   ·rw [if_neg h3]
    obtain ⟨f1, f2, f3, f4⟩ := br.free_spec S 200 1
    generalize S.free 1 200 = n at *
    have hn0 : (S.ino n).kind = 0 := f3 (by omega)
    have hne : n ≠ D := fun e => by rw [e, hDk] at hn0; exact absurd hn0 (by decide)
    have hk0 : k ≠ 0 := fun e => by subst e; exact h2 (by unfold br.badKind; simp)
    dsimp only
    unfold BS.kindOf BS.isI BS.putDir
    have e1 : ((S.put (n : Int) ⟨k, 1, 0, 0, if k = 2 then (D : Int) else 0, br.abE, [], t⟩).put (D : Int) { (S.put (n : Int) ⟨k, 1, 0, 0, if k = 2 then (D : Int) else 0, br.abE, [], t⟩).at (D : Int) with dir := dn.lset s n ((S.put (n : Int) ⟨k, 1, 0, 0, if k = 2 then (D : Int) else 0, br.abE, [], t⟩).at (D : Int)).dir }).at (n : Int) = ⟨k, 1, 0, 0, if k = 2 then (D : Int) else 0, br.abE, [], t⟩ := by
     rw [br.at_nat, br.put_nat, if_neg hne, br.put_nat, if_pos rfl]
    rw [e1, if_pos (decide_eq_true ⟨by omega, by omega, hk0⟩)]
theorem doOpen_bare {room : Nat} {y : Sy} (hG : br.Good y.S room) (c : Cal) : Bare (doOpen y c) y := by
 unfold doOpen
 refine ite_bare (fun _ => bare_wrong _ _) fun _ => ite_bare (fun _ => bare_wrong _ _) fun _ => ?_
 dsimp only
 refine ite_bare (fun _ => ite_bare (fun _ => bare_wrong _ _) fun _ => ite_bare (fun _ => bare_wrong _ _) fun h => openIno_file _ _ _ _ (make_kind hG (Classical.not_not.1 h))) fun _ => ite_bare (fun _ => bare_wrong _ _) fun _ => ite_bare (fun _ => bare_wrong _ _) fun _ => openIno_bare _ _ _
theorem read_ok {y : Sy} {c : Cal} {p : Bool} : Bare (doRead y c p) y := by
 unfold doRead
 dsimp only
 exact ite_bare (fun _ => bare_wrong _ _) fun _ => ite_bare (fun _ => bare_wrong _ _) fun _ => ite_bare (fun _ => bare_wrong _ _) fun _ => bare_ok rfl
theorem ite_elim {c A B G : Prop} [Decidable c] (h : if c then A else B) (h1 : c → A → G) (h2 : ¬ c → B → G) : G := by
 split at h
 ·exact h1 ‹_› h
 ·exact h2 ‹_› h
theorem does_err {room : Nat} {y y' : Sy} {c : Cal} {r : Res} (hG : br.Good y.S room) (h : Does room y c r y') (he : r.e ≠ 0) : y' = y ∧ r = wrong r.e := by
 have fin : ∀ {x : Res × Sy}, (r, y') = x → Bare x y → y' = y ∧ r = wrong r.e := fun e b => by subst e; exact b he
 have asks : ∀ {q : Res}, (q.e ≠ 0 → q = wrong q.e) → r = q ∧ y' = y → y' = y ∧ r = wrong r.e := fun k e => ⟨e.2, by rw [e.1]; exact k (by rw [← e.1]; exact he)⟩
 have wr : ∀ {p : Bool}, DoWrite room y c p r y' → y' = y ∧ r = wrong r.e := fun {p} k => by
  unfold DoWrite at k
  dsimp only at k
  split at k
  ·exact ⟨k.2, by rw [k.1]; rfl⟩
  ·obtain ⟨q, e, S', _, k1, k2⟩ := k
   by_cases h0 : e = 0
   ·exact absurd (by rw [(k2 h0).1]) he
   ·exact ⟨(k1 h0).2, by rw [(k1 h0).1]; rfl⟩
 have st : ∀ {f : Bool}, (doStat y c f).e ≠ 0 → doStat y c f = wrong (doStat y c f).e := fun {f} k => by
  unfold doStat at k ⊢
  dsimp only at k ⊢
  split
  ·rfl
  ·rename_i h1; rw [if_neg h1] at k; exact absurd rfl k
 have rl : (doReadlink y c).e ≠ 0 → doReadlink y c = wrong (doReadlink y c).e := fun k => by
  unfold doReadlink at k ⊢
  dsimp only at k ⊢
  split
  ·rfl
  ·rename_i h1
   rw [if_neg h1] at k
   dsimp only at k ⊢
   unfold BS.targetOf at k ⊢
   split
   ·rfl
   ·rename_i h2
    rw [if_neg h2] at k
    split
    ·rfl
    ·rename_i h3; rw [if_neg h3] at k; exact absurd rfl k
 have w := @bare_wrong
 unfold Does at h
 refine ite_elim h (fun _ h => ?_) (fun _ h => ?_)
 ·exact fin h (doOpen_bare hG c)
 refine ite_elim h (fun _ h => ?_) (fun _ h => ?_)
 ·exact fin h (by unfold doClose; exact ite_bare (fun _ => w _ _) fun _ => bare_ok rfl)
 refine ite_elim h (fun _ h => ?_) (fun _ h => ?_)
 ·exact fin h read_ok
 refine ite_elim h (fun _ h => ?_) (fun _ h => ?_)
 ·exact fin h read_ok
 refine ite_elim h (fun _ h => ?_) (fun _ h => ?_)
 ·exact wr h
 refine ite_elim h (fun _ h => ?_) (fun _ h => ?_)
 ·exact wr h
 refine ite_elim h (fun _ h => ?_) (fun _ h => ?_)
 ·exact fin h (by unfold doSeek; dsimp only; exact ite_bare (fun _ => w _ _) fun _ => ite_bare (fun _ => w _ _) fun _ => bare_ok rfl)
 refine ite_elim h (fun _ h => ?_) (fun _ h => ?_)
 ·exact fin h (by unfold doCut; dsimp only; exact ite_bare (fun _ => w _ _) fun _ => bare_next fun k => cb.cut_err k)
 refine ite_elim h (fun _ h => ?_) (fun _ h => ?_)
 ·exact asks st h
 refine ite_elim h (fun _ h => ?_) (fun _ h => ?_)
 ·exact asks st h
 refine ite_elim h (fun _ h => ?_) (fun _ h => ?_)
 ·exact fin h (by unfold doMkdir; dsimp only; exact ite_bare (fun _ => w _ _) fun _ => bare_next fun k => make_err k)
 refine ite_elim h (fun _ h => ?_) (fun _ h => ?_)
 ·exact fin h (by unfold doRmdir; dsimp only; exact ite_bare (fun _ => w _ _) fun _ => bare_next fun k => cb.rmdir_err k)
 refine ite_elim h (fun _ h => ?_) (fun _ h => ?_)
 ·exact fin h (by unfold doUnlink; dsimp only; exact ite_bare (fun _ => w _ _) fun _ => ite_bare (fun _ => w _ _) fun _ => bare_next fun k => cb.unlink_err k)
 refine ite_elim h (fun _ h => ?_) (fun _ h => ?_)
 ·exact fin h (by unfold doLink; dsimp only; exact ite_bare (fun _ => w _ _) fun _ => ite_bare (fun _ => w _ _) fun _ => ite_bare (fun _ => w _ _) fun _ => ite_bare (fun _ => w _ _) fun _ => bare_next fun k => cb.link_err k)
 refine ite_elim h (fun _ h => ?_) (fun _ h => ?_)
 ·exact fin h (by unfold doSymlink; dsimp only; exact ite_bare (fun _ => w _ _) fun _ => ite_bare (fun _ => w _ _) fun _ => ite_bare (fun _ => w _ _) fun _ => ite_bare (fun _ => w _ _) fun _ => ite_bare (fun _ => w _ _) fun _ => bare_next fun k => make_err k)
 refine ite_elim h (fun _ h => ?_) (fun _ h => ?_)
 ·exact asks rl h
 refine ite_elim h (fun _ h => ?_) (fun _ h => ?_)
 ·exact fin h (by unfold doRename; dsimp only; exact ite_bare (fun _ => w _ _) fun _ => ite_bare (fun _ => w _ _) fun _ => ite_bare (fun _ => w _ _) fun _ => ite_bare (fun _ => w _ _) fun _ => bare_next fun k => cb.rename_err k)
 refine ite_elim h (fun _ h => ?_) (fun _ h => ?_)
 ·exact fin h (by unfold doOpendir; dsimp only; exact ite_bare (fun _ => w _ _) fun _ => ite_bare (fun _ => w _ _) fun _ => ite_bare (fun _ => w _ _) fun _ => opened_bare _ _ _)
 refine ite_elim h (fun _ h => ?_) (fun _ h => ?_)
 ·exact fin h (by unfold doReaddir; dsimp only; refine ite_bare (fun _ => w _ _) fun _ => ?_; split; exact bare_ok rfl; exact bare_ok rfl)
 refine ite_elim h (fun _ h => ?_) (fun _ h => ?_)
 ·exact fin h (by unfold doRewind; dsimp only; exact ite_bare (fun _ => w _ _) fun _ => bare_ok rfl)
 ·exact ⟨h.2, by rw [h.1]; rfl⟩
end Go.Proofs.YtpmpbmjjlccbbaaGreat.tr
namespace Go.Proofs.YtpmpbmjjlccbbaaGreat.tr
open br (BS Inv Ino)
open wk (e0)
def HK (S S' : BS) : Prop := ∀ k, (S'.ino k).holds = (S.ino k).holds ∧ ((S.ino k).holds ≠ 0 → (S'.ino k).kind = (S.ino k).kind) ∧ ((S'.ino k).kind = 4 → (S.ino k).kind = 4)
theorem HK.refl (S : BS) : HK S S := fun k => ⟨rfl, fun _ => rfl, id⟩
theorem HK.trans {S S1 S2 : BS} (h : HK S S1) (k : HK S1 S2) : HK S S2 := fun j => ⟨(k j).1.trans (h j).1, fun e => ((k j).2.1 (by rw [(h j).1]; exact e)).trans ((h j).2.1 e), fun e => (h j).2.2 ((k j).2.2 e)⟩
theorem hk_upd {S : BS} {i u : Nat} {x : Ino} (h1 : x.holds = (S.ino i).holds) (h2 : (S.ino i).holds ≠ 0 → x.kind = (S.ino i).kind) (h3 : x.kind = 4 → (S.ino i).kind = 4) : HK S ⟨br.upd S.ino i x, u⟩ := fun k => by
 show (br.upd S.ino i x k).holds = _ ∧ (_ → (br.upd S.ino i x k).kind = _) ∧ ((br.upd S.ino i x k).kind = 4 → _)
 by_cases e : k = i
 ·subst e; rw [br.upd_same]; exact ⟨h1, h2, h3⟩
 ·rw [br.upd_other _ _ e]; exact ⟨rfl, fun _ => rfl, id⟩
theorem hk_put {S : BS} {i : Int} {x : Ino} (h1 : x.holds = (S.at i).holds) (h2 : (S.at i).holds ≠ 0 → x.kind = (S.at i).kind) (h3 : x.kind = 4 → (S.at i).kind = 4) : HK S (S.put i x) := hk_upd h1 h2 h3
theorem hk_dir (S : BS) (d : Int) (L : List dn.En) : HK S (S.putDir d L) := hk_put rfl (fun _ => rfl) id
theorem hk_less (S : BS) (i dl : Int) : HK S (S.less i dl 0) := by
 unfold BS.less
 dsimp only
 split
 ·rename_i h
  refine hk_upd ?_ (fun e => absurd ?_ e) (fun e => absurd (show (0 : Int) = 4 from e) (by decide))
  ·have := h.2; show (0 : Int) = (S.at i).holds; omega
  ·have := h.2; show (S.at i).holds = 0; omega
 ·exact hk_put (by show (S.at i).holds - 0 = _; omega) (fun _ => rfl) id
theorem hk_drop (S : BS) (d : Int) (s : ByteArray) (i : Int) : HK S (S.drop d s i) := (hk_dir _ _ _).trans (hk_less _ _ _)
theorem hk_move (S : BS) (d : Int) (s : ByteArray) (t : Int) (u : ByteArray) (i : Int) : HK S (S.move d s t u i) := by
 unfold BS.move
 dsimp only
 split
 ·exact ((hk_dir _ _ _).trans (hk_dir _ _ _)).trans (hk_put rfl (fun _ => rfl) id)
 ·exact (hk_dir _ _ _).trans (hk_dir _ _ _)
theorem hk_unlink (S : BS) (d : Int) (s : ByteArray) : HK S (S.unlink d s).2 := by
 unfold BS.unlink
 split; exact HK.refl _
 split; exact HK.refl _
 split; exact HK.refl _
 exact hk_drop _ _ _ _
theorem hk_rmdir (S : BS) (d : Int) (s : ByteArray) : HK S (S.rmdir d s).2 := by
 unfold BS.rmdir
 split; exact HK.refl _
 split; exact HK.refl _
 split; exact HK.refl _
 split; exact HK.refl _
 exact hk_drop _ _ _ _
theorem hk_rename (S : BS) (d : Int) (s : ByteArray) (t : Int) (u : ByteArray) : HK S (S.rename d s t u).2 := by
 unfold BS.rename
 split; exact HK.refl _
 split; exact HK.refl _
 split; exact HK.refl _
 split; exact HK.refl _
 dsimp only
 split; exact HK.refl _
 split
 ·exact hk_move _ _ _ _ _ _
 ·split; exact HK.refl _
  split; exact HK.refl _
  split; exact HK.refl _
  split; exact HK.refl _
  exact (hk_drop _ _ _ _).trans (hk_move _ _ _ _ _ _)
theorem hk_link (S : BS) (d : Int) (s : ByteArray) (i : Int) : HK S (S.link d s i).2 := by
 unfold BS.link
 split; exact HK.refl _
 split; exact HK.refl _
 split; exact HK.refl _
 split; exact HK.refl _
 dsimp only
 exact HK.trans (hk_put (i := i) (x := { S.at i with links := (S.at i).links + 1 }) rfl (fun _ => rfl) id) (hk_dir _ _ _)
theorem hk_make {S : BS} {room : Nat} (hG : br.Good S room) (d : Int) (s : ByteArray) (k : Int) (t : ByteArray) (h4 : k ≠ 4) : HK S (S.make d s k t).2 := by
 unfold BS.make
 split; exact HK.refl _
 split; exact HK.refl _
 dsimp only
 split; exact HK.refl _
 rename_i h3
 obtain ⟨f1, f2, f3, f4⟩ := br.free_spec S 200 1
 generalize S.free 1 200 = n at *
 have hn0 : (S.ino n).kind = 0 := f3 (by omega)
 have hz := hG.1.none n hn0
 refine (hk_put ?_ ?_ (fun e => absurd e h4)).trans (hk_dir _ _ _)
 ·rw [br.at_nat, hz]; rfl
 ·rw [br.at_nat, hz]; exact fun e => absurd rfl e
theorem hk_cut (S : BS) (i off : Int) : HK S (S.cutI i off).2 := by
 unfold BS.cutI
 split; exact HK.refl _
 exact hk_upd rfl (fun _ => rfl) id
theorem hk_wrote (S : BS) (i off : Int) (p : Nat) (f : Nat → UInt8) : HK S (S.wrote i off p f) := hk_upd rfl (fun _ => rfl) id
end Go.Proofs.YtpmpbmjjlccbbaaGreat.tr
namespace Go.Proofs.YtpmpbmjjlccbbaaGreat.tr
open br (BS Inv Ino)
open wk (walkT pe pn pd e0 r0 dot1 dot2)
open cb (trS readI)
open ds (De Tb dz low lowV openT getV errV setT closeT spot full allT put)
def hasI (I : Nat) (o : Option De) : Bool := match o with | some d => decide (d.ino = (I : Int)) | none => false
def cnI (T : Tb) (I n : Nat) : Nat := (List.range n).countP fun k => hasI I (T k)
def b2n (b : Bool) : Nat := if b = true then 1 else 0
theorem cnI_succ (T : Tb) (I n : Nat) : cnI T I (n + 1) = cnI T I n + b2n (hasI I (T n)) := by
 unfold cnI b2n
 rw [List.range_succ, List.countP_append, List.countP_singleton]
theorem cnI_put_hi {T : Tb} {k I : Nat} {o : Option De} : ∀ {n : Nat}, n ≤ k → cnI (put T k o) I n = cnI T I n
 | 0, _ => rfl
 | n + 1, h => by rw [cnI_succ, cnI_succ, cnI_put_hi (by omega), ds.put_other T o (by omega)]
theorem cnI_put {T : Tb} {k I : Nat} {o : Option De} : ∀ {n : Nat}, k < n → cnI (put T k o) I n + b2n (hasI I (T k)) = cnI T I n + b2n (hasI I o)
 | 0, h => by omega
 | n + 1, h => by
  rw [cnI_succ, cnI_succ]
  by_cases e : k = n
  ·subst e; rw [cnI_put_hi (Nat.le_refl _), ds.put_same]; omega
  ·have := cnI_put (T := T) (I := I) (o := o) (n := n) (by omega : k < n)
   rw [ds.put_other T o (fun e2 => e e2.symm)]; omega
theorem cnI_pos {T : Tb} {k I n : Nat} {d : De} (hk : k < n) (hT : T k = some d) (hd : d.ino = (I : Int)) : 1 ≤ cnI T I n := by
 have h := cnI_put (T := T) (I := I) (o := none) hk
 have : b2n (hasI I (T k)) = 1 := by rw [hT]; unfold hasI b2n; simp [hd]
 have h0 : b2n (hasI I none) = 0 := rfl
 omega
def Fit (S : BS) (d : De) : Prop := ∃ I : Nat, d.ino = (I : Int) ∧ 1 ≤ I ∧ I ≤ 200 ∧ (S.ino I).kind = (if d.isd = true then 2 else 1) ∧ 0 ≤ d.off ∧ 0 ≤ d.pos ∧ d.ns.length ≤ 4000
structure Hd (room : Nat) (y : Sy) : Prop where
 good : br.Good y.S room
 fit : ∀ k d, k < 32 → y.T k = some d → Fit y.S d
 holds : ∀ I, 1 ≤ I → I ≤ 200 → (y.S.ino I).holds = (cnI y.T I 32 : Int)
 nw : ∀ k, (y.S.ino k).kind ≠ 4
section
variable {room : Nat} {y : Sy}
theorem Hd.held (h : Hd room y) {k : Nat} {d : De} (hk : k < 32) (hT : y.T k = some d) : ∃ I : Nat, d.ino = (I : Int) ∧ 1 ≤ I ∧ I ≤ 200 ∧ (y.S.ino I).holds ≠ 0 ∧ (y.S.ino I).kind = (if d.isd = true then 2 else 1) := by
 obtain ⟨I, h1, h2, h3, h4, _⟩ := h.fit k d hk hT
 refine ⟨I, h1, h2, h3, ?_, h4⟩
 rw [h.holds I h2 h3]
 have := cnI_pos hk hT h1
 omega
theorem Fit.keep {S S' : BS} {d : De} (h : Fit S d) (hk : HK S S') (hh : ∀ I : Nat, d.ino = (I : Int) → (S.ino I).holds ≠ 0) : Fit S' d := by
 obtain ⟨I, h1, h2, h3, h4, h5⟩ := h
 exact ⟨I, h1, h2, h3, ((hk I).2.1 (hh I h1)).trans h4, h5⟩
theorem Hd.branch (h : Hd room y) {S' : BS} (hG : br.Good S' room) (hk : HK y.S S') : Hd room ⟨S', y.T⟩ :=
 ⟨hG, fun k d h1 h2 => (h.fit k d h1 h2).keep hk fun I hI => by
  obtain ⟨J, j1, _, _, j4, _⟩ := h.held h1 h2
  have : I = J := by omega
  subst this; exact j4, fun I h1 h2 => ((hk I).1).trans (h.holds I h1 h2), fun k e => h.nw k ((hk k).2.2 e)⟩
theorem Hd.set (h : Hd room y) {fd : Int} {d d' : De} (hg : getV y.T fd = (d, 0)) (hi : d'.ino = d.ino) (hd : d'.isd = d.isd) (ho : 0 ≤ d'.off) (hp : 0 ≤ d'.pos) (hn : d'.ns.length ≤ 4000) : Hd room ⟨y.S, setT y.T fd d'⟩ := by
 cases hs : spot y.T fd with
 | none => unfold getV at hg; rw [hs] at hg; injection hg with _ e; exact absurd e (by decide)
 | some x =>
  have hx : x = d := by unfold getV at hg; rw [hs] at hg; injection hg
  subst hx
  obtain ⟨k, rfl, hk, hT⟩ := ds.spot_some hs
  have e : setT y.T (k : Int) d' = put y.T k (some d') := by unfold setT; rw [hs]; rfl
  rw [e]
  refine ⟨h.good, fun j q hj hq => ?_, fun I h1 h2 => ?_, h.nw⟩
  ·by_cases ej : j = k
   ·subst ej
    rw [show (⟨y.S, put y.T j (some d')⟩ : Sy).T j = some d' from ds.put_same _ _ _] at hq
    injection hq with hq
    subst hq
    obtain ⟨I, a1, a2, a3, a4, _⟩ := h.fit j x hj hT
    exact ⟨I, hi.trans a1, a2, a3, by rw [hd]; exact a4, ho, hp, hn⟩
   ·exact h.fit j q hj ((ds.put_other y.T (some d') ej).symm.trans hq)
  ·have := cnI_put (T := y.T) (I := I) (o := some d') hk
   have e2 : hasI I (some d') = hasI I (y.T k) := by rw [hT]; unfold hasI; dsimp only; rw [hi]
   rw [e2] at this
   show (y.S.ino I).holds = ((cnI (put y.T k (some d')) I 32 : Nat) : Int)
   rw [h.holds I h1 h2]
   omega
theorem Hd.opened (h : Hd room y) (hl : full y.T = false) {d : De} (hd : Fit y.S d) : Hd room (opened y d).2 := by
 obtain ⟨I, rfl', a2, a3, a4, a5, a6⟩ := hd
 unfold tr.opened
 dsimp only
 rw [rfl']
 have hne : (y.S.ino I).kind ≠ 0 := by rw [a4]; split <;> decide
 have hI : y.S.isI (I : Int) = true := by unfold BS.isI; rw [br.at_nat]; exact decide_eq_true ⟨by omega, by omega, hne⟩
 have hG := br.Good.hold h.good (I : Int)
 have e1 : (y.S.hold (I : Int)).2 = y.S.put I { y.S.at I with holds := (y.S.at I).holds + 1 } := by unfold BS.hold; rw [if_neg (by rw [hI]; decide)]
 rw [e1] at hG ⊢
 have hino : ∀ k, (y.S.put (I : Int) { y.S.at (I : Int) with holds := (y.S.at (I : Int)).holds + 1 }).ino k = if k = I then { y.S.ino I with holds := (y.S.ino I).holds + 1 } else y.S.ino k := fun k => by rw [br.put_nat, br.at_nat]
 have hkind : ∀ k, ((y.S.put (I : Int) { y.S.at (I : Int) with holds := (y.S.at (I : Int)).holds + 1 }).ino k).kind = (y.S.ino k).kind := fun k => by
  rw [hino]; split
  ·rename_i e; subst e; rfl
  ·rfl
 cases hlow : low y.T with
 | none => unfold full at hl; rw [hlow] at hl; exact absurd hl (by decide)
 | some k =>
  obtain ⟨k1, k2, _⟩ := ds.low_some hlow
  have eT : openT y.T d = put y.T k (some d) := by unfold openT; rw [hlow]
  rw [eT]
  refine ⟨hG, fun j q hj hq => ?_, fun J h1 h2 => ?_, fun k e => h.nw k ((hkind k).symm.trans e)⟩
  ·by_cases ej : j = k
   ·subst ej
    have hq2 : some d = some q := (ds.put_same y.T j (some d)).symm.trans hq
    injection hq2 with hq2
    subst hq2
    exact ⟨I, rfl', a2, a3, (hkind I).trans a4, a5, a6⟩
   ·obtain ⟨J, b1, b2, b3, b4, b5⟩ := h.fit j q hj ((ds.put_other y.T (some d) ej).symm.trans hq)
    exact ⟨J, b1, b2, b3, (hkind J).trans b4, b5⟩
  ·have hc := cnI_put (T := y.T) (I := J) (o := some d) k1
   have h0 : b2n (hasI J (y.T k)) = 0 := by rw [k2]; rfl
   show ((y.S.put (I : Int) _).ino J).holds = ((cnI (put y.T k (some d)) J 32 : Nat) : Int)
   rw [hino]
   have hJ := h.holds J h1 h2
   by_cases e : J = I
   ·subst e
    rw [if_pos rfl]
    have : b2n (hasI J (some d)) = 1 := by unfold hasI b2n; simp [rfl']
    show (y.S.ino J).holds + 1 = _
    omega
   ·rw [if_neg e]
    have : b2n (hasI J (some d)) = 0 := by unfold hasI b2n; rw [if_neg]; simp [rfl']; omega
    omega
theorem Hd.close (h : Hd room y) {fd : Int} {d : De} (hg : getV y.T fd = (d, 0)) : Hd room ⟨(y.S.release d.ino).2, closeT y.T fd⟩ := by
 cases hs : spot y.T fd with
 | none => unfold getV at hg; rw [hs] at hg; injection hg with _ e; exact absurd e (by decide)
 | some x =>
  have hx : x = d := by unfold getV at hg; rw [hs] at hg; injection hg
  subst hx
  obtain ⟨k, rfl, hk, hT⟩ := ds.spot_some hs
  obtain ⟨I, a1, a2, a3, a4, a5⟩ := h.held hk hT
  have eT : closeT y.T (k : Int) = put y.T k none := by unfold closeT; rw [hs]; rfl
  have hG := br.Good.release h.good x.ino
  have hne : (y.S.ino I).kind ≠ 0 := by rw [a5]; split <;> decide
  have hI : y.S.isI (I : Int) = true := by unfold BS.isI; rw [br.at_nat]; exact decide_eq_true ⟨by omega, by omega, hne⟩
  have e1 : (y.S.release x.ino).2 = y.S.less (I : Int) 0 1 := by unfold BS.release; rw [a1, if_neg (by rw [hI]; decide), if_neg (by rw [br.at_nat]; exact a4)]
  rw [e1] at hG
  rw [e1, eT]
  have hoth : ∀ j, j ≠ I → (y.S.less (I : Int) 0 1).ino j = y.S.ino j := fun j hj => by
   unfold BS.less
   dsimp only
   split
   ·exact br.upd_other _ _ hj
   ·rw [br.put_nat, if_neg hj]
  have hold : ((y.S.less (I : Int) 0 1).ino I).holds = (y.S.ino I).holds - 1 := by
   unfold BS.less
   dsimp only
   rw [br.at_nat]
   split
   ·rename_i e
    show (br.upd y.S.ino I Ino.nil I).holds = _
    rw [br.upd_same]
    exact e.2.symm
   ·rw [br.put_nat, if_pos rfl]
  have hkin : (y.S.ino I).holds - 1 ≠ 0 → ((y.S.less (I : Int) 0 1).ino I).kind = (y.S.ino I).kind := fun e => by
   unfold BS.less
   dsimp only
   rw [br.at_nat, if_neg (fun e2 => e e2.2), br.put_nat, if_pos rfl]
  have hcn : ∀ J, cnI (put y.T k none) J 32 + b2n (hasI J (y.T k)) = cnI y.T J 32 := fun J => by
   have := cnI_put (T := y.T) (I := J) (o := none) hk
   have h0 : b2n (hasI J none) = 0 := rfl
   omega
  refine ⟨hG, fun j q hj hq => ?_, fun J h1 h2 => ?_, fun j => ?_⟩
  ·have ej : j ≠ k := fun e => by subst e; exact absurd ((ds.put_same y.T j none).symm.trans hq) (by simp)
   have hq2 : y.T j = some q := (ds.put_other y.T none ej).symm.trans hq
   obtain ⟨J, b1, b2, b3, b4, b5⟩ := h.fit j q hj hq2
   refine ⟨J, b1, b2, b3, ?_, b5⟩
   by_cases e : J = I
   ·subst e
    refine (hkin ?_).trans b4
    have h3 := hcn J
    have h4 : b2n (hasI J (y.T k)) = 1 := by rw [hT]; unfold hasI b2n; simp [a1]
    have h5 : 1 ≤ cnI (put y.T k none) J 32 := cnI_pos hj (by rw [ds.put_other y.T none ej]; exact hq2) b1
    have := h.holds J b2 b3
    omega
   ·rw [hoth J e]; exact b4
  ·have h3 := hcn J
   have h4 := h.holds J h1 h2
   show ((y.S.less (I : Int) 0 1).ino J).holds = ((cnI (put y.T k none) J 32 : Nat) : Int)
   by_cases e : J = I
   ·subst e
    have h5 : b2n (hasI J (y.T k)) = 1 := by rw [hT]; unfold hasI b2n; simp [a1]
    rw [hold]; omega
   ·have h5 : b2n (hasI J (y.T k)) = 0 := by rw [hT]; unfold hasI b2n; rw [if_neg]; simp [a1]; omega
    rw [hoth J e]; omega
  ·show ((y.S.less (I : Int) 0 1).ino j).kind ≠ 4
   by_cases e : j = I
   ·subst e
    unfold BS.less
    dsimp only
    rw [br.at_nat]
    split
    ·show (br.upd y.S.ino j Ino.nil j).kind ≠ 4
     rw [br.upd_same]; decide
    ·rw [br.put_nat, if_pos rfl]; exact h.nw j
   ·rw [hoth j e]; exact h.nw j
end
end Go.Proofs.YtpmpbmjjlccbbaaGreat.tr
