/- Part 56 of what is known of the program's functions and of the document's words: contracts, and the mathematics beneath them. -/
import Derived.Test.YtpmpbmjjlccbbaaGreatProg
import Derived.Test.YtpmpbmjjlccbbaaGreatZ38
import Derived.Test.YtpmpbmjjlccbbaaGreatZ53
import Derived.Test.YtpmpbmjjlccbbaaGreatZ55
import Derived.Laws.StructEq
set_option linter.unusedVariables false
set_option linter.unusedSimpArgs false
set_option maxRecDepth 100000
set_option maxHeartbeats 8000000
namespace Go.Proofs.YtpmpbmjjlccbbaaGreat.tr
open Go.RowKit
open br (BS Inv Ino fresh)
open cb (toldS upB inoB headB tarB contB contN readI)
abbrev RVal (e n : Int) (s : ByteArray) (a b c : Int) : Value := .agg #[.int .i64 e, .int .i64 n, .string s, .int .i64 a, .int .i64 b, .int .i64 c]
theorem run_equal37 (d : Nat) (a b c : Int) (w : World) : (Op.equalIn (d + 2) 37 (.agg #[.int .i64 a, .int .i64 b, .int .i64 c]) (.agg #[.int .i64 a, .int .i64 b, .int .i64 c])).run Tryz.prog w = .ok true w := by
 have hS : Tryz.prog.underlying 37 = some (.struct (Tryz.prog.fieldsOf 37)) := by kernel_rfl
 have hp : Tryz.prog.stoodInHeld 37 = false := by kernel_rfl
 have u3 := Tryz.underlying3
 have a3 := Tryz.isAgg3
 have z3 := Tryz.sizeOf3
 rw [run_equalIn_agg w (d + 1) 37 _ _ hS hp]
 simp only [Program.fieldsOf, Tryz.underlying37]
 go_simp
theorem run_equal39 (e n : Int) (s : ByteArray) (a b c : Int) (w : World) : (Op.equalIn 10000 39 (RVal e n s a b c) (RVal e n s a b c)).run Tryz.prog w = .ok true w := by
 have hS : Tryz.prog.underlying 39 = some (.struct (Tryz.prog.fieldsOf 39)) := by kernel_rfl
 have hp : Tryz.prog.stoodInHeld 39 = false := by kernel_rfl
 have h37 := run_equal37 9997 a b c w
 have u2 := Tryz.underlying2
 have u35 := Tryz.underlying35
 have u9 := Tryz.underlying9
 have a2 := Tryz.isAgg2
 have z2 := Tryz.sizeOf2
 have a9 := Tryz.isAgg9
 have z9 := Tryz.sizeOf9
 have a35 := Tryz.isAgg35
 have z35 := Tryz.sizeOf35
 have a37 := Tryz.isAgg37
 have z37 := Tryz.sizeOf37
 rw [show (10000 : Nat) = 9999 + 1 from rfl, run_equalIn_agg w 9999 39 _ _ hS hp]
 simp only [Program.fieldsOf, Tryz.underlying39]
 rw [show (9999 : Nat) = 9998 + 1 from rfl] at *
 simp [go_sem, *]
theorem neq39 (e n : Int) (s : ByteArray) (a b c : Int) (w : World) : (binOp .neq 39 (RVal e n s a b c) (RVal e n s a b c)).run Tryz.prog w = .ok (.bool false) w := by
 rw [run_neq_struct, run_equal39]; rfl
theorem eql39 (e n : Int) (s : ByteArray) (a b c : Int) (w : World) : (binOp .eql 39 (RVal e n s a b c) (RVal e n s a b c)).run Tryz.prog w = .ok (.bool true) w := by
 rw [run_eql_struct, run_equal39]; rfl
theorem guard39 (op : BinOp) (a b : Operand) (xs ys : Array Value) (w : World) : (eqGuard op 39 a b (.agg xs) (.agg ys)).run Tryz.prog w = .ok () w := run_eqGuard_agg w op 39 a b xs ys (by kernel_rfl)
structure SameT (S S' : BS) : Prop where
 used : S'.used = S.used
 kind : ∀ i : Int, (S'.at i).kind = (S.at i).kind
 links : ∀ i : Int, (S'.at i).links = (S.at i).links
 body : ∀ i : Int, (S'.at i).body = (S.at i).body
 dir : ∀ i : Int, (S'.at i).dir = (S.at i).dir
 target : ∀ i : Int, (S'.at i).target = (S.at i).target
section
variable {S S' : BS}
theorem SameT.isI (h : SameT S S') (i : Int) : S'.isI i = S.isI i := by unfold BS.isI; rw [h.kind]
theorem SameT.kindOf (h : SameT S S') (i : Int) : S'.kindOf i = S.kindOf i := by unfold BS.kindOf; rw [h.isI, h.kind]
theorem SameT.stat (h : SameT S S') (i : Int) : S'.stat i = S.stat i := by unfold BS.stat Ino.sizeOf; rw [h.isI, h.kind, h.links, h.body, h.dir, h.target]
theorem SameT.targetOf (h : SameT S S') (i : Int) : S'.targetOf i = S.targetOf i := by unfold BS.targetOf; rw [h.isI, h.kind, h.target]
theorem SameT.readI (h : SameT S S') (i off n : Int) : readI S' i off n = readI S i off n := by unfold cb.readI BS.fileE; rw [h.kindOf, h.body]
theorem SameT.all1 (h : SameT S S') (i : Int) : (S'.all i).1 = (S.all i).1 := by
 have hd : S'.dirE i false = S.dirE i false := by unfold BS.dirE; rw [h.isI, h.kind, h.links]
 unfold BS.all
 rw [hd, h.dir]
theorem SameT.ino (h : SameT S S') (k : Nat) : inoB S' k = inoB S k := by
 unfold inoB headB tarB contB contN
 rw [h.isI, h.stat, h.targetOf, h.readI, h.body, h.all1]
theorem SameT.told (h : SameT S S') : toldS S' = toldS S := by
 have hu : ∀ k, upB S' k = upB S k := fun k => by
  induction k with
  | zero => show cb.num3 _ = cb.num3 _; rw [h.used]
  | succ k ih => show upB S' k ++ inoB S' (k + 1) = upB S k ++ inoB S (k + 1); rw [ih, h.ino]
 unfold toldS
 rw [hu]
theorem same_hold (S : BS) (i : Int) : SameT S (S.hold i).2 := by
 unfold BS.hold
 by_cases hi : S.isI i = false
 ·rw [if_pos hi]; exact ⟨rfl, fun _ => rfl, fun _ => rfl, fun _ => rfl, fun _ => rfl, fun _ => rfl⟩
 ·rw [if_neg hi]
  have e : ∀ j : Int, (S.put i { S.at i with holds := (S.at i).holds + 1 }).at j = if j.toNat = i.toNat then { S.at i with holds := (S.at i).holds + 1 } else S.at j := fun j => rfl
  have p : ∀ {α : Type} (f : Ino → α), (∀ x : Ino, ∀ h, f { x with holds := h } = f x) → ∀ j : Int, f ((S.put i { S.at i with holds := (S.at i).holds + 1 }).at j) = f (S.at j) := fun f hf j => by
   rw [e]
   split
   ·rename_i h
    rw [hf]
    show f (S.ino i.toNat) = f (S.ino j.toNat)
    rw [h]
   ·rfl
  exact ⟨rfl, p (fun x => x.kind) (fun _ _ => rfl), p (fun x => x.links) (fun _ _ => rfl), p (fun x => x.body) (fun _ _ => rfl), p (fun x => x.dir) (fun _ _ => rfl), p (fun x => x.target) (fun _ _ => rfl)⟩
end
def AskOp (k : Int) : Prop := k = 3 ∨ k = 5 ∨ k = 7 ∨ k = 9 ∨ k = 10 ∨ k = 16 ∨ k = 18 ∨ k = 19 ∨ k = 20
theorem ite_same {c : Prop} [Decidable c] {a b : Res × Sy} {G : Sy → Prop} (h1 : G a.2) (h2 : G b.2) : G (if c then a else b).2 := by
 split
 ·exact h1
 ·exact h2
theorem asks_same {room : Nat} {y y' : Sy} {c : Cal} {r : Res} (h : Does room y c r y') (ha : AskOp c.op) : toldS y'.S = toldS y.S := by
 have fin : ∀ {x : Res × Sy}, (r, y') = x → toldS x.2.S = toldS y.S → toldS y'.S = toldS y.S := fun e b => by subst e; exact b
 have G : ∀ {x : Res × Sy}, x.2.S = y.S → toldS x.2.S = toldS y.S := fun e => by rw [e]
 rcases ha with ha | ha | ha | ha | ha | ha | ha | ha | ha
 ·exact fin (is_3 h ha) (G (by unfold doRead; dsimp only; exact ite_same (G := fun z => z.S = y.S) rfl (ite_same (G := fun z => z.S = y.S) rfl (ite_same (G := fun z => z.S = y.S) rfl rfl))))
 ·exact fin (is_5 h ha) (G (by unfold doRead; dsimp only; exact ite_same (G := fun z => z.S = y.S) rfl (ite_same (G := fun z => z.S = y.S) rfl (ite_same (G := fun z => z.S = y.S) rfl rfl))))
 ·exact fin (is_7 h ha) (G (by unfold doSeek; dsimp only; exact ite_same (G := fun z => z.S = y.S) rfl (ite_same (G := fun z => z.S = y.S) rfl rfl)))
 ·rw [(is_9 h ha).2]
 ·rw [(is_10 h ha).2]
 ·rw [(is_16 h ha).2]
 ·exact fin (is_18 h ha) (by
   unfold doOpendir; dsimp only
   exact ite_same (G := fun z => toldS z.S = toldS y.S) rfl (ite_same (G := fun z => toldS z.S = toldS y.S) rfl (ite_same (G := fun z => toldS z.S = toldS y.S) rfl (same_hold y.S _).told)))
 ·exact fin (is_19 h ha) (G (by
   unfold doReaddir; dsimp only
   refine ite_same (G := fun z => z.S = y.S) rfl ?_
   split <;> rfl))
 ·exact fin (is_20 h ha) (G (by unfold doRewind; dsimp only; exact ite_same (G := fun z => z.S = y.S) rfl rfl))
end Go.Proofs.YtpmpbmjjlccbbaaGreat.tr
