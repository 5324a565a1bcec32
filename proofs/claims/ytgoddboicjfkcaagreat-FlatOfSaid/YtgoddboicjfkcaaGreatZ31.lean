/- Part 31 of what is known of the program's functions and of the document's words: contracts, and the mathematics beneath them. -/
import Derived.Test.YtgoddboicjfkcaaGreatProg
import Derived.Test.YtgoddboicjfkcaaGreatZ27
import Derived.Test.YtgoddboicjfkcaaGreatZ28
import Derived.Lib.ConvBytes
import Derived.StillTailTactics
import Derived.Deep.LoopGhost
set_option linter.unusedVariables false
set_option linter.unusedSimpArgs false
set_option maxRecDepth 100000
set_option maxHeartbeats 8000000
namespace Go.Proofs.YtgoddboicjfkcaaGreat.cb
open Go.RowKit
open br
open bl (AB WR Pq U8)
def sF (s : ByteArray) : Nat → UInt8 := fun j => s.data.toList.getD j 0
theorem conv_bytes (w : World) (s : ByteArray) (hs : s.size ≤ 1000000) : ∃ c w', (convert 9 53 (.string s)).run Tryz.prog w = .ok (.slice (some ⟨w.heap.size, 0, none⟩) s.size c) w' ∧ s.size ≤ c ∧ c ≤ maxLen ∧ Below w.heap.size w w' ∧ w.heap.size < w'.heap.size ∧ ∀ j, j < s.size → w'.cell? ⟨w.heap.size, 0 + j, none⟩ = some (U8 (sF s j)) := by
 refine ⟨_, _, Lib.run_convert_string_bytes w 9 53 5 s Tryz.underlying9 Tryz.underlying53 Tryz.underlying5, grownCap_ge _ _ _ _, grownCap_le_maxLen _ _ _ _ (by unfold maxLen; omega), ?_, by rw [Lib.bytesWorld_size]; omega, fun j hj => ?_⟩
 ·refine ⟨?_, ?_, ?_, by rw [Lib.bytesWorld_size]; omega, fun k hk => Lib.bytesWorld_at_old w 5 s k hk⟩
  ·simp [Lib.bytesWorld, World.freeze] <;> rfl
  ·simp [Lib.bytesWorld, World.freeze] <;> rfl
  ·simp [Lib.bytesWorld, World.freeze] <;> rfl
 ·rw [Nat.zero_add]; exact Lib.bytesWorld_cell w 5 s j hj
structure Pt where
 P1 : Nat
 P2 : Nat
 D1 : Nat
 R1 : Nat
 D2 : Nat
 R2 : Nat
def Q4 (w0 w : World) (p : Pt) (U L U' L' : BS) (T1 T2 : Nat) (X : Nat → Prop) : Prop :=
 Sys w0 w [KB w0 p.P1 U 500 T1, KB w0 p.P2 L 500 T2, KD w0 p.D1 p.R1 U' 500, KD w0 p.D2 p.R2 L' 500] X
section
variable {w0 w w' : World} {p : Pt} {U L U' L' U1 L1 S' : BS} {T1 T2 T3 T4 : Nat} {X Y : Nat → Prop} {f : Nat} {args : Array Value} {v : Value}
theorem Q4.bel (h : Q4 w0 w p U L U' L' T1 T2 X) : Below w0.heap.size w0 w := Sys.bel h
theorem Q4.sub (h : Q4 w0 w p U L U' L' T1 T2 X) (hY : ∀ b, Y b → X b) : Q4 w0 w p U L U' L' T1 T2 Y := Sys.sub h hY
theorem Q4.below (h : Q4 w0 w p U L U' L' T1 T2 X) (hb : Below w.heap.size w w') : Q4 w0 w' p U L U' L' T1 T2 X := Sys.below h hb
theorem Q4.box (h : Q4 w0 w p U L U' L' T1 T2 X) (hb : Below w.heap.size w w') (hY : ∀ b, Y b → X b ∨ (w.heap.size ≤ b ∧ b < w'.heap.size)) : Q4 w0 w' p U L U' L' T1 T2 Y := Sys.box h hb hY
theorem Q4.lt (h : Q4 w0 w p U L U' L' T1 T2 X) {b : Nat} (hb : X b) : b < w.heap.size := Sys.lt h hb
theorem Q4.up (h : Q4 w0 w p U L U' L' T1 T2 X) (h1 : T1 ≤ T3) (h2 : T2 ≤ T4) : Q4 w0 w p U L U' L' T3 T4 X :=
 (show Sys w0 w [KB w0 p.P1 U 500 T3, KB w0 p.P2 L 500 T2, KD w0 p.D1 p.R1 U' 500, KD w0 p.D2 p.R2 L' 500] X from Sys.weak h (i := 0) (r := KB w0 p.P1 U 500 T1) rfl KB.stab fun O k => k.up h1).weak (i := 1) (r := KB w0 p.P2 L 500 T2) rfl KB.stab fun O k => k.up h2
theorem Q4.good1 (h : Q4 w0 w p U L U' L' T1 T2 X) : br.Good U 500 := Sys.ask h (i := 0) rfl fun O k => KB.good k
theorem Q4.good2 (h : Q4 w0 w p U L U' L' T1 T2 X) : br.Good L 500 := Sys.ask h (i := 1) rfl fun O k => KB.good k
theorem Q4.hold1 (h : Q4 w0 w p U L U' L' T1 T2 X) (hT : T1 ≤ 1000) : ∀ k, (U.ino k).holds ≤ 900000 := Sys.ask h (i := 0) rfl fun O k => by obtain ⟨_, _, _, _, _, _, _, _, _, _, h5, _⟩ := k; intro k; have := h5 k; omega
theorem Q4.hold2 (h : Q4 w0 w p U L U' L' T1 T2 X) (hT : T2 ≤ 1000) : ∀ k, (L.ino k).holds ≤ 900000 := Sys.ask h (i := 1) rfl fun O k => by obtain ⟨_, _, _, _, _, _, _, _, _, _, h5, _⟩ := k; intro k; have := h5 k; omega
theorem Q4.brx1 (h : Q4 w0 w p U L U' L' T1 T2 X) : BrX w0 w p.P1 No U 500 T1 := Sys.ask h (i := 0) rfl fun O k => (KB.brx k h.bel).forget
theorem Q4.brx2 (h : Q4 w0 w p U L U' L' T1 T2 X) : BrX w0 w p.P2 No L 500 T2 := Sys.ask h (i := 1) rfl fun O k => (KB.brx k h.bel).forget
theorem Q4.code1 (h : Q4 w0 w p U L U' L' T1 T2 X) (hc : ∀ O, (KB w0 p.P1 U 500 T1) w O → Calls Tryz.prog f args w (fun e w' => e = .returned v ∧ NxR w w' (KB w0 p.P1 S' 500 (T1 + 1)) O)) :
 Calls Tryz.prog f args w (fun e w' => e = .returned v ∧ Q4 w0 w' p S' L U' L' (T1 + 1) T2 X ∧ Same X w w') := Sys.call h (i := 0) rfl KB.stab hc
theorem Q4.code2 (h : Q4 w0 w p U L U' L' T1 T2 X) (hc : ∀ O, (KB w0 p.P2 L 500 T2) w O → Calls Tryz.prog f args w (fun e w' => e = .returned v ∧ NxR w w' (KB w0 p.P2 S' 500 (T2 + 1)) O)) :
 Calls Tryz.prog f args w (fun e w' => e = .returned v ∧ Q4 w0 w' p U S' U' L' T1 (T2 + 1) X ∧ Same X w w') := Sys.call h (i := 1) rfl KB.stab hc
theorem Q4.doc1 (h : Q4 w0 w p U L U' L' T1 T2 X) (hc : ∀ O, (KD w0 p.D1 p.R1 U' 500) w O → Calls Tryz.prog f args w (fun e w' => e = .returned v ∧ NxR w w' (KD w0 p.D1 p.R1 S' 500) O)) :
 Calls Tryz.prog f args w (fun e w' => e = .returned v ∧ Q4 w0 w' p U L S' L' T1 T2 X ∧ Same X w w') := Sys.call h (i := 2) rfl KD.stab hc
theorem Q4.doc2 (h : Q4 w0 w p U L U' L' T1 T2 X) (hc : ∀ O, (KD w0 p.D2 p.R2 L' 500) w O → Calls Tryz.prog f args w (fun e w' => e = .returned v ∧ NxR w w' (KD w0 p.D2 p.R2 S' 500) O)) :
 Calls Tryz.prog f args w (fun e w' => e = .returned v ∧ Q4 w0 w' p U L U' S' T1 T2 X ∧ Same X w w') := Sys.call h (i := 3) rfl KD.stab hc
theorem Q4.w1 (h : Q4 w0 w p U L U' L' T1 T2 X) (i off : Int) (A : Option Addr) (len dc : Nat) (f : Nat → UInt8) (hA : ∀ j, j < len → ∃ b o, A = some ⟨b, o, none⟩ ∧ X b ∧ w.cell? ⟨b, o + j, none⟩ = some (U8 (f j))) (hlc : len ≤ dc) (hdc : dc ≤ maxLen) :
  Calls Tryz.prog 39 #[Pq p.P1, .int .i64 i, .int .i64 off, .slice A len dc] w (fun e w' => ∃ z : Wz, WrI U 500 i off len f z.1 z.2.1 z.2.2 ∧ e = .returned (.tuple #[.int .i64 (z.1 : Int), .int .i64 z.2.1]) ∧ Q4 w0 w' p z.2.2 L U' L' (T1 + 1) T2 X ∧ Same X w w') :=
 Sys.callE (q := fun z : Wz => KB w0 p.P1 z.2.2 500 (T1 + 1)) h (i := 0) rfl (fun _ _ => KB.stab) fun O k hX => kb_write k hX i off A len dc f hA hlc hdc
theorem Q4.w2 (h : Q4 w0 w p U L U' L' T1 T2 X) (i off : Int) (A : Option Addr) (len dc : Nat) (f : Nat → UInt8) (hA : ∀ j, j < len → ∃ b o, A = some ⟨b, o, none⟩ ∧ X b ∧ w.cell? ⟨b, o + j, none⟩ = some (U8 (f j))) (hlc : len ≤ dc) (hdc : dc ≤ maxLen) :
  Calls Tryz.prog 39 #[Pq p.P2, .int .i64 i, .int .i64 off, .slice A len dc] w (fun e w' => ∃ z : Wz, WrI L 500 i off len f z.1 z.2.1 z.2.2 ∧ e = .returned (.tuple #[.int .i64 (z.1 : Int), .int .i64 z.2.1]) ∧ Q4 w0 w' p U z.2.2 U' L' T1 (T2 + 1) X ∧ Same X w w') :=
 Sys.callE (q := fun z : Wz => KB w0 p.P2 z.2.2 500 (T2 + 1)) h (i := 1) rfl (fun _ _ => KB.stab) fun O k hX => kb_write k hX i off A len dc f hA hlc hdc
theorem Q4.v1 (h : Q4 w0 w p U L U' L' T1 T2 X) (hG : br.Good U' 500) (i off : Int) (A : Option Addr) (len dc : Nat) (f : Nat → UInt8) (hA : ∀ j, j < len → ∃ b o, A = some ⟨b, o, none⟩ ∧ X b ∧ w.cell? ⟨b, o + j, none⟩ = some (U8 (f j))) (hlc : len ≤ dc) (hdc : dc ≤ maxLen)
  {q : Nat} {err : Int} (hw : WrI U' 500 i off len f q err S') :
  Calls Tryz.prog 40 #[Pq p.D1, .int .i64 i, .int .i64 off, .slice A len dc] w (fun e w' => e = .returned (.tuple #[.int .i64 (q : Int), .int .i64 err]) ∧ Q4 w0 w' p U L S' L' T1 T2 X ∧ Same X w w') :=
 (Sys.callE (ι := Unit) (p := fun _ => True) (v := fun _ => .tuple #[.int .i64 (q : Int), .int .i64 err]) (q := fun _ => KD w0 p.D1 p.R1 S' 500) h (i := 2) rfl (fun _ _ => KD.stab) fun O k hX => (kd_write k hG (by decide) hX i off A len dc f hA hlc hdc hw).mono fun e w' hx => ⟨(), trivial, hx.1, hx.2⟩).mono fun e w' ⟨_, _, hx⟩ => hx
theorem Q4.v2 (h : Q4 w0 w p U L U' L' T1 T2 X) (hG : br.Good L' 500) (i off : Int) (A : Option Addr) (len dc : Nat) (f : Nat → UInt8) (hA : ∀ j, j < len → ∃ b o, A = some ⟨b, o, none⟩ ∧ X b ∧ w.cell? ⟨b, o + j, none⟩ = some (U8 (f j))) (hlc : len ≤ dc) (hdc : dc ≤ maxLen)
  {q : Nat} {err : Int} (hw : WrI L' 500 i off len f q err S') :
  Calls Tryz.prog 40 #[Pq p.D2, .int .i64 i, .int .i64 off, .slice A len dc] w (fun e w' => e = .returned (.tuple #[.int .i64 (q : Int), .int .i64 err]) ∧ Q4 w0 w' p U L U' S' T1 T2 X ∧ Same X w w') :=
 (Sys.callE (ι := Unit) (p := fun _ => True) (v := fun _ => .tuple #[.int .i64 (q : Int), .int .i64 err]) (q := fun _ => KD w0 p.D2 p.R2 S' 500) h (i := 3) rfl (fun _ _ => KD.stab) fun O k hX => (kd_write k hG (by decide) hX i off A len dc f hA hlc hdc hw).mono fun e w' hx => ⟨(), trivial, hx.1, hx.2⟩).mono fun e w' ⟨_, _, hx⟩ => hx
end
theorem x_new500 {w0 w : World} (hb : Below w0.heap.size w0 w) : Calls Tryz.prog 31 #[.int .i64 500] w (fun e w' => ∃ P, e = .returned (Pq P) ∧ BrX w0 w' P (fun b => b < w.heap.size) fresh 500 0 ∧ Below w.heap.size w w' ∧ w.heap.size ≤ P) := x_new 500 (by decide) hb
theorem rb_new500 (lo : Nat) (w : World) (hlo : lo ≤ w.heap.size) : Calls Tryz.prog 32 #[.int .i64 500] w (fun e w' => ∃ D RS pl tag, e = .returned (Pq D) ∧ DB w' D lo RS pl tag fresh 500 ∧ Below w.heap.size w w' ∧ ∀ b, tag b ≠ 0 → w.heap.size ≤ b) := rb_new 500 lo w (by decide) hlo
theorem add_code {w0 w w' : World} {L : List Res} {X : Nat → Prop} {P : Nat} (h : Sys w0 w L X) (hn : BrX w0 w' P (fun b => b < w.heap.size) fresh 500 0) (hb : Below w.heap.size w w') : Sys w0 w' (L ++ [KB w0 P fresh 500 0]) X := by
 obtain ⟨O, h1, h2⟩ := KB.made hn
 exact h.add hb KB.stab h1 h2
theorem add_doc {w0 w w' : World} {L : List Res} {X : Nat → Prop} {D RS : Nat} {pl : Nat → Pd} {tag : Nat → Nat} (h : Sys w0 w L X) (hn : DB w' D w0.heap.size RS pl tag fresh 500) (hb : Below w.heap.size w w') (ht : ∀ b, tag b ≠ 0 → w.heap.size ≤ b) : Sys w0 w' (L ++ [KD w0 D RS fresh 500]) X :=
 h.add hb KD.stab ⟨pl, tag, hn, fun b => Iff.rfl⟩ ht
end Go.Proofs.YtgoddboicjfkcaaGreat.cb
