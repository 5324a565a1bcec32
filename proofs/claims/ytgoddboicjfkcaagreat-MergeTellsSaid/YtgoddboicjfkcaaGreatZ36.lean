/- Part 36 of what is known of the program's functions and of the document's words: contracts, and the mathematics beneath them. -/
import Derived.Test.YtgoddboicjfkcaaGreatProg
import Derived.Test.YtgoddboicjfkcaaGreatZ35
import Derived.BigQuiet
set_option linter.unusedVariables false
set_option linter.unusedSimpArgs false
set_option maxRecDepth 100000
set_option maxHeartbeats 8000000
namespace Go.Proofs.YtgoddboicjfkcaaGreat.cb
open Go.RowKit
open br
open bl (AB WR Pq U8)
structure C7 (w : World) (G : Nat) (l : Bool) (k d t n : Int) (a b : ByteArray) : Prop where
 c0 : w.cell? ⟨G, 0, none⟩ = some (.bool l)
 c1 : w.cell? ⟨G, 1, none⟩ = some (.int .i64 k)
 c2 : w.cell? ⟨G, 2, none⟩ = some (.int .i64 d)
 c3 : w.cell? ⟨G, 3, none⟩ = some (.int .i64 t)
 c4 : w.cell? ⟨G, 4, none⟩ = some (.int .i64 n)
 c5 : w.cell? ⟨G, 5, none⟩ = some (.string a)
 c6 : w.cell? ⟨G, 6, none⟩ = some (.string b)
theorem C7.same {w w' : World} {G : Nat} {l : Bool} {k d t n : Int} {a b : ByteArray} (h : C7 w G l k d t n a b) (e : w'.heap[G]? = w.heap[G]?) : C7 w' G l k d t n a b :=
 ⟨(World.cell?_of_block (a := ⟨G, 0, none⟩) e).trans h.c0, (World.cell?_of_block (a := ⟨G, 1, none⟩) e).trans h.c1, (World.cell?_of_block (a := ⟨G, 2, none⟩) e).trans h.c2, (World.cell?_of_block (a := ⟨G, 3, none⟩) e).trans h.c3, (World.cell?_of_block (a := ⟨G, 4, none⟩) e).trans h.c4, (World.cell?_of_block (a := ⟨G, 5, none⟩) e).trans h.c5, (World.cell?_of_block (a := ⟨G, 6, none⟩) e).trans h.c6⟩
structure C4 (w : World) (G P1 P2 D1 D2 : Nat) : Prop where
 c0 : w.cell? ⟨G, 0, none⟩ = some (Pq P1)
 c1 : w.cell? ⟨G, 1, none⟩ = some (Pq P2)
 c2 : w.cell? ⟨G, 2, none⟩ = some (Pq D1)
 c3 : w.cell? ⟨G, 3, none⟩ = some (Pq D2)
theorem C4.same {w w' : World} {G P1 P2 D1 D2 : Nat} (h : C4 w G P1 P2 D1 D2) (e : w'.heap[G]? = w.heap[G]?) : C4 w' G P1 P2 D1 D2 :=
 ⟨(World.cell?_of_block (a := ⟨G, 0, none⟩) e).trans h.c0, (World.cell?_of_block (a := ⟨G, 1, none⟩) e).trans h.c1, (World.cell?_of_block (a := ⟨G, 2, none⟩) e).trans h.c2, (World.cell?_of_block (a := ⟨G, 3, none⟩) e).trans h.c3⟩
theorem C4.new (w : World) (P1 P2 D1 D2 : Nat) : C4 (w.alloc (.cells #[Pq P1, Pq P2, Pq D1, Pq D2] 34)) w.heap.size P1 P2 D1 D2 := ⟨by simp, by simp, by simp, by simp⟩
def StepB (x : Act7) (S S' : BS) : Prop :=
 (x.kind = 0 → S' = (S.make x.d x.a x.n x.b).2) ∧ (x.kind = 1 → S' = (S.link x.d x.a x.t).2) ∧ (x.kind = 2 → S' = (S.unlink x.d x.a).2) ∧ (x.kind = 3 → S' = (S.mark x.d x.n).2) ∧
 (x.kind = 4 → ∃ p err, WrI S 500 x.d 0 x.b.size (sF x.b) p err S') ∧ (x.kind = 5 → S' = (S.rename x.d x.a x.t x.b).2) ∧ (x.kind ≠ 0 → x.kind ≠ 1 → x.kind ≠ 2 → x.kind ≠ 3 → x.kind ≠ 4 → x.kind ≠ 5 → S' = S)
def Step (x : Act7) (U L U' L' : BS) : Prop := (x.low = true → U' = U ∧ StepB x L L') ∧ (x.low = false → L' = L ∧ StepB x U U')
def Run (F : Nat → Act7) : Nat → BS → BS → Prop
 | 0, U, L => U = fresh ∧ L = fresh
 | k + 1, U, L => ∃ U0 L0, Run F k U0 L0 ∧ Step (F k) U0 L0 U L
theorem step_up {x : Act7} {U L U' : BS} (h : x.low = false) (hs : StepB x U U') : Step x U L U' L := ⟨fun e => (by rw [h] at e; cases e), fun _ => ⟨rfl, hs⟩⟩
theorem step_low {x : Act7} {U L L' : BS} (h : x.low = true) (hs : StepB x L L') : Step x U L U L' := ⟨fun _ => ⟨rfl, hs⟩, fun e => (by rw [h] at e; cases e)⟩
theorem run_next {F : Nat → Act7} {k : Nat} {U L U' L' : BS} (h : Run F k U L) (hs : Step (F k) U L U' L') : Run F (k + 1) U' L' := ⟨U, L, h, hs⟩
def BuildR (w0 : World) (n : Nat) (F : Nat → Act7) (e : Ending) (w' : World) : Prop :=
 (∃ v, e = .returned (.tuple #[v, .bool false]) ∧ Below w0.heap.size w0 w' ∧ ∃ i, i < n ∧ 2048 < (F i).b.size) ∨ ∃ (G : Nat) (p : Pt) (U L : BS), e = .returned (.tuple #[Pq G, .bool true]) ∧ Bt w0 w' G p U L ∧ Run F (min n 80) U L
theorem build_fin {w0 w' : World} {n k G : Nat} {F : Nat → Act7} {p : Pt} {U L : BS} (hk : k = min n 80) (h : Run F k U L) (hb : Bt w0 w' G p U L) : BuildR w0 n F (.returned (.tuple #[Pq G, .bool true])) w' := .inr ⟨G, p, U, L, rfl, hb, by rw [← hk]; exact h⟩
theorem build_run (A : Option Addr) (n c : Nat) (F : Nat → Act7) (w0 w : World) (hn : n ≤ maxLen) (hF : Acts w0 w0.heap.size A n F) (hb : Below w0.heap.size w0 w) :
  Calls Tryz.prog 13 #[.slice A n c] w (BuildR w0 n F) := by
 have hnm : n ≤ 9223372036854775807 := hn
 have HA := Lib.hid hF
 have HN := Lib.hid (fun W (h : Below w0.heap.size w0 W) => x_new500 h)
 have HM := Lib.hid (fun W (hlo : w0.heap.size ≤ W.heap.size) => rb_new500 w0.heap.size W hlo)
 have HB := Lib.hid hb
 clear hn hF hb
 go_enter Tryz.func13, Tryz.ntmps13
 go_wp2_with fail
 refine (HN.out _ HB.out).mono ?_
 rintro e w2 ⟨P1, rfl, h2, b2, -⟩
 have S1 := Lib.hid (add_code (Sys.nil HB.out) h2 b2)
 clear h2 b2 HB
 go_wp2_with fail
 refine (HN.out _ S1.out.bel).mono ?_
 rintro e w3 ⟨P2, rfl, h2, b2, -⟩
 have S2 := Lib.hid (add_code S1.out h2 b2)
 clear h2 b2 S1 HN
 go_wp2_with fail
 refine (HM.out _ S2.out.bel.size).mono ?_
 rintro e w4 ⟨D1, R1, pl1, tg1, rfl, h2, b2, t2⟩
 have S3 := Lib.hid (add_doc S2.out h2 b2 t2)
 clear h2 b2 t2 S2
 go_wp2_with fail
 refine (HM.out _ S3.out.bel.size).mono ?_
 rintro e w5 ⟨D2, R2, pl2, tg2, rfl, h2, b2, t2⟩
 have S4 := Lib.hid (add_doc S3.out h2 b2 t2)
 clear h2 b2 t2 S3 HM
 have HW := Lib.hid (C4.new w5 P1 P2 D1 D2)
 have HZ := Lib.hid (show Q4 w0 (w5.alloc (.cells #[Pq P1, Pq P2, Pq D1, Pq D2] 34)) ⟨P1, P2, D1, R1, D2, R2⟩ fresh fresh fresh fresh 0 0 (fun b => b = w5.heap.size) from Q4.box (show Q4 w0 w5 ⟨P1, P2, D1, R1, D2, R2⟩ fresh fresh fresh fresh 0 0 _ from S4.out) (dn.below_alloc _ _) fun b hb => .inr ⟨by omega, by rw [World.size_alloc]; omega⟩)
 obtain ⟨w6, hw6⟩ : ∃ w6, w5.alloc (.cells #[Pq P1, Pq P2, Pq D1, Pq D2] 34) = w6 := ⟨_, rfl⟩
 obtain ⟨G, hG⟩ : ∃ G, w5.heap.size = G := ⟨_, rfl⟩
 rw [hw6, hG] at HW HZ
 have g0 := HW.out.c0
 have g1 := HW.out.c1
 clear S4
 skip
 go_wp2_with fail
 go_loopg [5] 80 (fun g s5 wr => ∃ (k : Nat) (U L : BS), g + k = 80 ∧ k ≤ n ∧ s5 = .int .i64 k ∧ Hid (Q4 w0 wr ⟨P1, P2, D1, R1, D2, R2⟩ U L U L k k (fun b => b = G)) ∧ Hid (C4 wr G P1 P2 D1 D2) ∧ Hid (Run F k U L))
 case atStart => exact ⟨0, fresh, fresh, by omega, by omega, rfl, HZ, HW, Lib.hid ⟨rfl, rfl⟩⟩
 case round =>
  clear HZ HW g0 g1
  obtain ⟨k, U, L, hgk, hk, rfl, HD, HW, HRN⟩ := hrel
  by_cases hgo : k < n ∧ k < 80
  ·obtain ⟨hkn, hk2⟩ := hgo
   have hbr := HD.out.bel
   obtain ⟨b, off, rfl, hbl, f0, f1, f2, f3, f4, f5, f6, hsa, hsb⟩ := (HA.out.below hbr) k hkn
   have ha : (F k).a.size ≤ 9223372036854775807 := hsa
   have hlen : ((F k).b.size : Int) ≤ 9223372036854775807 := by unfold maxLen at hsb; omega
   have hblr : b < wr.heap.size := Nat.lt_of_lt_of_le hbl hbr.size
   have HST := Lib.hid (fun U' L' (hs : Step (F k) U L U' L') => run_next HRN.out hs)
   have HBG := Lib.hid (fun (h : (2048 : Int) < ((F k).b.size : Int)) => (⟨k, hkn, by omega⟩ : ∃ i, i < n ∧ 2048 < (F i).b.size))
   clear HRN
   generalize F k = x at *
   obtain ⟨xl, xk, xd, xt, xn, xa, xb⟩ := x
   dsimp only at f0 f1 f2 f3 f4 f5 f6 ha hlen
   clear hsa hsb hbr
   obtain ⟨w4, hw4⟩ : ∃ w4, wr.alloc (.cells #[.bool xl, .int .i64 xk, .int .i64 xd, .int .i64 xt, .int .i64 xn, .string xa, .string xb] 107) = w4 := ⟨_, rfl⟩
   obtain ⟨b0, b1, b2, b3, b4, b5, b6, hb4, hz4⟩ := box7 _ _ _ _ _ _ _ _ _ _ hw4.symm
   have H4 := Lib.hid (HD.out.box (Y := fun b => b = G ∨ b = wr.heap.size) hb4 (fun b hb => hb.elim .inl (fun e => .inr (by omega))))
   have HW4 := Lib.hid (HW.out.same (hb4.block G (HD.out.lt rfl)))
   have hG1 := HD.out.good1
   have hG2 := HD.out.good2
   have hH1 := HD.out.hold1 (by omega)
   have hH2 := HD.out.hold2 (by omega)
   obtain ⟨Gx, hGx⟩ : ∃ G, wr.heap.size = G := ⟨_, rfl⟩
   rw [hGx] at b0 b1 b2 b3 b4 b5 b6 H4
   have HC4 := Lib.hid (C7.mk b0 b1 b2 b3 b4 b5 b6)
   clear hb4 hz4 HD HW
   have u0 := HW4.out.c0
   have u1 := HW4.out.c1
   have u2 := HW4.out.c2
   have u3 := HW4.out.c3
   by_cases hlg : (2048 : Int) < (xb.size : Int)
   ·have HE := Lib.hid H4.out.bel
    clear ha hG1 hG2 hH1 hH2
    go_wp2_with fail
    try rw [Exit.noGoto_ret]
    go_ret2
    exact .inl ⟨_, rfl, HE.out, HBG.out hlg⟩
   have hb : xb.size ≤ 9223372036854775807 := by omega
   have hbs : xb.size ≤ 1000000 := by omega
   go_wp2_with fail
   go_quiet (fail)
   rename_i nq
   obtain ⟨w5, hw5⟩ : ∃ w5, w4.drewN nq = w5 := ⟨_, rfl⟩
   have eh5 : w5.heap = w4.heap := by rw [← hw5]; rfl
   have H5 := Lib.hid (show Q4 w0 w5 ⟨P1, P2, D1, R1, D2, R2⟩ U L U L k k (fun b => b = G ∨ b = Gx) from H4.out.below (by rw [← hw5]; exact dn.below_drewN (Below.refl _ _) nq))
   have HC5 := Lib.hid (HC4.out.same (w' := w5) (by rw [eh5]))
   have HW5 := Lib.hid (HW4.out.same (w' := w5) (by rw [eh5]))
   rw [hw5]
   clear hw5 eh5 hw4 hGx f0 f1 f2 f3 f4 f5 f6 b0 b1 b2 b3 b4 b5 b6 u0 u1 u2 u3 H4 HC4 HW4 HA hblr hbl
   obtain ⟨b0, b1, b2, b3, b4, b5, b6⟩ := HC5.out
   obtain ⟨u0, u1, u2, u3⟩ := HW5.out
   cases xl
   case false =>
    have H6 := H5
    have HC6 := HC5
    have HW6 := HW5
    clear H5 HC5 HW5
    by_cases e0 : xk = 0
    ·subst e0
     have HC := Lib.hid (fun W (h : Q4 w0 W ⟨P1, P2, D1, R1, D2, R2⟩ U L U L k k (fun b => b = G ∨ b = Gx)) => (h.code1 (fun O ho => cb.kb_make ho (by omega) xd xa xn xb ha hb) : Calls Tryz.prog 33 #[Pq P1, .int .i64 xd, .string xa, .int .i64 xn, .string xb] W _))
     have HDo := Lib.hid (fun W (h : Q4 w0 W ⟨P1, P2, D1, R1, D2, R2⟩ (U.make xd xa xn xb).2 L U L (k + 1) k (fun b => b = G ∨ b = Gx)) => (h.doc1 (fun O ho => cb.kd_make ho hG1 (by decide) hH1 xd xa xn xb ha hb) : Calls Tryz.prog 34 #[Pq D1, .int .i64 xd, .string xa, .int .i64 xn, .string xb] W _))
     have HRS8 := Lib.hid (HST.out (U.make xd xa xn xb).2 L (step_up rfl ⟨fun _ => rfl, (fun (e : (0 : Int) = 1) => absurd e (by decide)), (fun (e : (0 : Int) = 2) => absurd e (by decide)), (fun (e : (0 : Int) = 3) => absurd e (by decide)), (fun (e : (0 : Int) = 4) => absurd e (by decide)), (fun (e : (0 : Int) = 5) => absurd e (by decide)), fun a0 a1 a2 a3 a4 a5 => absurd rfl a0⟩))
     generalize U.make xd xa xn xb = r at HC HDo HRS8
     obtain ⟨⟨r1, r2⟩, S'⟩ := r
     dsimp only at HC HDo
     clear ha hb hbs hG1 hG2 hH1 hH2
     go_wp2_with fail
     refine (HC.out _ H6.out).mono ?_
     rintro e w7 ⟨rfl, h7, hs7⟩
     have HC7 := Lib.hid (HC6.out.same (hs7 Gx (.inr rfl)))
     have HW7 := Lib.hid (HW6.out.same (hs7 G (.inl rfl)))
     have H7 := Lib.hid h7
     clear h7 hs7 HC H6 HC6 HW6 b0 b1 b2 b3 b4 b5 b6
     obtain ⟨b0, b1, b2, b3, b4, b5, b6⟩ := HC7.out
     go_wp2_with fail
     refine (HDo.out _ H7.out).mono ?_
     rintro e w8 ⟨rfl, h8, hs8⟩
     have HW8 := Lib.hid (HW7.out.same (hs8 G (.inl rfl)))
     have H8 := Lib.hid ((h8.up (show _ ≤ k + 1 by omega) (show _ ≤ k + 1 by omega)).sub (Y := fun b => b = G) fun b hb => .inl hb)
     clear h8 hs8 HDo H7 HC7 HW7 b0 b1 b2 b3 b4 b5 b6
     go_wp2_with fail
     go_roundg (gk - 1)
     case measure => omega
     case rel => exact ⟨k + 1, S', L, by omega, by omega, by go_num, H8, HW8, HRS8⟩
    by_cases e1 : xk = 1
    ·subst e1
     have HC := Lib.hid (fun W (h : Q4 w0 W ⟨P1, P2, D1, R1, D2, R2⟩ U L U L k k (fun b => b = G ∨ b = Gx)) => (h.code1 (fun O ho => cb.kb_link ho (by omega) xd xa xt ha) : Calls Tryz.prog 64 #[Pq P1, .int .i64 xd, .string xa, .int .i64 xt] W _))
     have HDo := Lib.hid (fun W (h : Q4 w0 W ⟨P1, P2, D1, R1, D2, R2⟩ (U.link xd xa xt).2 L U L (k + 1) k (fun b => b = G ∨ b = Gx)) => (h.doc1 (fun O ho => cb.kd_link ho hG1 (by decide) hH1 xd xa xt ha) : Calls Tryz.prog 65 #[Pq D1, .int .i64 xd, .string xa, .int .i64 xt] W _))
     have HRS8 := Lib.hid (HST.out (U.link xd xa xt).2 L (step_up rfl ⟨(fun (e : (1 : Int) = 0) => absurd e (by decide)), fun _ => rfl, (fun (e : (1 : Int) = 2) => absurd e (by decide)), (fun (e : (1 : Int) = 3) => absurd e (by decide)), (fun (e : (1 : Int) = 4) => absurd e (by decide)), (fun (e : (1 : Int) = 5) => absurd e (by decide)), fun a0 a1 a2 a3 a4 a5 => absurd rfl a1⟩))
     generalize U.link xd xa xt = r at HC HDo HRS8
     obtain ⟨r1, S'⟩ := r
     dsimp only at HC HDo
     clear ha hb hbs hG1 hG2 hH1 hH2
     go_wp2_with fail
     refine (HC.out _ H6.out).mono ?_
     rintro e w7 ⟨rfl, h7, hs7⟩
     have HC7 := Lib.hid (HC6.out.same (hs7 Gx (.inr rfl)))
     have HW7 := Lib.hid (HW6.out.same (hs7 G (.inl rfl)))
     have H7 := Lib.hid h7
     clear h7 hs7 HC H6 HC6 HW6 b0 b1 b2 b3 b4 b5 b6
     obtain ⟨b0, b1, b2, b3, b4, b5, b6⟩ := HC7.out
     go_wp2_with fail
     refine (HDo.out _ H7.out).mono ?_
     rintro e w8 ⟨rfl, h8, hs8⟩
     have HW8 := Lib.hid (HW7.out.same (hs8 G (.inl rfl)))
     have H8 := Lib.hid ((h8.up (show _ ≤ k + 1 by omega) (show _ ≤ k + 1 by omega)).sub (Y := fun b => b = G) fun b hb => .inl hb)
     clear h8 hs8 HDo H7 HC7 HW7 b0 b1 b2 b3 b4 b5 b6
     go_wp2_with fail
     go_roundg (gk - 1)
     case measure => omega
     case rel => exact ⟨k + 1, S', L, by omega, by omega, by go_num, H8, HW8, HRS8⟩
    by_cases e2 : xk = 2
    ·subst e2
     have HC := Lib.hid (fun W (h : Q4 w0 W ⟨P1, P2, D1, R1, D2, R2⟩ U L U L k k (fun b => b = G ∨ b = Gx)) => (h.code1 (fun O ho => cb.kb_unlink ho (by omega) xd xa) : Calls Tryz.prog 35 #[Pq P1, .int .i64 xd, .string xa] W _))
     have HDo := Lib.hid (fun W (h : Q4 w0 W ⟨P1, P2, D1, R1, D2, R2⟩ (U.unlink xd xa).2 L U L (k + 1) k (fun b => b = G ∨ b = Gx)) => (h.doc1 (fun O ho => cb.kd_unlink ho hG1 (by decide) hH1 xd xa) : Calls Tryz.prog 36 #[Pq D1, .int .i64 xd, .string xa] W _))
     have HRS8 := Lib.hid (HST.out (U.unlink xd xa).2 L (step_up rfl ⟨(fun (e : (2 : Int) = 0) => absurd e (by decide)), (fun (e : (2 : Int) = 1) => absurd e (by decide)), fun _ => rfl, (fun (e : (2 : Int) = 3) => absurd e (by decide)), (fun (e : (2 : Int) = 4) => absurd e (by decide)), (fun (e : (2 : Int) = 5) => absurd e (by decide)), fun a0 a1 a2 a3 a4 a5 => absurd rfl a2⟩))
     generalize U.unlink xd xa = r at HC HDo HRS8
     obtain ⟨r1, S'⟩ := r
     dsimp only at HC HDo
     clear ha hb hbs hG1 hG2 hH1 hH2
     go_wp2_with fail
     refine (HC.out _ H6.out).mono ?_
     rintro e w7 ⟨rfl, h7, hs7⟩
     have HC7 := Lib.hid (HC6.out.same (hs7 Gx (.inr rfl)))
     have HW7 := Lib.hid (HW6.out.same (hs7 G (.inl rfl)))
     have H7 := Lib.hid h7
     clear h7 hs7 HC H6 HC6 HW6 b0 b1 b2 b3 b4 b5 b6
     obtain ⟨b0, b1, b2, b3, b4, b5, b6⟩ := HC7.out
     go_wp2_with fail
     refine (HDo.out _ H7.out).mono ?_
     rintro e w8 ⟨rfl, h8, hs8⟩
     have HW8 := Lib.hid (HW7.out.same (hs8 G (.inl rfl)))
     have H8 := Lib.hid ((h8.up (show _ ≤ k + 1 by omega) (show _ ≤ k + 1 by omega)).sub (Y := fun b => b = G) fun b hb => .inl hb)
     clear h8 hs8 HDo H7 HC7 HW7 b0 b1 b2 b3 b4 b5 b6
     go_wp2_with fail
     go_roundg (gk - 1)
     case measure => omega
     case rel => exact ⟨k + 1, S', L, by omega, by omega, by go_num, H8, HW8, HRS8⟩
    by_cases e3 : xk = 3
    ·subst e3
     have HC := Lib.hid (fun W (h : Q4 w0 W ⟨P1, P2, D1, R1, D2, R2⟩ U L U L k k (fun b => b = G ∨ b = Gx)) => (h.code1 (fun O ho => cb.kb_mark ho (by omega) xd xn) : Calls Tryz.prog 37 #[Pq P1, .int .i64 xd, .int .i64 xn] W _))
     have HDo := Lib.hid (fun W (h : Q4 w0 W ⟨P1, P2, D1, R1, D2, R2⟩ (U.mark xd xn).2 L U L (k + 1) k (fun b => b = G ∨ b = Gx)) => (h.doc1 (fun O ho => cb.kd_mark ho hG1 (by decide) hH1 xd xn) : Calls Tryz.prog 38 #[Pq D1, .int .i64 xd, .int .i64 xn] W _))
     have HRS8 := Lib.hid (HST.out (U.mark xd xn).2 L (step_up rfl ⟨(fun (e : (3 : Int) = 0) => absurd e (by decide)), (fun (e : (3 : Int) = 1) => absurd e (by decide)), (fun (e : (3 : Int) = 2) => absurd e (by decide)), fun _ => rfl, (fun (e : (3 : Int) = 4) => absurd e (by decide)), (fun (e : (3 : Int) = 5) => absurd e (by decide)), fun a0 a1 a2 a3 a4 a5 => absurd rfl a3⟩))
     generalize U.mark xd xn = r at HC HDo HRS8
     obtain ⟨r1, S'⟩ := r
     dsimp only at HC HDo
     clear ha hb hbs hG1 hG2 hH1 hH2
     go_wp2_with fail
     refine (HC.out _ H6.out).mono ?_
     rintro e w7 ⟨rfl, h7, hs7⟩
     have HC7 := Lib.hid (HC6.out.same (hs7 Gx (.inr rfl)))
     have HW7 := Lib.hid (HW6.out.same (hs7 G (.inl rfl)))
     have H7 := Lib.hid h7
     clear h7 hs7 HC H6 HC6 HW6 b0 b1 b2 b3 b4 b5 b6
     obtain ⟨b0, b1, b2, b3, b4, b5, b6⟩ := HC7.out
     go_wp2_with fail
     refine (HDo.out _ H7.out).mono ?_
     rintro e w8 ⟨rfl, h8, hs8⟩
     have HW8 := Lib.hid (HW7.out.same (hs8 G (.inl rfl)))
     have H8 := Lib.hid ((h8.up (show _ ≤ k + 1 by omega) (show _ ≤ k + 1 by omega)).sub (Y := fun b => b = G) fun b hb => .inl hb)
     clear h8 hs8 HDo H7 HC7 HW7 b0 b1 b2 b3 b4 b5 b6
     go_wp2_with fail
     go_roundg (gk - 1)
     case measure => omega
     case rel => exact ⟨k + 1, S', L, by omega, by omega, by go_num, H8, HW8, HRS8⟩
    by_cases e5 : xk = 5
    ·subst e5
     have HC := Lib.hid (fun W (h : Q4 w0 W ⟨P1, P2, D1, R1, D2, R2⟩ U L U L k k (fun b => b = G ∨ b = Gx)) => (h.code1 (fun O ho => cb.kb_rename ho (by omega) xd xa xt xb hb) : Calls Tryz.prog 66 #[Pq P1, .int .i64 xd, .string xa, .int .i64 xt, .string xb] W _))
     have HDo := Lib.hid (fun W (h : Q4 w0 W ⟨P1, P2, D1, R1, D2, R2⟩ (U.rename xd xa xt xb).2 L U L (k + 1) k (fun b => b = G ∨ b = Gx)) => (h.doc1 (fun O ho => cb.kd_rename ho hG1 (by decide) hH1 xd xa xt xb hb) : Calls Tryz.prog 67 #[Pq D1, .int .i64 xd, .string xa, .int .i64 xt, .string xb] W _))
     have HRS8 := Lib.hid (HST.out (U.rename xd xa xt xb).2 L (step_up rfl ⟨(fun (e : (5 : Int) = 0) => absurd e (by decide)), (fun (e : (5 : Int) = 1) => absurd e (by decide)), (fun (e : (5 : Int) = 2) => absurd e (by decide)), (fun (e : (5 : Int) = 3) => absurd e (by decide)), (fun (e : (5 : Int) = 4) => absurd e (by decide)), fun _ => rfl, fun a0 a1 a2 a3 a4 a5 => absurd rfl a5⟩))
     generalize U.rename xd xa xt xb = r at HC HDo HRS8
     obtain ⟨r1, S'⟩ := r
     dsimp only at HC HDo
     clear ha hb hbs hG1 hG2 hH1 hH2
     go_wp2_with fail
     refine (HC.out _ H6.out).mono ?_
     rintro e w7 ⟨rfl, h7, hs7⟩
     have HC7 := Lib.hid (HC6.out.same (hs7 Gx (.inr rfl)))
     have HW7 := Lib.hid (HW6.out.same (hs7 G (.inl rfl)))
     have H7 := Lib.hid h7
     clear h7 hs7 HC H6 HC6 HW6 b0 b1 b2 b3 b4 b5 b6
     obtain ⟨b0, b1, b2, b3, b4, b5, b6⟩ := HC7.out
     go_wp2_with fail
     refine (HDo.out _ H7.out).mono ?_
     rintro e w8 ⟨rfl, h8, hs8⟩
     have HW8 := Lib.hid (HW7.out.same (hs8 G (.inl rfl)))
     have H8 := Lib.hid ((h8.up (show _ ≤ k + 1 by omega) (show _ ≤ k + 1 by omega)).sub (Y := fun b => b = G) fun b hb => .inl hb)
     clear h8 hs8 HDo H7 HC7 HW7 b0 b1 b2 b3 b4 b5 b6
     go_wp2_with fail
     go_roundg (gk - 1)
     case measure => omega
     case rel => exact ⟨k + 1, S', L, by omega, by omega, by go_num, H8, HW8, HRS8⟩
    by_cases e4 : xk = 4
    ·subst e4
     obtain ⟨c5, w7, hcv, hc1, hc2, hb7, hlt7, hf7⟩ := conv_bytes w5 xb hbs
     have HQ7 := Lib.hid (show Q4 w0 w7 ⟨P1, P2, D1, R1, D2, R2⟩ U L U L k k (fun b => (b = G ∨ b = Gx) ∨ b = w5.heap.size) from H6.out.box hb7 fun b hb => hb.elim .inl fun e => .inr (by omega))
     have HX := Lib.hid (show Calls Tryz.prog 39 #[Pq P1, .int .i64 xd, .int .i64 0, .slice (some ⟨w5.heap.size, 0, none⟩) xb.size c5] w7 _ from HQ7.out.w1 xd 0 _ xb.size c5 (sF xb) (fun j hj => ⟨w5.heap.size, 0, rfl, .inr rfl, hf7 j hj⟩) hc1 hc2)
     have HG7 := Lib.hid hG1
     have HBS := Lib.hid hbs
     clear hc1 hc2 hf7 hlt7 ha hb hbs hG1 hG2 hH1 hH2
     go_wp2_with fail
     refine HX.out.mono ?_
     rintro e w8 ⟨⟨q, err, S'⟩, hw, rfl, h8, hs8⟩
     dsimp only at hw h8
     have HS8 := Lib.hid (fun g (hg : g = G ∨ g = Gx) => (hs8 g (.inl hg)).trans (hb7.block g (H6.out.lt hg)))
     have HC8 := Lib.hid (HC6.out.same (HS8.out Gx (.inr rfl)))
     have HW8 := Lib.hid (HW6.out.same (HS8.out G (.inl rfl)))
     have H8 := Lib.hid (h8.sub (Y := (fun b => b = G ∨ b = Gx)) fun b hb => .inl hb)
     have HRS8 := Lib.hid (HST.out S' L (step_up rfl ⟨(fun (e : (4 : Int) = 0) => absurd e (by decide)), (fun (e : (4 : Int) = 1) => absurd e (by decide)), (fun (e : (4 : Int) = 2) => absurd e (by decide)), (fun (e : (4 : Int) = 3) => absurd e (by decide)), fun _ => ⟨q, err, hw⟩, (fun (e : (4 : Int) = 5) => absurd e (by decide)), fun a0 a1 a2 a3 a4 a5 => absurd rfl a4⟩))
     have HWW := Lib.hid hw
     clear h8 hs8 HX H6 HC6 HW6 HQ7 HS8 hw hb7 hcv b0 b1 b2 b3 b4 b5 b6
     obtain ⟨b0, b1, b2, b3, b4, b5, b6⟩ := HC8.out
     obtain ⟨c6, w9, hcv, hc1, hc2, hb9, hlt9, hf9⟩ := conv_bytes w8 xb HBS.out
     have HQ9 := Lib.hid (show Q4 w0 w9 ⟨P1, P2, D1, R1, D2, R2⟩ S' L U L (k + 1) k (fun b => (b = G ∨ b = Gx) ∨ b = w8.heap.size) from H8.out.box hb9 fun b hb => hb.elim .inl fun e => .inr (by omega))
     have HX := Lib.hid (show Calls Tryz.prog 40 #[Pq D1, .int .i64 xd, .int .i64 0, .slice (some ⟨w8.heap.size, 0, none⟩) xb.size c6] w9 _ from HQ9.out.v1 HG7.out xd 0 _ xb.size c6 (sF xb) (fun j hj => ⟨w8.heap.size, 0, rfl, .inr rfl, hf9 j hj⟩) hc1 hc2 HWW.out)
     clear hc1 hc2 hf9 hlt9
     go_wp2_with fail
     refine HX.out.mono ?_
     rintro e w10 ⟨rfl, h10, hs10⟩
     have HW10 := Lib.hid (HW8.out.same ((hs10 G (.inl (.inl rfl))).trans (hb9.block G (H8.out.lt (.inl rfl)))))
     have H10 := Lib.hid ((h10.up (show _ ≤ k + 1 by omega) (show _ ≤ k + 1 by omega)).sub (Y := fun b => b = G) fun b hb => .inl (.inl hb))
     clear h10 hs10 HX H8 HC8 HW8 HQ9 hb9 hcv HWW HG7 HBS b0 b1 b2 b3 b4 b5 b6
     go_wp2_with fail
     go_roundg (gk - 1)
     case measure => omega
     case rel => exact ⟨k + 1, S', L, by omega, by omega, by go_num, H10, HW10, HRS8⟩
    have q0 : (xk == 0) = false := by simpa using e0
    have q1 : (xk == 1) = false := by simpa using e1
    have q2 : (xk == 2) = false := by simpa using e2
    have q3 : (xk == 3) = false := by simpa using e3
    have q4 : (xk == 4) = false := by simpa using e4
    have q5 : (xk == 5) = false := by simpa using e5
    have H8 := Lib.hid ((H6.out.up (show k ≤ k + 1 by omega) (show k ≤ k + 1 by omega)).sub (Y := fun b => b = G) fun b hb => .inl hb)
    have HRS8 := Lib.hid (HST.out U L (step_up rfl ⟨fun e => absurd e e0, fun e => absurd e e1, fun e => absurd e e2, fun e => absurd e e3, fun e => absurd e e4, fun e => absurd e e5, fun _ _ _ _ _ _ => rfl⟩))
    clear ha hb hbs hG1 hG2 hH1 hH2 e0 e1 e2 e3 e4 e5 H6 HC6
    go_wp2_with fail
    go_roundg (gk - 1)
    case measure => omega
    case rel => exact ⟨k + 1, U, L, by omega, by omega, by go_num, H8, HW6, HRS8⟩
   case true =>
    go_wp2_with fail
    go_quiet (fail)
    rename_i nq
    obtain ⟨w6, hw6⟩ : ∃ w6, w5.drewN nq = w6 := ⟨_, rfl⟩
    have eh6 : w6.heap = w5.heap := by rw [← hw6]; rfl
    have H6 := Lib.hid (show Q4 w0 w6 ⟨P1, P2, D1, R1, D2, R2⟩ U L U L k k (fun b => b = G ∨ b = Gx) from H5.out.below (by rw [← hw6]; exact dn.below_drewN (Below.refl _ _) nq))
    have HC6 := Lib.hid (HC5.out.same (w' := w6) (by rw [eh6]))
    have HW6 := Lib.hid (HW5.out.same (w' := w6) (by rw [eh6]))
    rw [hw6]
    clear hw6 eh6 b0 b1 b2 b3 b4 b5 b6 u0 u1 u2 u3 H5 HC5 HW5
    obtain ⟨b0, b1, b2, b3, b4, b5, b6⟩ := HC6.out
    by_cases e0 : xk = 0
    ·subst e0
     have HC := Lib.hid (fun W (h : Q4 w0 W ⟨P1, P2, D1, R1, D2, R2⟩ U L U L k k (fun b => b = G ∨ b = Gx)) => (h.code2 (fun O ho => cb.kb_make ho (by omega) xd xa xn xb ha hb) : Calls Tryz.prog 33 #[Pq P2, .int .i64 xd, .string xa, .int .i64 xn, .string xb] W _))
     have HDo := Lib.hid (fun W (h : Q4 w0 W ⟨P1, P2, D1, R1, D2, R2⟩ U (L.make xd xa xn xb).2 U L k (k + 1) (fun b => b = G ∨ b = Gx)) => (h.doc2 (fun O ho => cb.kd_make ho hG2 (by decide) hH2 xd xa xn xb ha hb) : Calls Tryz.prog 34 #[Pq D2, .int .i64 xd, .string xa, .int .i64 xn, .string xb] W _))
     have HRS8 := Lib.hid (HST.out U (L.make xd xa xn xb).2 (step_low rfl ⟨fun _ => rfl, (fun (e : (0 : Int) = 1) => absurd e (by decide)), (fun (e : (0 : Int) = 2) => absurd e (by decide)), (fun (e : (0 : Int) = 3) => absurd e (by decide)), (fun (e : (0 : Int) = 4) => absurd e (by decide)), (fun (e : (0 : Int) = 5) => absurd e (by decide)), fun a0 a1 a2 a3 a4 a5 => absurd rfl a0⟩))
     generalize L.make xd xa xn xb = r at HC HDo HRS8
     obtain ⟨⟨r1, r2⟩, S'⟩ := r
     dsimp only at HC HDo
     clear ha hb hbs hG1 hG2 hH1 hH2
     go_wp2_with fail
     refine (HC.out _ H6.out).mono ?_
     rintro e w7 ⟨rfl, h7, hs7⟩
     have HC7 := Lib.hid (HC6.out.same (hs7 Gx (.inr rfl)))
     have HW7 := Lib.hid (HW6.out.same (hs7 G (.inl rfl)))
     have H7 := Lib.hid h7
     clear h7 hs7 HC H6 HC6 HW6 b0 b1 b2 b3 b4 b5 b6
     obtain ⟨b0, b1, b2, b3, b4, b5, b6⟩ := HC7.out
     go_wp2_with fail
     refine (HDo.out _ H7.out).mono ?_
     rintro e w8 ⟨rfl, h8, hs8⟩
     have HW8 := Lib.hid (HW7.out.same (hs8 G (.inl rfl)))
     have H8 := Lib.hid ((h8.up (show _ ≤ k + 1 by omega) (show _ ≤ k + 1 by omega)).sub (Y := fun b => b = G) fun b hb => .inl hb)
     clear h8 hs8 HDo H7 HC7 HW7 b0 b1 b2 b3 b4 b5 b6
     go_wp2_with fail
     go_roundg (gk - 1)
     case measure => omega
     case rel => exact ⟨k + 1, U, S', by omega, by omega, by go_num, H8, HW8, HRS8⟩
    by_cases e1 : xk = 1
    ·subst e1
     have HC := Lib.hid (fun W (h : Q4 w0 W ⟨P1, P2, D1, R1, D2, R2⟩ U L U L k k (fun b => b = G ∨ b = Gx)) => (h.code2 (fun O ho => cb.kb_link ho (by omega) xd xa xt ha) : Calls Tryz.prog 64 #[Pq P2, .int .i64 xd, .string xa, .int .i64 xt] W _))
     have HDo := Lib.hid (fun W (h : Q4 w0 W ⟨P1, P2, D1, R1, D2, R2⟩ U (L.link xd xa xt).2 U L k (k + 1) (fun b => b = G ∨ b = Gx)) => (h.doc2 (fun O ho => cb.kd_link ho hG2 (by decide) hH2 xd xa xt ha) : Calls Tryz.prog 65 #[Pq D2, .int .i64 xd, .string xa, .int .i64 xt] W _))
     have HRS8 := Lib.hid (HST.out U (L.link xd xa xt).2 (step_low rfl ⟨(fun (e : (1 : Int) = 0) => absurd e (by decide)), fun _ => rfl, (fun (e : (1 : Int) = 2) => absurd e (by decide)), (fun (e : (1 : Int) = 3) => absurd e (by decide)), (fun (e : (1 : Int) = 4) => absurd e (by decide)), (fun (e : (1 : Int) = 5) => absurd e (by decide)), fun a0 a1 a2 a3 a4 a5 => absurd rfl a1⟩))
     generalize L.link xd xa xt = r at HC HDo HRS8
     obtain ⟨r1, S'⟩ := r
     dsimp only at HC HDo
     clear ha hb hbs hG1 hG2 hH1 hH2
     go_wp2_with fail
     refine (HC.out _ H6.out).mono ?_
     rintro e w7 ⟨rfl, h7, hs7⟩
     have HC7 := Lib.hid (HC6.out.same (hs7 Gx (.inr rfl)))
     have HW7 := Lib.hid (HW6.out.same (hs7 G (.inl rfl)))
     have H7 := Lib.hid h7
     clear h7 hs7 HC H6 HC6 HW6 b0 b1 b2 b3 b4 b5 b6
     obtain ⟨b0, b1, b2, b3, b4, b5, b6⟩ := HC7.out
     go_wp2_with fail
     refine (HDo.out _ H7.out).mono ?_
     rintro e w8 ⟨rfl, h8, hs8⟩
     have HW8 := Lib.hid (HW7.out.same (hs8 G (.inl rfl)))
     have H8 := Lib.hid ((h8.up (show _ ≤ k + 1 by omega) (show _ ≤ k + 1 by omega)).sub (Y := fun b => b = G) fun b hb => .inl hb)
     clear h8 hs8 HDo H7 HC7 HW7 b0 b1 b2 b3 b4 b5 b6
     go_wp2_with fail
     go_roundg (gk - 1)
     case measure => omega
     case rel => exact ⟨k + 1, U, S', by omega, by omega, by go_num, H8, HW8, HRS8⟩
    by_cases e2 : xk = 2
    ·subst e2
     have HC := Lib.hid (fun W (h : Q4 w0 W ⟨P1, P2, D1, R1, D2, R2⟩ U L U L k k (fun b => b = G ∨ b = Gx)) => (h.code2 (fun O ho => cb.kb_unlink ho (by omega) xd xa) : Calls Tryz.prog 35 #[Pq P2, .int .i64 xd, .string xa] W _))
     have HDo := Lib.hid (fun W (h : Q4 w0 W ⟨P1, P2, D1, R1, D2, R2⟩ U (L.unlink xd xa).2 U L k (k + 1) (fun b => b = G ∨ b = Gx)) => (h.doc2 (fun O ho => cb.kd_unlink ho hG2 (by decide) hH2 xd xa) : Calls Tryz.prog 36 #[Pq D2, .int .i64 xd, .string xa] W _))
     have HRS8 := Lib.hid (HST.out U (L.unlink xd xa).2 (step_low rfl ⟨(fun (e : (2 : Int) = 0) => absurd e (by decide)), (fun (e : (2 : Int) = 1) => absurd e (by decide)), fun _ => rfl, (fun (e : (2 : Int) = 3) => absurd e (by decide)), (fun (e : (2 : Int) = 4) => absurd e (by decide)), (fun (e : (2 : Int) = 5) => absurd e (by decide)), fun a0 a1 a2 a3 a4 a5 => absurd rfl a2⟩))
     generalize L.unlink xd xa = r at HC HDo HRS8
     obtain ⟨r1, S'⟩ := r
     dsimp only at HC HDo
     clear ha hb hbs hG1 hG2 hH1 hH2
     go_wp2_with fail
     refine (HC.out _ H6.out).mono ?_
     rintro e w7 ⟨rfl, h7, hs7⟩
     have HC7 := Lib.hid (HC6.out.same (hs7 Gx (.inr rfl)))
     have HW7 := Lib.hid (HW6.out.same (hs7 G (.inl rfl)))
     have H7 := Lib.hid h7
     clear h7 hs7 HC H6 HC6 HW6 b0 b1 b2 b3 b4 b5 b6
     obtain ⟨b0, b1, b2, b3, b4, b5, b6⟩ := HC7.out
     go_wp2_with fail
     refine (HDo.out _ H7.out).mono ?_
     rintro e w8 ⟨rfl, h8, hs8⟩
     have HW8 := Lib.hid (HW7.out.same (hs8 G (.inl rfl)))
     have H8 := Lib.hid ((h8.up (show _ ≤ k + 1 by omega) (show _ ≤ k + 1 by omega)).sub (Y := fun b => b = G) fun b hb => .inl hb)
     clear h8 hs8 HDo H7 HC7 HW7 b0 b1 b2 b3 b4 b5 b6
     go_wp2_with fail
     go_roundg (gk - 1)
     case measure => omega
     case rel => exact ⟨k + 1, U, S', by omega, by omega, by go_num, H8, HW8, HRS8⟩
    by_cases e3 : xk = 3
    ·subst e3
     have HC := Lib.hid (fun W (h : Q4 w0 W ⟨P1, P2, D1, R1, D2, R2⟩ U L U L k k (fun b => b = G ∨ b = Gx)) => (h.code2 (fun O ho => cb.kb_mark ho (by omega) xd xn) : Calls Tryz.prog 37 #[Pq P2, .int .i64 xd, .int .i64 xn] W _))
     have HDo := Lib.hid (fun W (h : Q4 w0 W ⟨P1, P2, D1, R1, D2, R2⟩ U (L.mark xd xn).2 U L k (k + 1) (fun b => b = G ∨ b = Gx)) => (h.doc2 (fun O ho => cb.kd_mark ho hG2 (by decide) hH2 xd xn) : Calls Tryz.prog 38 #[Pq D2, .int .i64 xd, .int .i64 xn] W _))
     have HRS8 := Lib.hid (HST.out U (L.mark xd xn).2 (step_low rfl ⟨(fun (e : (3 : Int) = 0) => absurd e (by decide)), (fun (e : (3 : Int) = 1) => absurd e (by decide)), (fun (e : (3 : Int) = 2) => absurd e (by decide)), fun _ => rfl, (fun (e : (3 : Int) = 4) => absurd e (by decide)), (fun (e : (3 : Int) = 5) => absurd e (by decide)), fun a0 a1 a2 a3 a4 a5 => absurd rfl a3⟩))
     generalize L.mark xd xn = r at HC HDo HRS8
     obtain ⟨r1, S'⟩ := r
     dsimp only at HC HDo
     clear ha hb hbs hG1 hG2 hH1 hH2
     go_wp2_with fail
     refine (HC.out _ H6.out).mono ?_
     rintro e w7 ⟨rfl, h7, hs7⟩
     have HC7 := Lib.hid (HC6.out.same (hs7 Gx (.inr rfl)))
     have HW7 := Lib.hid (HW6.out.same (hs7 G (.inl rfl)))
     have H7 := Lib.hid h7
     clear h7 hs7 HC H6 HC6 HW6 b0 b1 b2 b3 b4 b5 b6
     obtain ⟨b0, b1, b2, b3, b4, b5, b6⟩ := HC7.out
     go_wp2_with fail
     refine (HDo.out _ H7.out).mono ?_
     rintro e w8 ⟨rfl, h8, hs8⟩
     have HW8 := Lib.hid (HW7.out.same (hs8 G (.inl rfl)))
     have H8 := Lib.hid ((h8.up (show _ ≤ k + 1 by omega) (show _ ≤ k + 1 by omega)).sub (Y := fun b => b = G) fun b hb => .inl hb)
     clear h8 hs8 HDo H7 HC7 HW7 b0 b1 b2 b3 b4 b5 b6
     go_wp2_with fail
     go_roundg (gk - 1)
     case measure => omega
     case rel => exact ⟨k + 1, U, S', by omega, by omega, by go_num, H8, HW8, HRS8⟩
    by_cases e5 : xk = 5
    ·subst e5
     have HC := Lib.hid (fun W (h : Q4 w0 W ⟨P1, P2, D1, R1, D2, R2⟩ U L U L k k (fun b => b = G ∨ b = Gx)) => (h.code2 (fun O ho => cb.kb_rename ho (by omega) xd xa xt xb hb) : Calls Tryz.prog 66 #[Pq P2, .int .i64 xd, .string xa, .int .i64 xt, .string xb] W _))
     have HDo := Lib.hid (fun W (h : Q4 w0 W ⟨P1, P2, D1, R1, D2, R2⟩ U (L.rename xd xa xt xb).2 U L k (k + 1) (fun b => b = G ∨ b = Gx)) => (h.doc2 (fun O ho => cb.kd_rename ho hG2 (by decide) hH2 xd xa xt xb hb) : Calls Tryz.prog 67 #[Pq D2, .int .i64 xd, .string xa, .int .i64 xt, .string xb] W _))
     have HRS8 := Lib.hid (HST.out U (L.rename xd xa xt xb).2 (step_low rfl ⟨(fun (e : (5 : Int) = 0) => absurd e (by decide)), (fun (e : (5 : Int) = 1) => absurd e (by decide)), (fun (e : (5 : Int) = 2) => absurd e (by decide)), (fun (e : (5 : Int) = 3) => absurd e (by decide)), (fun (e : (5 : Int) = 4) => absurd e (by decide)), fun _ => rfl, fun a0 a1 a2 a3 a4 a5 => absurd rfl a5⟩))
     generalize L.rename xd xa xt xb = r at HC HDo HRS8
     obtain ⟨r1, S'⟩ := r
     dsimp only at HC HDo
     clear ha hb hbs hG1 hG2 hH1 hH2
     go_wp2_with fail
     refine (HC.out _ H6.out).mono ?_
     rintro e w7 ⟨rfl, h7, hs7⟩
     have HC7 := Lib.hid (HC6.out.same (hs7 Gx (.inr rfl)))
     have HW7 := Lib.hid (HW6.out.same (hs7 G (.inl rfl)))
     have H7 := Lib.hid h7
     clear h7 hs7 HC H6 HC6 HW6 b0 b1 b2 b3 b4 b5 b6
     obtain ⟨b0, b1, b2, b3, b4, b5, b6⟩ := HC7.out
     go_wp2_with fail
     refine (HDo.out _ H7.out).mono ?_
     rintro e w8 ⟨rfl, h8, hs8⟩
     have HW8 := Lib.hid (HW7.out.same (hs8 G (.inl rfl)))
     have H8 := Lib.hid ((h8.up (show _ ≤ k + 1 by omega) (show _ ≤ k + 1 by omega)).sub (Y := fun b => b = G) fun b hb => .inl hb)
     clear h8 hs8 HDo H7 HC7 HW7 b0 b1 b2 b3 b4 b5 b6
     go_wp2_with fail
     go_roundg (gk - 1)
     case measure => omega
     case rel => exact ⟨k + 1, U, S', by omega, by omega, by go_num, H8, HW8, HRS8⟩
    by_cases e4 : xk = 4
    ·subst e4
     obtain ⟨c5, w7, hcv, hc1, hc2, hb7, hlt7, hf7⟩ := conv_bytes w6 xb hbs
     have HQ7 := Lib.hid (show Q4 w0 w7 ⟨P1, P2, D1, R1, D2, R2⟩ U L U L k k (fun b => (b = G ∨ b = Gx) ∨ b = w6.heap.size) from H6.out.box hb7 fun b hb => hb.elim .inl fun e => .inr (by omega))
     have HX := Lib.hid (show Calls Tryz.prog 39 #[Pq P2, .int .i64 xd, .int .i64 0, .slice (some ⟨w6.heap.size, 0, none⟩) xb.size c5] w7 _ from HQ7.out.w2 xd 0 _ xb.size c5 (sF xb) (fun j hj => ⟨w6.heap.size, 0, rfl, .inr rfl, hf7 j hj⟩) hc1 hc2)
     have HG7 := Lib.hid hG2
     have HBS := Lib.hid hbs
     clear hc1 hc2 hf7 hlt7 ha hb hbs hG1 hG2 hH1 hH2
     go_wp2_with fail
     refine HX.out.mono ?_
     rintro e w8 ⟨⟨q, err, S'⟩, hw, rfl, h8, hs8⟩
     dsimp only at hw h8
     have HS8 := Lib.hid (fun g (hg : g = G ∨ g = Gx) => (hs8 g (.inl hg)).trans (hb7.block g (H6.out.lt hg)))
     have HC8 := Lib.hid (HC6.out.same (HS8.out Gx (.inr rfl)))
     have HW8 := Lib.hid (HW6.out.same (HS8.out G (.inl rfl)))
     have H8 := Lib.hid (h8.sub (Y := (fun b => b = G ∨ b = Gx)) fun b hb => .inl hb)
     have HRS8 := Lib.hid (HST.out U S' (step_low rfl ⟨(fun (e : (4 : Int) = 0) => absurd e (by decide)), (fun (e : (4 : Int) = 1) => absurd e (by decide)), (fun (e : (4 : Int) = 2) => absurd e (by decide)), (fun (e : (4 : Int) = 3) => absurd e (by decide)), fun _ => ⟨q, err, hw⟩, (fun (e : (4 : Int) = 5) => absurd e (by decide)), fun a0 a1 a2 a3 a4 a5 => absurd rfl a4⟩))
     have HWW := Lib.hid hw
     clear h8 hs8 HX H6 HC6 HW6 HQ7 HS8 hw hb7 hcv b0 b1 b2 b3 b4 b5 b6
     obtain ⟨b0, b1, b2, b3, b4, b5, b6⟩ := HC8.out
     obtain ⟨c6, w9, hcv, hc1, hc2, hb9, hlt9, hf9⟩ := conv_bytes w8 xb HBS.out
     have HQ9 := Lib.hid (show Q4 w0 w9 ⟨P1, P2, D1, R1, D2, R2⟩ U S' U L k (k + 1) (fun b => (b = G ∨ b = Gx) ∨ b = w8.heap.size) from H8.out.box hb9 fun b hb => hb.elim .inl fun e => .inr (by omega))
     have HX := Lib.hid (show Calls Tryz.prog 40 #[Pq D2, .int .i64 xd, .int .i64 0, .slice (some ⟨w8.heap.size, 0, none⟩) xb.size c6] w9 _ from HQ9.out.v2 HG7.out xd 0 _ xb.size c6 (sF xb) (fun j hj => ⟨w8.heap.size, 0, rfl, .inr rfl, hf9 j hj⟩) hc1 hc2 HWW.out)
     clear hc1 hc2 hf9 hlt9
     go_wp2_with fail
     refine HX.out.mono ?_
     rintro e w10 ⟨rfl, h10, hs10⟩
     have HW10 := Lib.hid (HW8.out.same ((hs10 G (.inl (.inl rfl))).trans (hb9.block G (H8.out.lt (.inl rfl)))))
     have H10 := Lib.hid ((h10.up (show _ ≤ k + 1 by omega) (show _ ≤ k + 1 by omega)).sub (Y := fun b => b = G) fun b hb => .inl (.inl hb))
     clear h10 hs10 HX H8 HC8 HW8 HQ9 hb9 hcv HWW HG7 HBS b0 b1 b2 b3 b4 b5 b6
     go_wp2_with fail
     go_roundg (gk - 1)
     case measure => omega
     case rel => exact ⟨k + 1, U, S', by omega, by omega, by go_num, H10, HW10, HRS8⟩
    have q0 : (xk == 0) = false := by simpa using e0
    have q1 : (xk == 1) = false := by simpa using e1
    have q2 : (xk == 2) = false := by simpa using e2
    have q3 : (xk == 3) = false := by simpa using e3
    have q4 : (xk == 4) = false := by simpa using e4
    have q5 : (xk == 5) = false := by simpa using e5
    have H8 := Lib.hid ((H6.out.up (show k ≤ k + 1 by omega) (show k ≤ k + 1 by omega)).sub (Y := fun b => b = G) fun b hb => .inl hb)
    have HRS8 := Lib.hid (HST.out U L (step_low rfl ⟨fun e => absurd e e0, fun e => absurd e e1, fun e => absurd e e2, fun e => absurd e e3, fun e => absurd e e4, fun e => absurd e e5, fun _ _ _ _ _ _ => rfl⟩))
    clear ha hb hbs hG1 hG2 hH1 hH2 e0 e1 e2 e3 e4 e5 H6 HC6
    go_wp2_with fail
    go_roundg (gk - 1)
    case measure => omega
    case rel => exact ⟨k + 1, U, L, by omega, by omega, by go_num, H8, HW6, HRS8⟩
  ·have hsplit : (k < n ∧ k = 80) ∨ ¬ k < n := by omega
   have H6 := Lib.hid (HD.out.up (T3 := 80) (T4 := 80) (by omega) (by omega))
   clear hgo HD HA
   have HFI := Lib.hid (fun w' hbt => build_fin (w0 := w0) (w' := w') (G := G) (p := ⟨P1, P2, D1, R1, D2, R2⟩) (show k = min n 80 by omega) HRN.out hbt)
   clear HRN
   rcases hsplit with ⟨hkn, rfl⟩ | hkn
   all_goals
    go_wp2_with fail
    go_ret2
    exact HFI.out _ ⟨H6.out, HW.out.c0, HW.out.c1, HW.out.c2, HW.out.c3⟩
theorem build_any (A : Option Addr) (n c : Nat) (F : Nat → Act7) (w0 w : World) (hn : n ≤ maxLen) (hF : Acts w0 w0.heap.size A n F) (hb : Below w0.heap.size w0 w) :
 Calls Tryz.prog 13 #[.slice A n c] w (BuildE w0) := (build_run A n c F w0 w hn hF hb).mono fun e w' h => h.imp (fun ⟨v, he, hb, _⟩ => ⟨v, he, hb⟩) fun ⟨G, p, U, L, he, h1, _⟩ => ⟨G, p, U, L, he, h1⟩
end Go.Proofs.YtgoddboicjfkcaaGreat.cb
