/- For any acts and any two roots: the awake calls hold; the lines of the two branches as one, as the code and as the document tells them, are the same. No condition. -/
import Derived.Test.YtgoddboicjfkcaaGreatRows
import Derived.Test.YtgoddboicjfkcaaGreatZ42
import Derived.Test.YtgoddboicjfkcaaGreatZ35
import Derived.Test.YtgoddboicjfkcaaGreatZ31
import Derived.Test.YtgoddboicjfkcaaGreatZ02
import Derived.Deep.LoopGhost
import Derived.Deep.RegionWith
import Derived.Deep.LoopGhost
import Derived.StillTailTactics
import Derived.Deep.QuietTactic
import Derived.BigQuiet
import Derived.ProofKit
import Derived.OpenShut
import Derived.ShutString
import Derived.SizedLaws
namespace Go.Proofs.YtgoddboicjfkcaaGreat.flatOf
open Go.ChangeShapes Go.WideShapes Go.ChangeAt Go.RowKit
open Go.ChangeMaps (open_string shut_string)
open Go.Proofs.YtgoddboicjfkcaaGreat.fl
open Go.Proofs.YtgoddboicjfkcaaGreat.cb (RetW RetI BrX)
open Go.Proofs.YtgoddboicjfkcaaGreat.br (BS fresh)
open Go.Proofs.YtgoddboicjfkcaaGreat.bl (Pq)
set_option linter.unusedVariables false
set_option linter.unusedSimpArgs false

theorem own : ownKnob Tryz.prog.godebug = none := by kernel_rfl
theorem laid : laidOutB Tryz.prog = true := by kernel_rfl

open Go.Proofs.YtgoddboicjfkcaaGreat.fl
open Go.Proofs.YtgoddboicjfkcaaGreat.cb (RetW RetI BrX No Pt Q4 Wz WrI sF Sys KB KD)
open Go.Proofs.YtgoddboicjfkcaaGreat.br (BS fresh)
open Go.Proofs.YtgoddboicjfkcaaGreat.bl (Pq)
open Go.Proofs.YtgoddboicjfkcaaGreat.mg (bel_step bel_alloc)
set_option maxRecDepth 100000 in
set_option maxHeartbeats 8000000 in
theorem walk (A0 : Option Addr) (n0 c0 : Nat) (F0 : Nat → Act6) (u l : Int) (w : World) (hl0 : n0 ≤ c0 ∧ c0 ≤ maxLen) (hr0 : Acts w w.heap.size A0 n0 F0) :
    Calls Tryz.prog 4 #[.slice A0 n0 c0, .int .i64 u, .int .i64 l] w (fun e w' => e = .returned (.bool true) ∧ Below w.heap.size w w') := by
  have HA := Lib.hid (awake_any w)
  unfold AwakeE at HA
  have hn0 : n0 ≤ 9223372036854775807 := by have h := Nat.le_trans hl0.1 hl0.2; unfold maxLen at h; exact h
  have HR := Lib.hid hr0
  clear hr0 hl0
  go_enter Tryz.func4, Tryz.ntmps4
  go_wp2_with fail
  refine HA.out.mono ?_
  rintro _ w1 ⟨rfl, hb1⟩
  have HB1 := Lib.hid hb1
  have HR1 := Lib.hid (HR.out.same fun b hb => hb1.block b hb)
  have HN := Lib.hid (fun W (h : Below w1.heap.size w1 W) => cb.x_new500 h)
  have HM := Lib.hid (fun W (hlo : w1.heap.size ≤ W.heap.size) => cb.rb_new500 w1.heap.size W hlo)
  clear hb1 HA HR
  go_wp2_with fail
  refine (HN.out _ (Below.refl _ _)).mono ?_
  rintro _ w2 ⟨P1, rfl, h2, b2, -⟩
  have S1 := Lib.hid (cb.add_code (Sys.nil (Below.refl w1.heap.size w1)) h2 b2)
  clear h2 b2
  go_wp2_with fail
  refine (HN.out _ S1.out.bel).mono ?_
  rintro _ w3 ⟨P2, rfl, h2, b2, -⟩
  have S2 := Lib.hid (cb.add_code S1.out h2 b2)
  clear h2 b2 S1 HN
  obtain ⟨ga, hga⟩ : ∃ g, w3.heap.size = g := ⟨_, rfl⟩
  obtain ⟨w4, hw4⟩ : ∃ w4, w3.alloc (.cells #[Pq P1, Pq P2] 59) = w4 := ⟨_, rfl⟩
  have hb4 : Below w3.heap.size w3 w4 := by rw [← hw4]; exact bel_alloc _ _
  have HG4 := Lib.hid (show w4.heap[ga]? = some (.cells #[Pq P1, Pq P2] 59 (0, 0)) by rw [← hw4, ← hga]; exact heap_alloc_new w3 _)
  have S3 := Lib.hid (S2.out.box (Y := fun b => b < w1.heap.size ∨ b = ga) hb4 (fun b hb => hb.imp id fun e => by rw [e, ← hga, ← hw4, World.size_alloc]; omega))
  clear hb4 S2
  go_upto_region 4 with fail
  try rw [hw4]
  try rw [hga]
  clear hw4 hga
  go_wp2_with fail
  refine (HM.out _ S3.out.bel.size).mono ?_
  rintro _ w5 ⟨D1, R1, pl1, tg1, rfl, h2, b2, t2⟩
  have S4 := Lib.hid (cb.add_doc S3.out h2 b2 t2)
  have HG5 := Lib.hid ((b2.block ga (S3.out.lt (.inr rfl))).trans HG4.out)
  clear h2 b2 t2 S3 HG4
  go_wp2_with fail
  refine (HM.out _ S4.out.bel.size).mono ?_
  rintro _ w6 ⟨D2, R2, pl2, tg2, rfl, h2, b2, t2⟩
  have S5 := Lib.hid (cb.add_doc S4.out h2 b2 t2)
  have HG6 := Lib.hid ((b2.block ga (S4.out.lt (.inr rfl))).trans HG5.out)
  clear h2 b2 t2 S4 HG5 HM
  obtain ⟨gr, hgr⟩ : ∃ g, w6.heap.size = g := ⟨_, rfl⟩
  obtain ⟨w7, hw7⟩ : ∃ w7, w6.alloc (.cells #[Pq D1, Pq D2] 61) = w7 := ⟨_, rfl⟩
  have hb7 : Below w6.heap.size w6 w7 := by rw [← hw7]; exact bel_alloc _ _
  have HD7 := Lib.hid (show w7.heap[gr]? = some (.cells #[Pq D1, Pq D2] 61 (0, 0)) by rw [← hw7, ← hgr]; exact heap_alloc_new w6 _)
  have HG7 := Lib.hid ((hb7.block ga (S5.out.lt (.inr rfl))).trans HG6.out)
  have HQ7 := Lib.hid (show Q4 w1 w7 ⟨P1, P2, D1, R1, D2, R2⟩ fresh fresh fresh fresh 0 0 (fun b => (b < w1.heap.size ∨ b = ga) ∨ b = gr) from Q4.box (show Q4 w1 w6 ⟨P1, P2, D1, R1, D2, R2⟩ fresh fresh fresh fresh 0 0 _ from S5.out) hb7 (fun b hb => hb.imp id fun e => by rw [e, ← hgr, ← hw7, World.size_alloc]; omega))
  have c0 : w7.cell? ⟨ga, 0, none⟩ = some (Pq P1) := (Lib.cell_of_heap HG7.out 0).trans rfl
  have c1 : w7.cell? ⟨ga, 1, none⟩ = some (Pq P2) := (Lib.cell_of_heap HG7.out 1).trans rfl
  clear hb7 S5 HG6
  go_upto_region 8 with fail
  try rw [hw7]
  try rw [hgr]
  clear hw7 hgr c0 c1
  go_loopg [9] n0 (fun gh s9 wr => ∃ (j : Nat) (U L : BS), gh + j = n0 ∧ s9 = .int .i64 j ∧ j ≤ 60 ∧ Hid (Q4 w1 wr ⟨P1, P2, D1, R1, D2, R2⟩ U L U L j j (fun b => (b < w1.heap.size ∨ b = ga) ∨ b = gr)) ∧ Hid (dn.Same (fun b => (b < w1.heap.size ∨ b = ga) ∨ b = gr) w7 wr))
  case atStart => exact ⟨0, fresh, fresh, by omega, rfl, by omega, HQ7, Lib.hid (fun _ _ => rfl)⟩
  case round =>
    obtain ⟨j, U, L, hgj, rfl, hj60, HQ, HS⟩ := hrel
    have HGA := Lib.hid ((HS.out ga (.inl (.inr rfl))).trans HG7.out)
    have HGR := Lib.hid ((HS.out gr (.inr rfl)).trans HD7.out)
    by_cases hje : j < n0 ∧ j < 60
    · obtain ⟨hj, hj6⟩ := hje
      obtain ⟨bb, off, hA, hbB, k0, k1, k2, k3, k4, k5, kz4, kz5⟩ := HR1.out j hj
      subst hA
      have hsm : wr.heap[bb]? = w1.heap[bb]? := ((HS.out bb (.inl (.inl (Nat.lt_of_lt_of_le hbB HB1.out.size)))).trans (HQ7.out.bel.block bb (Nat.lt_of_lt_of_le hbB HB1.out.size)))
      replace k0 := (World.cell?_of_block (a := ⟨bb, off + j * 6, none⟩) hsm).trans k0
      replace k1 := (World.cell?_of_block (a := ⟨bb, off + j * 6 + 1, none⟩) hsm).trans k1
      replace k2 := (World.cell?_of_block (a := ⟨bb, off + j * 6 + 2, none⟩) hsm).trans k2
      replace k3 := (World.cell?_of_block (a := ⟨bb, off + j * 6 + 3, none⟩) hsm).trans k3
      replace k4 := (World.cell?_of_block (a := ⟨bb, off + j * 6 + 4, none⟩) hsm).trans k4
      replace k5 := (World.cell?_of_block (a := ⟨bb, off + j * 6 + 5, none⟩) hsm).trans k5
      obtain ⟨x, hx⟩ : ∃ x, F0 j = x := ⟨_, rfl⟩
      rw [hx] at k0 k1 k2 k3 k4 k5 kz4 kz5
      obtain ⟨xl, xk, xd, xn, xa, xb⟩ := x
      clear hx
      dsimp only at k0 k1 k2 k3 k4 k5 kz4 kz5
      have ha0 : xa.size ≤ 9223372036854775807 := by unfold maxLen at kz4; exact kz4
      have hb0 : xb.size ≤ 9223372036854775807 := by unfold maxLen at kz5; exact kz5
      obtain ⟨w8, hw8⟩ : ∃ w8, wr.alloc (.cells #[.bool xl, .int .i64 xk, .int .i64 xd, .int .i64 xn, .string xa, .string xb] 63) = w8 := ⟨_, rfl⟩
      obtain ⟨gx, hgx⟩ : ∃ g, wr.heap.size = g := ⟨_, rfl⟩
      have hb8 : Below wr.heap.size wr w8 := by rw [← hw8]; exact bel_alloc _ _
      have HX8 := Lib.hid (show w8.heap[gx]? = some (.cells #[.bool xl, .int .i64 xk, .int .i64 xd, .int .i64 xn, .string xa, .string xb] 63 (0, 0)) by rw [← hw8, ← hgx]; exact heap_alloc_new wr _)
      have HQ8 := Lib.hid (HQ.out.box (Y := fun b => ((b < w1.heap.size ∨ b = ga) ∨ b = gr) ∨ b = gx) hb8 (fun b hb => hb.imp id fun e => by rw [e, ← hgx, ← hw8, World.size_alloc]; omega))
      have HGA8 := Lib.hid ((hb8.block ga (HQ.out.lt (.inl (.inr rfl)))).trans HGA.out)
      have HGR8 := Lib.hid ((hb8.block gr (HQ.out.lt (.inr rfl))).trans HGR.out)
      have HS8 := Lib.hid (same_trans HS.out (fun b hb => hb8.block b (HQ.out.lt hb)))
      have HBW := Lib.hid (bel_step HB1.out HQ8.out.bel)
      have HGD := Lib.hid (And.intro HQ8.out.good1 HQ8.out.good2)
      have HHD := Lib.hid (And.intro (HQ8.out.hold1 (by omega)) (HQ8.out.hold2 (by omega)))
      have HCE := Lib.hid (fun (W : World) (hs : dn.Same (fun b => ((b < w1.heap.size ∨ b = ga) ∨ b = gr) ∨ b = gx) w8 W) => show (W.cell? ⟨ga, 0, none⟩ = some (Pq P1) ∧ W.cell? ⟨ga, 1, none⟩ = some (Pq P2) ∧ W.cell? ⟨gx, 2, none⟩ = some (.int .i64 xd) ∧ W.cell? ⟨gx, 3, none⟩ = some (.int .i64 xn) ∧ W.cell? ⟨gx, 4, none⟩ = some (.string xa) ∧ W.cell? ⟨gx, 5, none⟩ = some (.string xb)) ∧ (W.cell? ⟨gr, 0, none⟩ = some (Pq D1) ∧ W.cell? ⟨gr, 1, none⟩ = some (Pq D2) ∧ W.cell? ⟨gx, 2, none⟩ = some (.int .i64 xd) ∧ W.cell? ⟨gx, 3, none⟩ = some (.int .i64 xn) ∧ W.cell? ⟨gx, 4, none⟩ = some (.string xa) ∧ W.cell? ⟨gx, 5, none⟩ = some (.string xb)) from by
        have h1 := (hs gx (.inr rfl)).trans HX8.out
        have h2 := (hs ga (.inl (.inl (.inr rfl)))).trans HGA8.out
        have h3 := (hs gr (.inl (.inr rfl))).trans HGR8.out
        exact ⟨⟨(Lib.cell_of_heap h2 0).trans rfl, (Lib.cell_of_heap h2 1).trans rfl, (Lib.cell_of_heap h1 2).trans rfl, (Lib.cell_of_heap h1 3).trans rfl, (Lib.cell_of_heap h1 4).trans rfl, (Lib.cell_of_heap h1 5).trans rfl⟩, (Lib.cell_of_heap h3 0).trans rfl, (Lib.cell_of_heap h3 1).trans rfl, (Lib.cell_of_heap h1 2).trans rfl, (Lib.cell_of_heap h1 3).trans rfl, (Lib.cell_of_heap h1 4).trans rfl, (Lib.cell_of_heap h1 5).trans rfl⟩)
      have e0 : w8.cell? ⟨gx, 0, none⟩ = some (.bool xl) := (Lib.cell_of_heap HX8.out 0).trans rfl
      have e1 : w8.cell? ⟨gx, 1, none⟩ = some (.int .i64 xk) := (Lib.cell_of_heap HX8.out 1).trans rfl
      obtain ⟨e2, e3, e4, e5⟩ := (HCE.out w8 (fun _ _ => rfl)).1.2.2
      obtain ⟨bs, hbs⟩ : ∃ n, xb.size = n := ⟨_, rfl⟩
      clear hsm hbB hb8 kz4 kz5
      by_cases hbig : 2048 < bs
      · have hbi : (2048 : Int) < (bs : Int) := by omega
        go_wp2_with fail
        go_ret
        exact ⟨rfl, HBW.out⟩
      have hbi : ¬ (2048 : Int) < (bs : Int) := by omega
      have HXB := Lib.hid (show xb.size ≤ 1000000 by omega)
      have HNX := Lib.hid (show ∀ (W : World) (U' L' : BS) (T1 T2 : Nat), T1 ≤ j + 1 → T2 ≤ j + 1 → Q4 w1 W ⟨P1, P2, D1, R1, D2, R2⟩ U' L' U' L' T1 T2 (fun b => ((b < w1.heap.size ∨ b = ga) ∨ b = gr) ∨ b = gx) → dn.Same (fun b => ((b < w1.heap.size ∨ b = ga) ∨ b = gr) ∨ b = gx) w8 W → Hid (Q4 w1 W ⟨P1, P2, D1, R1, D2, R2⟩ U' L' U' L' (j + 1) (j + 1) (fun b => (b < w1.heap.size ∨ b = ga) ∨ b = gr)) ∧ Hid (dn.Same (fun b => (b < w1.heap.size ∨ b = ga) ∨ b = gr) w7 W) from
        fun W U' L' T1 T2 h1 h2 a b => ⟨Lib.hid ((a.up h1 h2).sub fun _ h => .inl h), Lib.hid (same_trans HS8.out fun x hx => b x (.inl hx))⟩)
      cases xl with
      | false =>
        by_cases q0 : xk = 0
        · subst q0
          obtain ⟨S', hS'⟩ : ∃ S', (U.make xd xa xn xb).2 = S' := ⟨_, rfl⟩
          have HM := Lib.hid (show Calls Tryz.prog 33 #[Pq P1, .int .i64 xd, .string xa, .int .i64 xn, .string xb] w8.drew (fun e w' => ∃ v, e = .returned v ∧ Q4 w1 w' ⟨P1, P2, D1, R1, D2, R2⟩ S' L U L (j + 1) j (fun b => ((b < w1.heap.size ∨ b = ga) ∨ b = gr) ∨ b = gx) ∧ dn.Same (fun b => ((b < w1.heap.size ∨ b = ga) ∨ b = gr) ∨ b = gx) w8.drew w') from
            ((HQ8.out.below (Below.refl w8.heap.size w8).drew).code1 (fun O k' => cb.kb_make k' (by omega) xd xa xn xb ha0 hb0)).mono fun e w' ⟨a, b, c⟩ => ⟨_, a, hS' ▸ b, c⟩)
          have HD := Lib.hid (fun W (h : Q4 w1 W ⟨P1, P2, D1, R1, D2, R2⟩ S' L U L (j + 1) j (fun b => ((b < w1.heap.size ∨ b = ga) ∨ b = gr) ∨ b = gx)) => show Calls Tryz.prog 34 #[Pq D1, .int .i64 xd, .string xa, .int .i64 xn, .string xb] W (fun e w' => ∃ v, e = .returned v ∧ Q4 w1 w' ⟨P1, P2, D1, R1, D2, R2⟩ S' L S' L (j + 1) j (fun b => ((b < w1.heap.size ∨ b = ga) ∨ b = gr) ∨ b = gx) ∧ dn.Same (fun b => ((b < w1.heap.size ∨ b = ga) ∨ b = gr) ∨ b = gx) W w') from
            (h.doc1 (fun O k' => cb.kd_make k' HGD.out.1 (by decide) HHD.out.1 xd xa xn xb ha0 hb0)).mono fun e w' ⟨a, b, c⟩ => ⟨_, a, hS' ▸ b, c⟩)
          clear hS'
          have S0 := (HCE.out w8 (fun _ _ => rfl)).1
          go_wp2_with fail
          go_region_held3 (fun W => W.cell? ⟨ga, 0, none⟩ = some (Pq P1) ∧ W.cell? ⟨ga, 1, none⟩ = some (Pq P2) ∧ W.cell? ⟨gx, 2, none⟩ = some (.int .i64 xd) ∧ W.cell? ⟨gx, 3, none⟩ = some (.int .i64 xn) ∧ W.cell? ⟨gx, 4, none⟩ = some (.string xa) ∧ W.cell? ⟨gx, 5, none⟩ = some (.string xb)) (first | with_reducible exact S0 | with_reducible exact S6 | assumption | go_keep)
            (first | (go_at_call 33; ((with_reducible refine HM.out.mono ?_); rintro _ w9 ⟨v9, rfl, hq9, hs9⟩; have HQ9 := Lib.hid hq9; have HS9 := Lib.hid (show dn.Same (fun b => ((b < w1.heap.size ∨ b = ga) ∨ b = gr) ∨ b = gx) w8 w9 from fun b hb => hs9 b hb); have S6 := (HCE.out w9 HS9.out).1; clear hq9 hs9)) | fail)
          clear S0 S6 HM
          have HDD := Lib.hid (HD.out w9.drew (HQ9.out.below (Below.refl w9.heap.size w9).drew))
          have S0 := (HCE.out w9 HS9.out).2
          clear HD
          go_wp2_with fail
          go_region_held3 (fun W => W.cell? ⟨gr, 0, none⟩ = some (Pq D1) ∧ W.cell? ⟨gr, 1, none⟩ = some (Pq D2) ∧ W.cell? ⟨gx, 2, none⟩ = some (.int .i64 xd) ∧ W.cell? ⟨gx, 3, none⟩ = some (.int .i64 xn) ∧ W.cell? ⟨gx, 4, none⟩ = some (.string xa) ∧ W.cell? ⟨gx, 5, none⟩ = some (.string xb)) (first | with_reducible exact S0 | with_reducible exact S6 | assumption | go_keep)
            (first | (go_at_call 34; ((with_reducible refine HDD.out.mono ?_); rintro _ wd ⟨vd, rfl, hqd, hsd⟩; have HSd := Lib.hid (show dn.Same (fun b => ((b < w1.heap.size ∨ b = ga) ∨ b = gr) ∨ b = gx) w8 wd from fun b hb => (hsd b hb).trans (HS9.out b hb)); have HN9 := Lib.hid (HNX.out wd _ _ _ _ (by omega) (by omega) hqd HSd.out); have S6 := (HCE.out wd HSd.out).2; clear hqd hsd)) | fail)
          clear S0 S6 HDD
          go_wp2_with fail
          go_roundg (gk - 1)
          case measure => omega
          case rel => exact ⟨j + 1, S', L, by omega, by go_num, by omega, HN9.out.1, HN9.out.2⟩
        have p0 : (xk == 0) = false := by simpa using q0
        by_cases q1 : xk = 1
        · subst q1
          obtain ⟨S', hS'⟩ : ∃ S', (U.unlink xd xa).2 = S' := ⟨_, rfl⟩
          have HM := Lib.hid (show Calls Tryz.prog 35 #[Pq P1, .int .i64 xd, .string xa] w8.drew (fun e w' => ∃ v, e = .returned v ∧ Q4 w1 w' ⟨P1, P2, D1, R1, D2, R2⟩ S' L U L (j + 1) j (fun b => ((b < w1.heap.size ∨ b = ga) ∨ b = gr) ∨ b = gx) ∧ dn.Same (fun b => ((b < w1.heap.size ∨ b = ga) ∨ b = gr) ∨ b = gx) w8.drew w') from
            ((HQ8.out.below (Below.refl w8.heap.size w8).drew).code1 (fun O k' => cb.kb_unlink k' (by omega) xd xa)).mono fun e w' ⟨a, b, c⟩ => ⟨_, a, hS' ▸ b, c⟩)
          have HD := Lib.hid (fun W (h : Q4 w1 W ⟨P1, P2, D1, R1, D2, R2⟩ S' L U L (j + 1) j (fun b => ((b < w1.heap.size ∨ b = ga) ∨ b = gr) ∨ b = gx)) => show Calls Tryz.prog 36 #[Pq D1, .int .i64 xd, .string xa] W (fun e w' => ∃ v, e = .returned v ∧ Q4 w1 w' ⟨P1, P2, D1, R1, D2, R2⟩ S' L S' L (j + 1) j (fun b => ((b < w1.heap.size ∨ b = ga) ∨ b = gr) ∨ b = gx) ∧ dn.Same (fun b => ((b < w1.heap.size ∨ b = ga) ∨ b = gr) ∨ b = gx) W w') from
            (h.doc1 (fun O k' => cb.kd_unlink k' HGD.out.1 (by decide) HHD.out.1 xd xa)).mono fun e w' ⟨a, b, c⟩ => ⟨_, a, hS' ▸ b, c⟩)
          clear hS'
          have S0 := (HCE.out w8 (fun _ _ => rfl)).1
          go_wp2_with fail
          go_region_held3 (fun W => W.cell? ⟨ga, 0, none⟩ = some (Pq P1) ∧ W.cell? ⟨ga, 1, none⟩ = some (Pq P2) ∧ W.cell? ⟨gx, 2, none⟩ = some (.int .i64 xd) ∧ W.cell? ⟨gx, 3, none⟩ = some (.int .i64 xn) ∧ W.cell? ⟨gx, 4, none⟩ = some (.string xa) ∧ W.cell? ⟨gx, 5, none⟩ = some (.string xb)) (first | with_reducible exact S0 | with_reducible exact S6 | assumption | go_keep)
            (first | (go_at_call 35; ((with_reducible refine HM.out.mono ?_); rintro _ w9 ⟨v9, rfl, hq9, hs9⟩; have HQ9 := Lib.hid hq9; have HS9 := Lib.hid (show dn.Same (fun b => ((b < w1.heap.size ∨ b = ga) ∨ b = gr) ∨ b = gx) w8 w9 from fun b hb => hs9 b hb); have S6 := (HCE.out w9 HS9.out).1; clear hq9 hs9)) | fail)
          clear S0 S6 HM
          have HDD := Lib.hid (HD.out w9.drew (HQ9.out.below (Below.refl w9.heap.size w9).drew))
          have S0 := (HCE.out w9 HS9.out).2
          clear HD
          go_wp2_with fail
          go_region_held3 (fun W => W.cell? ⟨gr, 0, none⟩ = some (Pq D1) ∧ W.cell? ⟨gr, 1, none⟩ = some (Pq D2) ∧ W.cell? ⟨gx, 2, none⟩ = some (.int .i64 xd) ∧ W.cell? ⟨gx, 3, none⟩ = some (.int .i64 xn) ∧ W.cell? ⟨gx, 4, none⟩ = some (.string xa) ∧ W.cell? ⟨gx, 5, none⟩ = some (.string xb)) (first | with_reducible exact S0 | with_reducible exact S6 | assumption | go_keep)
            (first | (go_at_call 36; ((with_reducible refine HDD.out.mono ?_); rintro _ wd ⟨vd, rfl, hqd, hsd⟩; have HSd := Lib.hid (show dn.Same (fun b => ((b < w1.heap.size ∨ b = ga) ∨ b = gr) ∨ b = gx) w8 wd from fun b hb => (hsd b hb).trans (HS9.out b hb)); have HN9 := Lib.hid (HNX.out wd _ _ _ _ (by omega) (by omega) hqd HSd.out); have S6 := (HCE.out wd HSd.out).2; clear hqd hsd)) | fail)
          clear S0 S6 HDD
          go_wp2_with fail
          go_roundg (gk - 1)
          case measure => omega
          case rel => exact ⟨j + 1, S', L, by omega, by go_num, by omega, HN9.out.1, HN9.out.2⟩
        have p1 : (xk == 1) = false := by simpa using q1
        by_cases q2 : xk = 2
        · subst q2
          obtain ⟨S', hS'⟩ : ∃ S', (U.mark xd xn).2 = S' := ⟨_, rfl⟩
          have HM := Lib.hid (show Calls Tryz.prog 37 #[Pq P1, .int .i64 xd, .int .i64 xn] w8.drew (fun e w' => ∃ v, e = .returned v ∧ Q4 w1 w' ⟨P1, P2, D1, R1, D2, R2⟩ S' L U L (j + 1) j (fun b => ((b < w1.heap.size ∨ b = ga) ∨ b = gr) ∨ b = gx) ∧ dn.Same (fun b => ((b < w1.heap.size ∨ b = ga) ∨ b = gr) ∨ b = gx) w8.drew w') from
            ((HQ8.out.below (Below.refl w8.heap.size w8).drew).code1 (fun O k' => cb.kb_mark k' (by omega) xd xn)).mono fun e w' ⟨a, b, c⟩ => ⟨_, a, hS' ▸ b, c⟩)
          have HD := Lib.hid (fun W (h : Q4 w1 W ⟨P1, P2, D1, R1, D2, R2⟩ S' L U L (j + 1) j (fun b => ((b < w1.heap.size ∨ b = ga) ∨ b = gr) ∨ b = gx)) => show Calls Tryz.prog 38 #[Pq D1, .int .i64 xd, .int .i64 xn] W (fun e w' => ∃ v, e = .returned v ∧ Q4 w1 w' ⟨P1, P2, D1, R1, D2, R2⟩ S' L S' L (j + 1) j (fun b => ((b < w1.heap.size ∨ b = ga) ∨ b = gr) ∨ b = gx) ∧ dn.Same (fun b => ((b < w1.heap.size ∨ b = ga) ∨ b = gr) ∨ b = gx) W w') from
            (h.doc1 (fun O k' => cb.kd_mark k' HGD.out.1 (by decide) HHD.out.1 xd xn)).mono fun e w' ⟨a, b, c⟩ => ⟨_, a, hS' ▸ b, c⟩)
          clear hS'
          have S0 := (HCE.out w8 (fun _ _ => rfl)).1
          go_wp2_with fail
          go_region_held3 (fun W => W.cell? ⟨ga, 0, none⟩ = some (Pq P1) ∧ W.cell? ⟨ga, 1, none⟩ = some (Pq P2) ∧ W.cell? ⟨gx, 2, none⟩ = some (.int .i64 xd) ∧ W.cell? ⟨gx, 3, none⟩ = some (.int .i64 xn) ∧ W.cell? ⟨gx, 4, none⟩ = some (.string xa) ∧ W.cell? ⟨gx, 5, none⟩ = some (.string xb)) (first | with_reducible exact S0 | with_reducible exact S6 | assumption | go_keep)
            (first | (go_at_call 37; ((with_reducible refine HM.out.mono ?_); rintro _ w9 ⟨v9, rfl, hq9, hs9⟩; have HQ9 := Lib.hid hq9; have HS9 := Lib.hid (show dn.Same (fun b => ((b < w1.heap.size ∨ b = ga) ∨ b = gr) ∨ b = gx) w8 w9 from fun b hb => hs9 b hb); have S6 := (HCE.out w9 HS9.out).1; clear hq9 hs9)) | fail)
          clear S0 S6 HM
          have HDD := Lib.hid (HD.out w9.drew (HQ9.out.below (Below.refl w9.heap.size w9).drew))
          have S0 := (HCE.out w9 HS9.out).2
          clear HD
          go_wp2_with fail
          go_region_held3 (fun W => W.cell? ⟨gr, 0, none⟩ = some (Pq D1) ∧ W.cell? ⟨gr, 1, none⟩ = some (Pq D2) ∧ W.cell? ⟨gx, 2, none⟩ = some (.int .i64 xd) ∧ W.cell? ⟨gx, 3, none⟩ = some (.int .i64 xn) ∧ W.cell? ⟨gx, 4, none⟩ = some (.string xa) ∧ W.cell? ⟨gx, 5, none⟩ = some (.string xb)) (first | with_reducible exact S0 | with_reducible exact S6 | assumption | go_keep)
            (first | (go_at_call 38; ((with_reducible refine HDD.out.mono ?_); rintro _ wd ⟨vd, rfl, hqd, hsd⟩; have HSd := Lib.hid (show dn.Same (fun b => ((b < w1.heap.size ∨ b = ga) ∨ b = gr) ∨ b = gx) w8 wd from fun b hb => (hsd b hb).trans (HS9.out b hb)); have HN9 := Lib.hid (HNX.out wd _ _ _ _ (by omega) (by omega) hqd HSd.out); have S6 := (HCE.out wd HSd.out).2; clear hqd hsd)) | fail)
          clear S0 S6 HDD
          go_wp2_with fail
          go_roundg (gk - 1)
          case measure => omega
          case rel => exact ⟨j + 1, S', L, by omega, by go_num, by omega, HN9.out.1, HN9.out.2⟩
        have p2 : (xk == 2) = false := by simpa using q2
        by_cases q3 : xk = 3
        · subst q3
          subst hbs
          obtain ⟨c9, wc9, hcv, hc1, hc2, hbc, hltc, hfc⟩ := cb.conv_bytes w8.drew xb HXB.out
          replace hcv : (convert 9 53 (.string xb)).run Tryz.prog w8.drew = .ok (.slice (some ⟨w8.heap.size, 0, none⟩) xb.size c9) wc9 := hcv
          have HQc := Lib.hid (show Q4 w1 wc9 ⟨P1, P2, D1, R1, D2, R2⟩ U L U L j j (fun b => (((b < w1.heap.size ∨ b = ga) ∨ b = gr) ∨ b = gx) ∨ b = w8.heap.size) from (HQ8.out.below (Below.refl w8.heap.size w8).drew).box hbc fun b hb => hb.elim .inl fun e => .inr (by rw [e]; exact ⟨Nat.le_refl _, hltc⟩))
          have HM := Lib.hid (HQc.out.w1 xd 0 (some ⟨w8.heap.size, 0, none⟩) xb.size c9 (sF xb) (fun j hj => ⟨w8.heap.size, 0, rfl, .inr rfl, hfc j hj⟩) hc1 hc2)
          have HSc := Lib.hid (show dn.Same (fun b => ((b < w1.heap.size ∨ b = ga) ∨ b = gr) ∨ b = gx) w8 wc9 from fun b hb => hbc.block b (HQ8.out.lt hb))
          have S0 := (HCE.out w8.drew (fun _ _ => rfl)).1
          have S7 := (HCE.out wc9 HSc.out).1
          clear hc1 hc2 hfc hltc hbc
          go_wp2_with fail
          refine rh.region_T (S := (fun W => W.cell? ⟨ga, 0, none⟩ = some (Pq P1) ∧ W.cell? ⟨ga, 1, none⟩ = some (Pq P2) ∧ W.cell? ⟨gx, 2, none⟩ = some (.int .i64 xd) ∧ W.cell? ⟨gx, 3, none⟩ = some (.int .i64 xn) ∧ W.cell? ⟨gx, 4, none⟩ = some (.string xa) ∧ W.cell? ⟨gx, 5, none⟩ = some (.string xb))) (z := 9) (by kernel_rfl) ?_
          simp only [List.size_toArray, List.length_cons, List.length_nil, Nat.zero_add, Nat.reduceAdd]
          rw [show Array.replicate 9 false = #[false, false, false, false, false, false, false, false, false] from rfl]
          refine rh.take_T (i := 0) (.int .i64 0) rfl (by kernel_rfl) (by kernel_rfl) (by kernel_rfl) (by kernel_rfl) (fun _ _ _ h => h) (Or.inl ⟨by rfl, by intro w' hSw; (try dsimp only at hSw); go_simp⟩) S0 ?_
          simp only [Act.put, List.setIfInBounds_toArray, List.set_cons_zero, List.set_cons_succ]
          refine rh.take_T (i := 1) (.pointer (some ⟨ga, 0, none⟩)) rfl (by kernel_rfl) (by kernel_rfl) (by kernel_rfl) (by kernel_rfl) (fun _ _ _ h => h) (Or.inl ⟨by rfl, by intro w' hSw; (try dsimp only at hSw); go_simp⟩) S0 ?_
          simp only [Act.put, List.setIfInBounds_toArray, List.set_cons_zero, List.set_cons_succ]
          refine rh.take_T (i := 2) (Pq P1) rfl (by kernel_rfl) (by kernel_rfl) (by kernel_rfl) (by kernel_rfl) (fun _ _ _ h => h) (Or.inl ⟨by rfl, by intro w' hSw; (try dsimp only at hSw); go_simp⟩) S0 ?_
          simp only [Act.put, List.setIfInBounds_toArray, List.set_cons_zero, List.set_cons_succ]
          refine rh.take_T (i := 3) (.pointer (some ⟨gx, 2, none⟩)) rfl (by kernel_rfl) (by kernel_rfl) (by kernel_rfl) (by kernel_rfl) (fun _ _ _ h => h) (Or.inl ⟨by rfl, by intro w' hSw; (try dsimp only at hSw); go_simp⟩) S0 ?_
          simp only [Act.put, List.setIfInBounds_toArray, List.set_cons_zero, List.set_cons_succ]
          refine rh.take_T (i := 4) (.int .i64 xd) rfl (by kernel_rfl) (by kernel_rfl) (by kernel_rfl) (by kernel_rfl) (fun _ _ _ h => h) (Or.inl ⟨by rfl, by intro w' hSw; (try dsimp only at hSw); go_simp⟩) S0 ?_
          simp only [Act.put, List.setIfInBounds_toArray, List.set_cons_zero, List.set_cons_succ]
          refine rh.take_T (i := 5) (.pointer (some ⟨gx, 5, none⟩)) rfl (by kernel_rfl) (by kernel_rfl) (by kernel_rfl) (by kernel_rfl) (fun _ _ _ h => h) (Or.inl ⟨by rfl, by intro w' hSw; (try dsimp only at hSw); go_simp⟩) S0 ?_
          simp only [Act.put, List.setIfInBounds_toArray, List.set_cons_zero, List.set_cons_succ]
          refine rh.take_T (i := 6) (.string xb) rfl (by kernel_rfl) (by kernel_rfl) (by kernel_rfl) (by kernel_rfl) (fun _ _ _ h => h) (Or.inl ⟨by rfl, by intro w' hSw; (try dsimp only at hSw); go_simp⟩) S0 ?_
          simp only [Act.put, List.setIfInBounds_toArray, List.set_cons_zero, List.set_cons_succ]
          refine rh.step_T (i := 7) (by kernel_rfl) rfl fun K hK => ?_
          go_simp
          refine hK.out _ _ (.inr S7) ?_
          clear hK K
          simp only [Act.put, List.setIfInBounds_toArray, List.set_cons_zero, List.set_cons_succ]
          refine rh.step_T (i := 8) (by kernel_rfl) rfl fun K hK => ?_
          go_simp
          go_at_call 39
          with_reducible refine HM.out.mono ?_
          rintro _ w9 ⟨⟨zq, ze, S'⟩, hw, rfl, hq9, hs9⟩
          dsimp only at hw hq9
          have HWW := Lib.hid hw
          have HQ9 := Lib.hid (hq9.sub (Y := (fun b => ((b < w1.heap.size ∨ b = ga) ∨ b = gr) ∨ b = gx)) fun b hb => .inl hb)
          have HS9 := Lib.hid (show dn.Same (fun b => ((b < w1.heap.size ∨ b = ga) ∨ b = gr) ∨ b = gx) w8 w9 from fun b hb => (hs9 b (.inl hb)).trans (HSc.out b hb))
          clear hq9 hs9 hw
          go_wp2_with fail
          refine hK.out _ _ (.inr (HCE.out w9 HS9.out).1) ?_
          clear hK K
          refine rh.done_T (by kernel_rfl) ?_
          clear S0 S7 HM hcv HQc HSc
          obtain ⟨c9, wc9, hcv, hc1, hc2, hbc, hltc, hfc⟩ := cb.conv_bytes w9.drew xb HXB.out
          replace hcv : (convert 9 53 (.string xb)).run Tryz.prog w9.drew = .ok (.slice (some ⟨w9.heap.size, 0, none⟩) xb.size c9) wc9 := hcv
          have HQc := Lib.hid (show Q4 w1 wc9 ⟨P1, P2, D1, R1, D2, R2⟩ S' L U L (j + 1) j (fun b => (((b < w1.heap.size ∨ b = ga) ∨ b = gr) ∨ b = gx) ∨ b = w9.heap.size) from (HQ9.out.below (Below.refl w9.heap.size w9).drew).box hbc fun b hb => hb.elim .inl fun e => .inr (by rw [e]; exact ⟨Nat.le_refl _, hltc⟩))
          have HM := Lib.hid (HQc.out.v1 HGD.out.1 xd 0 (some ⟨w9.heap.size, 0, none⟩) xb.size c9 (sF xb) (fun j hj => ⟨w9.heap.size, 0, rfl, .inr rfl, hfc j hj⟩) hc1 hc2 HWW.out)
          have HSc := Lib.hid (show dn.Same (fun b => ((b < w1.heap.size ∨ b = ga) ∨ b = gr) ∨ b = gx) w8 wc9 from fun b hb => (hbc.block b (HQ9.out.lt hb)).trans (HS9.out b hb))
          have S0 := (HCE.out w9.drew (fun b hb => HS9.out b hb)).2
          have S7 := (HCE.out wc9 HSc.out).2
          clear hc1 hc2 hfc hltc hbc
          go_wp2_with fail
          refine rh.region_T (S := (fun W => W.cell? ⟨gr, 0, none⟩ = some (Pq D1) ∧ W.cell? ⟨gr, 1, none⟩ = some (Pq D2) ∧ W.cell? ⟨gx, 2, none⟩ = some (.int .i64 xd) ∧ W.cell? ⟨gx, 3, none⟩ = some (.int .i64 xn) ∧ W.cell? ⟨gx, 4, none⟩ = some (.string xa) ∧ W.cell? ⟨gx, 5, none⟩ = some (.string xb))) (z := 9) (by kernel_rfl) ?_
          simp only [List.size_toArray, List.length_cons, List.length_nil, Nat.zero_add, Nat.reduceAdd]
          rw [show Array.replicate 9 false = #[false, false, false, false, false, false, false, false, false] from rfl]
          refine rh.take_T (i := 0) (.int .i64 0) rfl (by kernel_rfl) (by kernel_rfl) (by kernel_rfl) (by kernel_rfl) (fun _ _ _ h => h) (Or.inl ⟨by rfl, by intro w' hSw; (try dsimp only at hSw); go_simp⟩) S0 ?_
          simp only [Act.put, List.setIfInBounds_toArray, List.set_cons_zero, List.set_cons_succ]
          refine rh.take_T (i := 1) (.pointer (some ⟨gr, 0, none⟩)) rfl (by kernel_rfl) (by kernel_rfl) (by kernel_rfl) (by kernel_rfl) (fun _ _ _ h => h) (Or.inl ⟨by rfl, by intro w' hSw; (try dsimp only at hSw); go_simp⟩) S0 ?_
          simp only [Act.put, List.setIfInBounds_toArray, List.set_cons_zero, List.set_cons_succ]
          refine rh.take_T (i := 2) (Pq D1) rfl (by kernel_rfl) (by kernel_rfl) (by kernel_rfl) (by kernel_rfl) (fun _ _ _ h => h) (Or.inl ⟨by rfl, by intro w' hSw; (try dsimp only at hSw); go_simp⟩) S0 ?_
          simp only [Act.put, List.setIfInBounds_toArray, List.set_cons_zero, List.set_cons_succ]
          refine rh.take_T (i := 3) (.pointer (some ⟨gx, 2, none⟩)) rfl (by kernel_rfl) (by kernel_rfl) (by kernel_rfl) (by kernel_rfl) (fun _ _ _ h => h) (Or.inl ⟨by rfl, by intro w' hSw; (try dsimp only at hSw); go_simp⟩) S0 ?_
          simp only [Act.put, List.setIfInBounds_toArray, List.set_cons_zero, List.set_cons_succ]
          refine rh.take_T (i := 4) (.int .i64 xd) rfl (by kernel_rfl) (by kernel_rfl) (by kernel_rfl) (by kernel_rfl) (fun _ _ _ h => h) (Or.inl ⟨by rfl, by intro w' hSw; (try dsimp only at hSw); go_simp⟩) S0 ?_
          simp only [Act.put, List.setIfInBounds_toArray, List.set_cons_zero, List.set_cons_succ]
          refine rh.take_T (i := 5) (.pointer (some ⟨gx, 5, none⟩)) rfl (by kernel_rfl) (by kernel_rfl) (by kernel_rfl) (by kernel_rfl) (fun _ _ _ h => h) (Or.inl ⟨by rfl, by intro w' hSw; (try dsimp only at hSw); go_simp⟩) S0 ?_
          simp only [Act.put, List.setIfInBounds_toArray, List.set_cons_zero, List.set_cons_succ]
          refine rh.take_T (i := 6) (.string xb) rfl (by kernel_rfl) (by kernel_rfl) (by kernel_rfl) (by kernel_rfl) (fun _ _ _ h => h) (Or.inl ⟨by rfl, by intro w' hSw; (try dsimp only at hSw); go_simp⟩) S0 ?_
          simp only [Act.put, List.setIfInBounds_toArray, List.set_cons_zero, List.set_cons_succ]
          refine rh.step_T (i := 7) (by kernel_rfl) rfl fun K hK => ?_
          go_simp
          refine hK.out _ _ (.inr S7) ?_
          clear hK K
          simp only [Act.put, List.setIfInBounds_toArray, List.set_cons_zero, List.set_cons_succ]
          refine rh.step_T (i := 8) (by kernel_rfl) rfl fun K hK => ?_
          go_simp
          go_at_call 40
          with_reducible refine HM.out.mono ?_
          rintro _ wd ⟨rfl, hqd, hsd⟩
          have HSd := Lib.hid (show dn.Same (fun b => ((b < w1.heap.size ∨ b = ga) ∨ b = gr) ∨ b = gx) w8 wd from fun b hb => (hsd b (.inl hb)).trans (HSc.out b hb))
          have HN9 := Lib.hid (HNX.out wd _ _ _ _ (by omega) (by omega) (hqd.sub (Y := (fun b => ((b < w1.heap.size ∨ b = ga) ∨ b = gr) ∨ b = gx)) fun b hb => .inl hb) HSd.out)
          clear hqd hsd
          go_wp2_with fail
          refine hK.out _ _ (.inr (HCE.out wd HSd.out).2) ?_
          clear hK K
          refine rh.done_T (by kernel_rfl) ?_
          clear S0 S7 HM hcv HQc HSc
          go_wp2_with fail
          go_roundg (gk - 1)
          case measure => omega
          case rel => exact ⟨j + 1, S', L, by omega, by go_num, by omega, HN9.out.1, HN9.out.2⟩
        have p3 : (xk == 3) = false := by simpa using q3
        have HN9 := Lib.hid (HNX.out w8 U L j j (Nat.le_succ _) (Nat.le_succ _) HQ8.out (fun _ _ => rfl))
        go_wp2_with fail
        go_roundg (gk - 1)
        case measure => omega
        case rel => exact ⟨j + 1, U, L, by omega, by go_num, by omega, HN9.out.1, HN9.out.2⟩
      | true =>
        by_cases q0 : xk = 0
        · subst q0
          obtain ⟨S', hS'⟩ : ∃ S', (L.make xd xa xn xb).2 = S' := ⟨_, rfl⟩
          have HM := Lib.hid (show Calls Tryz.prog 33 #[Pq P2, .int .i64 xd, .string xa, .int .i64 xn, .string xb] w8.drew (fun e w' => ∃ v, e = .returned v ∧ Q4 w1 w' ⟨P1, P2, D1, R1, D2, R2⟩ U S' U L j (j + 1) (fun b => ((b < w1.heap.size ∨ b = ga) ∨ b = gr) ∨ b = gx) ∧ dn.Same (fun b => ((b < w1.heap.size ∨ b = ga) ∨ b = gr) ∨ b = gx) w8.drew w') from
            ((HQ8.out.below (Below.refl w8.heap.size w8).drew).code2 (fun O k' => cb.kb_make k' (by omega) xd xa xn xb ha0 hb0)).mono fun e w' ⟨a, b, c⟩ => ⟨_, a, hS' ▸ b, c⟩)
          have HD := Lib.hid (fun W (h : Q4 w1 W ⟨P1, P2, D1, R1, D2, R2⟩ U S' U L j (j + 1) (fun b => ((b < w1.heap.size ∨ b = ga) ∨ b = gr) ∨ b = gx)) => show Calls Tryz.prog 34 #[Pq D2, .int .i64 xd, .string xa, .int .i64 xn, .string xb] W (fun e w' => ∃ v, e = .returned v ∧ Q4 w1 w' ⟨P1, P2, D1, R1, D2, R2⟩ U S' U S' j (j + 1) (fun b => ((b < w1.heap.size ∨ b = ga) ∨ b = gr) ∨ b = gx) ∧ dn.Same (fun b => ((b < w1.heap.size ∨ b = ga) ∨ b = gr) ∨ b = gx) W w') from
            (h.doc2 (fun O k' => cb.kd_make k' HGD.out.2 (by decide) HHD.out.2 xd xa xn xb ha0 hb0)).mono fun e w' ⟨a, b, c⟩ => ⟨_, a, hS' ▸ b, c⟩)
          clear hS'
          have S0 := (HCE.out w8 (fun _ _ => rfl)).1
          go_wp2_with fail
          go_region_held3 (fun W => W.cell? ⟨ga, 0, none⟩ = some (Pq P1) ∧ W.cell? ⟨ga, 1, none⟩ = some (Pq P2) ∧ W.cell? ⟨gx, 2, none⟩ = some (.int .i64 xd) ∧ W.cell? ⟨gx, 3, none⟩ = some (.int .i64 xn) ∧ W.cell? ⟨gx, 4, none⟩ = some (.string xa) ∧ W.cell? ⟨gx, 5, none⟩ = some (.string xb)) (first | with_reducible exact S0 | with_reducible exact S6 | assumption | go_keep)
            (first | (go_at_call 33; ((with_reducible refine HM.out.mono ?_); rintro _ w9 ⟨v9, rfl, hq9, hs9⟩; have HQ9 := Lib.hid hq9; have HS9 := Lib.hid (show dn.Same (fun b => ((b < w1.heap.size ∨ b = ga) ∨ b = gr) ∨ b = gx) w8 w9 from fun b hb => hs9 b hb); have S6 := (HCE.out w9 HS9.out).1; clear hq9 hs9)) | fail)
          clear S0 S6 HM
          have HDD := Lib.hid (HD.out w9.drew (HQ9.out.below (Below.refl w9.heap.size w9).drew))
          have S0 := (HCE.out w9 HS9.out).2
          clear HD
          go_wp2_with fail
          go_region_held3 (fun W => W.cell? ⟨gr, 0, none⟩ = some (Pq D1) ∧ W.cell? ⟨gr, 1, none⟩ = some (Pq D2) ∧ W.cell? ⟨gx, 2, none⟩ = some (.int .i64 xd) ∧ W.cell? ⟨gx, 3, none⟩ = some (.int .i64 xn) ∧ W.cell? ⟨gx, 4, none⟩ = some (.string xa) ∧ W.cell? ⟨gx, 5, none⟩ = some (.string xb)) (first | with_reducible exact S0 | with_reducible exact S6 | assumption | go_keep)
            (first | (go_at_call 34; ((with_reducible refine HDD.out.mono ?_); rintro _ wd ⟨vd, rfl, hqd, hsd⟩; have HSd := Lib.hid (show dn.Same (fun b => ((b < w1.heap.size ∨ b = ga) ∨ b = gr) ∨ b = gx) w8 wd from fun b hb => (hsd b hb).trans (HS9.out b hb)); have HN9 := Lib.hid (HNX.out wd _ _ _ _ (by omega) (by omega) hqd HSd.out); have S6 := (HCE.out wd HSd.out).2; clear hqd hsd)) | fail)
          clear S0 S6 HDD
          go_wp2_with fail
          go_roundg (gk - 1)
          case measure => omega
          case rel => exact ⟨j + 1, U, S', by omega, by go_num, by omega, HN9.out.1, HN9.out.2⟩
        have p0 : (xk == 0) = false := by simpa using q0
        by_cases q1 : xk = 1
        · subst q1
          obtain ⟨S', hS'⟩ : ∃ S', (L.unlink xd xa).2 = S' := ⟨_, rfl⟩
          have HM := Lib.hid (show Calls Tryz.prog 35 #[Pq P2, .int .i64 xd, .string xa] w8.drew (fun e w' => ∃ v, e = .returned v ∧ Q4 w1 w' ⟨P1, P2, D1, R1, D2, R2⟩ U S' U L j (j + 1) (fun b => ((b < w1.heap.size ∨ b = ga) ∨ b = gr) ∨ b = gx) ∧ dn.Same (fun b => ((b < w1.heap.size ∨ b = ga) ∨ b = gr) ∨ b = gx) w8.drew w') from
            ((HQ8.out.below (Below.refl w8.heap.size w8).drew).code2 (fun O k' => cb.kb_unlink k' (by omega) xd xa)).mono fun e w' ⟨a, b, c⟩ => ⟨_, a, hS' ▸ b, c⟩)
          have HD := Lib.hid (fun W (h : Q4 w1 W ⟨P1, P2, D1, R1, D2, R2⟩ U S' U L j (j + 1) (fun b => ((b < w1.heap.size ∨ b = ga) ∨ b = gr) ∨ b = gx)) => show Calls Tryz.prog 36 #[Pq D2, .int .i64 xd, .string xa] W (fun e w' => ∃ v, e = .returned v ∧ Q4 w1 w' ⟨P1, P2, D1, R1, D2, R2⟩ U S' U S' j (j + 1) (fun b => ((b < w1.heap.size ∨ b = ga) ∨ b = gr) ∨ b = gx) ∧ dn.Same (fun b => ((b < w1.heap.size ∨ b = ga) ∨ b = gr) ∨ b = gx) W w') from
            (h.doc2 (fun O k' => cb.kd_unlink k' HGD.out.2 (by decide) HHD.out.2 xd xa)).mono fun e w' ⟨a, b, c⟩ => ⟨_, a, hS' ▸ b, c⟩)
          clear hS'
          have S0 := (HCE.out w8 (fun _ _ => rfl)).1
          go_wp2_with fail
          go_region_held3 (fun W => W.cell? ⟨ga, 0, none⟩ = some (Pq P1) ∧ W.cell? ⟨ga, 1, none⟩ = some (Pq P2) ∧ W.cell? ⟨gx, 2, none⟩ = some (.int .i64 xd) ∧ W.cell? ⟨gx, 3, none⟩ = some (.int .i64 xn) ∧ W.cell? ⟨gx, 4, none⟩ = some (.string xa) ∧ W.cell? ⟨gx, 5, none⟩ = some (.string xb)) (first | with_reducible exact S0 | with_reducible exact S6 | assumption | go_keep)
            (first | (go_at_call 35; ((with_reducible refine HM.out.mono ?_); rintro _ w9 ⟨v9, rfl, hq9, hs9⟩; have HQ9 := Lib.hid hq9; have HS9 := Lib.hid (show dn.Same (fun b => ((b < w1.heap.size ∨ b = ga) ∨ b = gr) ∨ b = gx) w8 w9 from fun b hb => hs9 b hb); have S6 := (HCE.out w9 HS9.out).1; clear hq9 hs9)) | fail)
          clear S0 S6 HM
          have HDD := Lib.hid (HD.out w9.drew (HQ9.out.below (Below.refl w9.heap.size w9).drew))
          have S0 := (HCE.out w9 HS9.out).2
          clear HD
          go_wp2_with fail
          go_region_held3 (fun W => W.cell? ⟨gr, 0, none⟩ = some (Pq D1) ∧ W.cell? ⟨gr, 1, none⟩ = some (Pq D2) ∧ W.cell? ⟨gx, 2, none⟩ = some (.int .i64 xd) ∧ W.cell? ⟨gx, 3, none⟩ = some (.int .i64 xn) ∧ W.cell? ⟨gx, 4, none⟩ = some (.string xa) ∧ W.cell? ⟨gx, 5, none⟩ = some (.string xb)) (first | with_reducible exact S0 | with_reducible exact S6 | assumption | go_keep)
            (first | (go_at_call 36; ((with_reducible refine HDD.out.mono ?_); rintro _ wd ⟨vd, rfl, hqd, hsd⟩; have HSd := Lib.hid (show dn.Same (fun b => ((b < w1.heap.size ∨ b = ga) ∨ b = gr) ∨ b = gx) w8 wd from fun b hb => (hsd b hb).trans (HS9.out b hb)); have HN9 := Lib.hid (HNX.out wd _ _ _ _ (by omega) (by omega) hqd HSd.out); have S6 := (HCE.out wd HSd.out).2; clear hqd hsd)) | fail)
          clear S0 S6 HDD
          go_wp2_with fail
          go_roundg (gk - 1)
          case measure => omega
          case rel => exact ⟨j + 1, U, S', by omega, by go_num, by omega, HN9.out.1, HN9.out.2⟩
        have p1 : (xk == 1) = false := by simpa using q1
        by_cases q2 : xk = 2
        · subst q2
          obtain ⟨S', hS'⟩ : ∃ S', (L.mark xd xn).2 = S' := ⟨_, rfl⟩
          have HM := Lib.hid (show Calls Tryz.prog 37 #[Pq P2, .int .i64 xd, .int .i64 xn] w8.drew (fun e w' => ∃ v, e = .returned v ∧ Q4 w1 w' ⟨P1, P2, D1, R1, D2, R2⟩ U S' U L j (j + 1) (fun b => ((b < w1.heap.size ∨ b = ga) ∨ b = gr) ∨ b = gx) ∧ dn.Same (fun b => ((b < w1.heap.size ∨ b = ga) ∨ b = gr) ∨ b = gx) w8.drew w') from
            ((HQ8.out.below (Below.refl w8.heap.size w8).drew).code2 (fun O k' => cb.kb_mark k' (by omega) xd xn)).mono fun e w' ⟨a, b, c⟩ => ⟨_, a, hS' ▸ b, c⟩)
          have HD := Lib.hid (fun W (h : Q4 w1 W ⟨P1, P2, D1, R1, D2, R2⟩ U S' U L j (j + 1) (fun b => ((b < w1.heap.size ∨ b = ga) ∨ b = gr) ∨ b = gx)) => show Calls Tryz.prog 38 #[Pq D2, .int .i64 xd, .int .i64 xn] W (fun e w' => ∃ v, e = .returned v ∧ Q4 w1 w' ⟨P1, P2, D1, R1, D2, R2⟩ U S' U S' j (j + 1) (fun b => ((b < w1.heap.size ∨ b = ga) ∨ b = gr) ∨ b = gx) ∧ dn.Same (fun b => ((b < w1.heap.size ∨ b = ga) ∨ b = gr) ∨ b = gx) W w') from
            (h.doc2 (fun O k' => cb.kd_mark k' HGD.out.2 (by decide) HHD.out.2 xd xn)).mono fun e w' ⟨a, b, c⟩ => ⟨_, a, hS' ▸ b, c⟩)
          clear hS'
          have S0 := (HCE.out w8 (fun _ _ => rfl)).1
          go_wp2_with fail
          go_region_held3 (fun W => W.cell? ⟨ga, 0, none⟩ = some (Pq P1) ∧ W.cell? ⟨ga, 1, none⟩ = some (Pq P2) ∧ W.cell? ⟨gx, 2, none⟩ = some (.int .i64 xd) ∧ W.cell? ⟨gx, 3, none⟩ = some (.int .i64 xn) ∧ W.cell? ⟨gx, 4, none⟩ = some (.string xa) ∧ W.cell? ⟨gx, 5, none⟩ = some (.string xb)) (first | with_reducible exact S0 | with_reducible exact S6 | assumption | go_keep)
            (first | (go_at_call 37; ((with_reducible refine HM.out.mono ?_); rintro _ w9 ⟨v9, rfl, hq9, hs9⟩; have HQ9 := Lib.hid hq9; have HS9 := Lib.hid (show dn.Same (fun b => ((b < w1.heap.size ∨ b = ga) ∨ b = gr) ∨ b = gx) w8 w9 from fun b hb => hs9 b hb); have S6 := (HCE.out w9 HS9.out).1; clear hq9 hs9)) | fail)
          clear S0 S6 HM
          have HDD := Lib.hid (HD.out w9.drew (HQ9.out.below (Below.refl w9.heap.size w9).drew))
          have S0 := (HCE.out w9 HS9.out).2
          clear HD
          go_wp2_with fail
          go_region_held3 (fun W => W.cell? ⟨gr, 0, none⟩ = some (Pq D1) ∧ W.cell? ⟨gr, 1, none⟩ = some (Pq D2) ∧ W.cell? ⟨gx, 2, none⟩ = some (.int .i64 xd) ∧ W.cell? ⟨gx, 3, none⟩ = some (.int .i64 xn) ∧ W.cell? ⟨gx, 4, none⟩ = some (.string xa) ∧ W.cell? ⟨gx, 5, none⟩ = some (.string xb)) (first | with_reducible exact S0 | with_reducible exact S6 | assumption | go_keep)
            (first | (go_at_call 38; ((with_reducible refine HDD.out.mono ?_); rintro _ wd ⟨vd, rfl, hqd, hsd⟩; have HSd := Lib.hid (show dn.Same (fun b => ((b < w1.heap.size ∨ b = ga) ∨ b = gr) ∨ b = gx) w8 wd from fun b hb => (hsd b hb).trans (HS9.out b hb)); have HN9 := Lib.hid (HNX.out wd _ _ _ _ (by omega) (by omega) hqd HSd.out); have S6 := (HCE.out wd HSd.out).2; clear hqd hsd)) | fail)
          clear S0 S6 HDD
          go_wp2_with fail
          go_roundg (gk - 1)
          case measure => omega
          case rel => exact ⟨j + 1, U, S', by omega, by go_num, by omega, HN9.out.1, HN9.out.2⟩
        have p2 : (xk == 2) = false := by simpa using q2
        by_cases q3 : xk = 3
        · subst q3
          subst hbs
          obtain ⟨c9, wc9, hcv, hc1, hc2, hbc, hltc, hfc⟩ := cb.conv_bytes w8.drew xb HXB.out
          replace hcv : (convert 9 53 (.string xb)).run Tryz.prog w8.drew = .ok (.slice (some ⟨w8.heap.size, 0, none⟩) xb.size c9) wc9 := hcv
          have HQc := Lib.hid (show Q4 w1 wc9 ⟨P1, P2, D1, R1, D2, R2⟩ U L U L j j (fun b => (((b < w1.heap.size ∨ b = ga) ∨ b = gr) ∨ b = gx) ∨ b = w8.heap.size) from (HQ8.out.below (Below.refl w8.heap.size w8).drew).box hbc fun b hb => hb.elim .inl fun e => .inr (by rw [e]; exact ⟨Nat.le_refl _, hltc⟩))
          have HM := Lib.hid (HQc.out.w2 xd 0 (some ⟨w8.heap.size, 0, none⟩) xb.size c9 (sF xb) (fun j hj => ⟨w8.heap.size, 0, rfl, .inr rfl, hfc j hj⟩) hc1 hc2)
          have HSc := Lib.hid (show dn.Same (fun b => ((b < w1.heap.size ∨ b = ga) ∨ b = gr) ∨ b = gx) w8 wc9 from fun b hb => hbc.block b (HQ8.out.lt hb))
          have S0 := (HCE.out w8.drew (fun _ _ => rfl)).1
          have S7 := (HCE.out wc9 HSc.out).1
          clear hc1 hc2 hfc hltc hbc
          go_wp2_with fail
          refine rh.region_T (S := (fun W => W.cell? ⟨ga, 0, none⟩ = some (Pq P1) ∧ W.cell? ⟨ga, 1, none⟩ = some (Pq P2) ∧ W.cell? ⟨gx, 2, none⟩ = some (.int .i64 xd) ∧ W.cell? ⟨gx, 3, none⟩ = some (.int .i64 xn) ∧ W.cell? ⟨gx, 4, none⟩ = some (.string xa) ∧ W.cell? ⟨gx, 5, none⟩ = some (.string xb))) (z := 9) (by kernel_rfl) ?_
          simp only [List.size_toArray, List.length_cons, List.length_nil, Nat.zero_add, Nat.reduceAdd]
          rw [show Array.replicate 9 false = #[false, false, false, false, false, false, false, false, false] from rfl]
          refine rh.take_T (i := 0) (.int .i64 1) rfl (by kernel_rfl) (by kernel_rfl) (by kernel_rfl) (by kernel_rfl) (fun _ _ _ h => h) (Or.inl ⟨by rfl, by intro w' hSw; (try dsimp only at hSw); go_simp⟩) S0 ?_
          simp only [Act.put, List.setIfInBounds_toArray, List.set_cons_zero, List.set_cons_succ]
          refine rh.take_T (i := 1) (.pointer (some ⟨ga, 1, none⟩)) rfl (by kernel_rfl) (by kernel_rfl) (by kernel_rfl) (by kernel_rfl) (fun _ _ _ h => h) (Or.inl ⟨by rfl, by intro w' hSw; (try dsimp only at hSw); go_simp⟩) S0 ?_
          simp only [Act.put, List.setIfInBounds_toArray, List.set_cons_zero, List.set_cons_succ]
          refine rh.take_T (i := 2) (Pq P2) rfl (by kernel_rfl) (by kernel_rfl) (by kernel_rfl) (by kernel_rfl) (fun _ _ _ h => h) (Or.inl ⟨by rfl, by intro w' hSw; (try dsimp only at hSw); go_simp⟩) S0 ?_
          simp only [Act.put, List.setIfInBounds_toArray, List.set_cons_zero, List.set_cons_succ]
          refine rh.take_T (i := 3) (.pointer (some ⟨gx, 2, none⟩)) rfl (by kernel_rfl) (by kernel_rfl) (by kernel_rfl) (by kernel_rfl) (fun _ _ _ h => h) (Or.inl ⟨by rfl, by intro w' hSw; (try dsimp only at hSw); go_simp⟩) S0 ?_
          simp only [Act.put, List.setIfInBounds_toArray, List.set_cons_zero, List.set_cons_succ]
          refine rh.take_T (i := 4) (.int .i64 xd) rfl (by kernel_rfl) (by kernel_rfl) (by kernel_rfl) (by kernel_rfl) (fun _ _ _ h => h) (Or.inl ⟨by rfl, by intro w' hSw; (try dsimp only at hSw); go_simp⟩) S0 ?_
          simp only [Act.put, List.setIfInBounds_toArray, List.set_cons_zero, List.set_cons_succ]
          refine rh.take_T (i := 5) (.pointer (some ⟨gx, 5, none⟩)) rfl (by kernel_rfl) (by kernel_rfl) (by kernel_rfl) (by kernel_rfl) (fun _ _ _ h => h) (Or.inl ⟨by rfl, by intro w' hSw; (try dsimp only at hSw); go_simp⟩) S0 ?_
          simp only [Act.put, List.setIfInBounds_toArray, List.set_cons_zero, List.set_cons_succ]
          refine rh.take_T (i := 6) (.string xb) rfl (by kernel_rfl) (by kernel_rfl) (by kernel_rfl) (by kernel_rfl) (fun _ _ _ h => h) (Or.inl ⟨by rfl, by intro w' hSw; (try dsimp only at hSw); go_simp⟩) S0 ?_
          simp only [Act.put, List.setIfInBounds_toArray, List.set_cons_zero, List.set_cons_succ]
          refine rh.step_T (i := 7) (by kernel_rfl) rfl fun K hK => ?_
          go_simp
          refine hK.out _ _ (.inr S7) ?_
          clear hK K
          simp only [Act.put, List.setIfInBounds_toArray, List.set_cons_zero, List.set_cons_succ]
          refine rh.step_T (i := 8) (by kernel_rfl) rfl fun K hK => ?_
          go_simp
          go_at_call 39
          with_reducible refine HM.out.mono ?_
          rintro _ w9 ⟨⟨zq, ze, S'⟩, hw, rfl, hq9, hs9⟩
          dsimp only at hw hq9
          have HWW := Lib.hid hw
          have HQ9 := Lib.hid (hq9.sub (Y := (fun b => ((b < w1.heap.size ∨ b = ga) ∨ b = gr) ∨ b = gx)) fun b hb => .inl hb)
          have HS9 := Lib.hid (show dn.Same (fun b => ((b < w1.heap.size ∨ b = ga) ∨ b = gr) ∨ b = gx) w8 w9 from fun b hb => (hs9 b (.inl hb)).trans (HSc.out b hb))
          clear hq9 hs9 hw
          go_wp2_with fail
          refine hK.out _ _ (.inr (HCE.out w9 HS9.out).1) ?_
          clear hK K
          refine rh.done_T (by kernel_rfl) ?_
          clear S0 S7 HM hcv HQc HSc
          obtain ⟨c9, wc9, hcv, hc1, hc2, hbc, hltc, hfc⟩ := cb.conv_bytes w9.drew xb HXB.out
          replace hcv : (convert 9 53 (.string xb)).run Tryz.prog w9.drew = .ok (.slice (some ⟨w9.heap.size, 0, none⟩) xb.size c9) wc9 := hcv
          have HQc := Lib.hid (show Q4 w1 wc9 ⟨P1, P2, D1, R1, D2, R2⟩ U S' U L j (j + 1) (fun b => (((b < w1.heap.size ∨ b = ga) ∨ b = gr) ∨ b = gx) ∨ b = w9.heap.size) from (HQ9.out.below (Below.refl w9.heap.size w9).drew).box hbc fun b hb => hb.elim .inl fun e => .inr (by rw [e]; exact ⟨Nat.le_refl _, hltc⟩))
          have HM := Lib.hid (HQc.out.v2 HGD.out.2 xd 0 (some ⟨w9.heap.size, 0, none⟩) xb.size c9 (sF xb) (fun j hj => ⟨w9.heap.size, 0, rfl, .inr rfl, hfc j hj⟩) hc1 hc2 HWW.out)
          have HSc := Lib.hid (show dn.Same (fun b => ((b < w1.heap.size ∨ b = ga) ∨ b = gr) ∨ b = gx) w8 wc9 from fun b hb => (hbc.block b (HQ9.out.lt hb)).trans (HS9.out b hb))
          have S0 := (HCE.out w9.drew (fun b hb => HS9.out b hb)).2
          have S7 := (HCE.out wc9 HSc.out).2
          clear hc1 hc2 hfc hltc hbc
          go_wp2_with fail
          refine rh.region_T (S := (fun W => W.cell? ⟨gr, 0, none⟩ = some (Pq D1) ∧ W.cell? ⟨gr, 1, none⟩ = some (Pq D2) ∧ W.cell? ⟨gx, 2, none⟩ = some (.int .i64 xd) ∧ W.cell? ⟨gx, 3, none⟩ = some (.int .i64 xn) ∧ W.cell? ⟨gx, 4, none⟩ = some (.string xa) ∧ W.cell? ⟨gx, 5, none⟩ = some (.string xb))) (z := 9) (by kernel_rfl) ?_
          simp only [List.size_toArray, List.length_cons, List.length_nil, Nat.zero_add, Nat.reduceAdd]
          rw [show Array.replicate 9 false = #[false, false, false, false, false, false, false, false, false] from rfl]
          refine rh.take_T (i := 0) (.int .i64 1) rfl (by kernel_rfl) (by kernel_rfl) (by kernel_rfl) (by kernel_rfl) (fun _ _ _ h => h) (Or.inl ⟨by rfl, by intro w' hSw; (try dsimp only at hSw); go_simp⟩) S0 ?_
          simp only [Act.put, List.setIfInBounds_toArray, List.set_cons_zero, List.set_cons_succ]
          refine rh.take_T (i := 1) (.pointer (some ⟨gr, 1, none⟩)) rfl (by kernel_rfl) (by kernel_rfl) (by kernel_rfl) (by kernel_rfl) (fun _ _ _ h => h) (Or.inl ⟨by rfl, by intro w' hSw; (try dsimp only at hSw); go_simp⟩) S0 ?_
          simp only [Act.put, List.setIfInBounds_toArray, List.set_cons_zero, List.set_cons_succ]
          refine rh.take_T (i := 2) (Pq D2) rfl (by kernel_rfl) (by kernel_rfl) (by kernel_rfl) (by kernel_rfl) (fun _ _ _ h => h) (Or.inl ⟨by rfl, by intro w' hSw; (try dsimp only at hSw); go_simp⟩) S0 ?_
          simp only [Act.put, List.setIfInBounds_toArray, List.set_cons_zero, List.set_cons_succ]
          refine rh.take_T (i := 3) (.pointer (some ⟨gx, 2, none⟩)) rfl (by kernel_rfl) (by kernel_rfl) (by kernel_rfl) (by kernel_rfl) (fun _ _ _ h => h) (Or.inl ⟨by rfl, by intro w' hSw; (try dsimp only at hSw); go_simp⟩) S0 ?_
          simp only [Act.put, List.setIfInBounds_toArray, List.set_cons_zero, List.set_cons_succ]
          refine rh.take_T (i := 4) (.int .i64 xd) rfl (by kernel_rfl) (by kernel_rfl) (by kernel_rfl) (by kernel_rfl) (fun _ _ _ h => h) (Or.inl ⟨by rfl, by intro w' hSw; (try dsimp only at hSw); go_simp⟩) S0 ?_
          simp only [Act.put, List.setIfInBounds_toArray, List.set_cons_zero, List.set_cons_succ]
          refine rh.take_T (i := 5) (.pointer (some ⟨gx, 5, none⟩)) rfl (by kernel_rfl) (by kernel_rfl) (by kernel_rfl) (by kernel_rfl) (fun _ _ _ h => h) (Or.inl ⟨by rfl, by intro w' hSw; (try dsimp only at hSw); go_simp⟩) S0 ?_
          simp only [Act.put, List.setIfInBounds_toArray, List.set_cons_zero, List.set_cons_succ]
          refine rh.take_T (i := 6) (.string xb) rfl (by kernel_rfl) (by kernel_rfl) (by kernel_rfl) (by kernel_rfl) (fun _ _ _ h => h) (Or.inl ⟨by rfl, by intro w' hSw; (try dsimp only at hSw); go_simp⟩) S0 ?_
          simp only [Act.put, List.setIfInBounds_toArray, List.set_cons_zero, List.set_cons_succ]
          refine rh.step_T (i := 7) (by kernel_rfl) rfl fun K hK => ?_
          go_simp
          refine hK.out _ _ (.inr S7) ?_
          clear hK K
          simp only [Act.put, List.setIfInBounds_toArray, List.set_cons_zero, List.set_cons_succ]
          refine rh.step_T (i := 8) (by kernel_rfl) rfl fun K hK => ?_
          go_simp
          go_at_call 40
          with_reducible refine HM.out.mono ?_
          rintro _ wd ⟨rfl, hqd, hsd⟩
          have HSd := Lib.hid (show dn.Same (fun b => ((b < w1.heap.size ∨ b = ga) ∨ b = gr) ∨ b = gx) w8 wd from fun b hb => (hsd b (.inl hb)).trans (HSc.out b hb))
          have HN9 := Lib.hid (HNX.out wd _ _ _ _ (by omega) (by omega) (hqd.sub (Y := (fun b => ((b < w1.heap.size ∨ b = ga) ∨ b = gr) ∨ b = gx)) fun b hb => .inl hb) HSd.out)
          clear hqd hsd
          go_wp2_with fail
          refine hK.out _ _ (.inr (HCE.out wd HSd.out).2) ?_
          clear hK K
          refine rh.done_T (by kernel_rfl) ?_
          clear S0 S7 HM hcv HQc HSc
          go_wp2_with fail
          go_roundg (gk - 1)
          case measure => omega
          case rel => exact ⟨j + 1, U, S', by omega, by go_num, by omega, HN9.out.1, HN9.out.2⟩
        have p3 : (xk == 3) = false := by simpa using q3
        have HN9 := Lib.hid (HNX.out w8 U L j j (Nat.le_succ _) (Nat.le_succ _) HQ8.out (fun _ _ => rfl))
        go_wp2_with fail
        go_roundg (gk - 1)
        case measure => omega
        case rel => exact ⟨j + 1, U, L, by omega, by go_num, by omega, HN9.out.1, HN9.out.2⟩
    · have HBW := Lib.hid (bel_step HB1.out HQ.out.bel)
      have hlt : ¬ ((j : Int) < (n0 : Int) ∧ (j : Int) < 60) := by omega
      have HSS := Lib.hid (fun (W : World) (hb : Below wr.heap.size wr W) => show W.cell? ⟨ga, 0, none⟩ = some (Pq P1) ∧ W.cell? ⟨ga, 1, none⟩ = some (Pq P2) ∧ W.cell? ⟨gr, 0, none⟩ = some (Pq D1) ∧ W.cell? ⟨gr, 1, none⟩ = some (Pq D2) from by
        have h2 := (hb.block ga (HQ.out.lt (.inl (.inr rfl)))).trans HGA.out
        have h3 := (hb.block gr (HQ.out.lt (.inr rfl))).trans HGR.out
        exact ⟨(Lib.cell_of_heap h2 0).trans rfl, (Lib.cell_of_heap h2 1).trans rfl, (Lib.cell_of_heap h3 0).trans rfl, (Lib.cell_of_heap h3 1).trans rfl⟩)
      have HGD := Lib.hid (And.intro HQ.out.good1 HQ.out.good2)
      have HVD := Lib.hid (fun (W : World) (hb : Below wr.heap.size wr W) => show mg.Vd W D1 D2 U L from
        ⟨cb.Sys.ask (HQ.out.below hb) (i := 2) rfl fun O k => by obtain ⟨pl, tg, hd, _⟩ := k; exact ⟨_, _, pl, tg, 500, hd, HGD.out.1⟩, cb.Sys.ask (HQ.out.below hb) (i := 3) rfl fun O k => by obtain ⟨pl, tg, hd, _⟩ := k; exact ⟨_, _, pl, tg, 500, hd, HGD.out.2⟩⟩)
      have HN := Lib.hid (mg.new_vx (HQ.out.below (Below.refl wr.heap.size wr).drew).brx1 (HQ.out.below (Below.refl wr.heap.size wr).drew).brx2 u l)
      have HOC := Lib.hid (fun (W : World) (V : Nat) (h : mg.Vx W V P1 P2 u l U L) => of_any h HGD.out.1 HGD.out.2)
      have HOD := Lib.hid (fun (W : World) (hb : Below wr.heap.size wr W) => rof_any (u := u) (l := l) (HVD.out W hb) HGD.out.1 HGD.out.2 (fun n => allV_ex HGD.out.1.1 HGD.out.2.1 n))
      obtain ⟨X, hX⟩ : ∃ X, ofV U L u l = X := ⟨_, rfl⟩
      have HXL := Lib.hid (show X.length ≤ 1600000 by rw [← hX]; exact ofV_len HGD.out.1 HGD.out.2 u l)
      rw [hX] at HOC HOD
      unfold OfE at HOC
      unfold BelE at HOD
      have HSL := Lib.hid (show sameLs X X = true from sameLs_iff.2 rfl)
      have S0 := HSS.out wr (Below.refl _ _)
      clear hX
      go_wp2_with fail
      all_goals
        go_region_held3 (fun W => W.cell? ⟨ga, 0, none⟩ = some (Pq P1) ∧ W.cell? ⟨ga, 1, none⟩ = some (Pq P2) ∧ W.cell? ⟨gr, 0, none⟩ = some (Pq D1) ∧ W.cell? ⟨gr, 1, none⟩ = some (Pq D2))
          (first | with_reducible exact S0 | with_reducible exact S5 | with_reducible exact S6 | with_reducible exact S7 | with_reducible exact S8 | assumption | go_keep)
          (first
            | (go_at_call 14; ((with_reducible refine HN.out.mono ?_); rintro _ wa ⟨V, rfl, hva, hba⟩; have HBa := Lib.hid (bel_step (Below.refl wr.heap.size wr).drew hba); have S5 := HSS.out wa HBa.out; have HO1 := Lib.hid (HOC.out wa V hva); clear hva hba))
            | (go_at_call 42; ((with_reducible refine HO1.out.mono ?_); rintro _ wb ⟨Ab, rfl, hlb, hbb⟩; obtain ⟨Ac, cc, rfl, hlr, hc1, hc2⟩ := LO.lr hlb; have HBb := Lib.hid (bel_step HBa.out hbb); have S6 := HSS.out wb HBb.out; have HLb := Lib.hid hlr; have HO2 := Lib.hid (HOD.out wb HBb.out); clear hlb hbb hlr hc1 hc2))
            | (go_at_call 43; ((with_reducible refine HO2.out.mono ?_); rintro _ wd ⟨Ad, cd, rfl, hld, hbd⟩; have HBd := Lib.hid (bel_step HBb.out hbd); have S7 := HSS.out wd HBd.out; obtain ⟨Ae, ce, hee, hlr, hc1, hc2⟩ := LO.lr hld; (injection hee with he1 he2 he3; subst he1 he3); have HO3 := Lib.hid (rsame_any (c := cc) (c' := cd) (LR.up (LR.below HLb.out (Nat.le_refl _) hbd) hbd.size) hlr (Nat.le_refl _) (by have := HXL.out; unfold maxLen; omega) (by have := HXL.out; unfold maxLen; omega)); (rw [HSL.out] at HO3; unfold RetW at HO3); clear hld hbd hlr hc1 hc2))
            | (go_at_call 41; ((with_reducible refine HO3.out.mono ?_); rintro _ we ⟨rfl, hbe⟩; have HBe := Lib.hid (bel_step HBd.out hbe); have S8 := HSS.out we HBe.out; clear hbe)))
        clear S0 S5 S6 S7 S8
        have HFE := Lib.hid (bel_step HBW.out HBe.out)
        go_wp2_with fail
        go_ret
        exact ⟨rfl, HFE.out⟩

set_option maxRecDepth 100000 in
theorem lifted (os : Os) (started : os.Started) (H : Type) (enc : TypeId × Value → H) :
    ReturnsInHanded {} Tryz.checked os 4 .any (Rows.flatOfSpec.pre6 enc Tryz.prog Tryz.f4 Rows.flatOfRow.domain false) (Rows.flatOfSpec.post enc Tryz.prog Tryz.f4 false true false false) := by
  refine returnsInHanded_of_change_sized (C := Tryz.checked) own started (by kernel_rfl) Tryz.func4
    (ChangeSpec.witness6 (enc := enc) (C := Tryz.checked) false ⟨#[], #[.slice none 0 0, .int .i64 0, .int .i64 0], []⟩ 8 (by kernel_rfl) (by kernel_rfl) (by kernel_rfl) (by kernel_rfl)) ?_
  intro W base args ds gs before hval0 hW hcnd hsz _
  have hval : ∀ (j : Nat) t v, Tryz.f4.params[j]? = some t → args[j]? = some v → Value.okWide Tryz.prog W .any base t v := hval0
  have hW' := hW
  obtain ⟨p, q, hA0, hV, rfl, hfz, hnd⟩ := hW
  have hA : DataW.TrodAll enc Tryz.prog W 0 (fun _ => true) true Tryz.f4.params.toList args.toList ds p := hA0
  rw [Tryz.params4] at hA hval
  obtain ⟨v0, vs0, d0, ds0, p0, q0, hargs, rfl, rfl, h0, r0⟩ := trodAll_cons hA
  obtain ⟨v1, vs1, d1, ds1, p1, q1, rfl, rfl, rfl, h1, r1⟩ := trodAll_cons r0
  obtain ⟨v2, vs2, d2, ds2, p2, q2, rfl, rfl, rfl, h2, r2⟩ := trodAll_cons r1
  obtain ⟨rfl, rfl, rfl⟩ := trodAll_nil r2
  obtain rfl : args = #[v0, v1, v2] := by cases args; simp_all
  obtain ⟨rfl, rfl⟩ := trodVars_none hV
  have hlt := fun x hx => hW'.lt x hx
  have t0 := h0
  obtain ⟨A0, n0, c0, x0, rfl, e0, s0⟩ := fl.open_acts (hval 0 57 v0 rfl rfl) h0
  obtain ⟨a1, rfl, rfl, rfl, w1⟩ := open_int Tryz.underlying3 (hval 1 3 v1 rfl rfl) h1
  obtain ⟨a2, rfl, rfl, rfl, w2⟩ := open_int Tryz.underlying3 (hval 2 3 v2 rfl rfl) h2
  clear hA0 hval0
  refine (walk A0 n0 c0 x0 a1 a2 W e0 s0).mono fun e W' ⟨he, hg⟩ => ?_
  subst he
  exact ⟨_, rfl, cb.law_post (pv := []) hW' (fun _ _ _ => (trodAll_cons_mk (shut_bool Tryz.underlying4 _) trodAll_mk0)) (fun sp hsp => (trodAll_cons_mk (fl.acts_stay t0 hg (by simp +contextual) hlt hsp laid) (trodAll_cons_mk (shut_int Tryz.underlying3 w1) (trodAll_cons_mk (shut_int Tryz.underlying3 w2) trodAll_mk0)))) (fun _ _ => rfl) (by simp)
    hg (ok_one (by kernel_rfl) rfl (okWide_bool_mk Tryz.underlying4 _))⟩

theorem over : Rows.flatOfRow.holds Tryz.pinned (OpenSpec.ofChange Rows.flatOfSpec) :=
  OpenClaim.holds_of_wide 4 Tryz.f4 rfl rfl rfl rfl rfl rfl rfl ⟨rfl, rfl, rfl, rfl, rfl⟩ rfl rfl rfl rfl rfl (by kernel_rfl) Tryz.func4 (by kernel_rfl)
    (of_decide_eq_true (by kernel_rfl)) (by unfold Func.isWrapper; first | (rw [if_pos (by decide +kernel)]; kernel_rfl) | (rw [if_neg (by decide +kernel)]; exact ⟨rfl, rfl⟩))
    (fun os started H enc _ => lifted os started H enc)

/-- The statement. -/
theorem proved : Rows.FlatOfSaid :=
  over
end Go.Proofs.YtgoddboicjfkcaaGreat.flatOf
