/- For any acts: the awake calls hold; each line of the two branches as one has its directory's line ahead of it, a path that came in no line before, a name above those of its directory that came before, and a kind that a line may have. No condition. -/
import Derived.Test.YtnnaoldpacbagaaGreatRows
import Derived.Test.YtnnaoldpacbagaaGreatZ34
import Derived.Test.YtnnaoldpacbagaaGreatZ35
import Derived.Deep.RegionWith
import Derived.Deep.LoopGhost
import Derived.StillTailTactics
import Derived.Deep.QuietTactic
import Derived.BigQuiet
import Derived.ProofKit
import Derived.OpenShut
import Derived.ShutString
import Derived.SizedLaws
namespace Go.Proofs.YtnnaoldpacbagaaGreat.flatPaths
open Go.ChangeShapes Go.WideShapes Go.ChangeAt Go.RowKit
open Go.ChangeMaps (open_string shut_string)
open Go.Proofs.YtnnaoldpacbagaaGreat.fl
open Go.Proofs.YtnnaoldpacbagaaGreat.cb (RetW RetI BrX)
open Go.Proofs.YtnnaoldpacbagaaGreat.br (BS fresh)
open Go.Proofs.YtnnaoldpacbagaaGreat.bl (Pq)
set_option linter.unusedVariables false
set_option linter.unusedSimpArgs false

theorem own : ownKnob Tryz.prog.godebug = none := by kernel_rfl
theorem laid : laidOutB Tryz.prog = true := by kernel_rfl

set_option maxRecDepth 100000 in
set_option maxHeartbeats 8000000 in
theorem walk (A0 : Option Addr) (n0 c0 : Nat) (F0 : Nat → Act6) (w : World) (hl0 : n0 ≤ c0 ∧ c0 ≤ maxLen) (hr0 : Acts w w.heap.size A0 n0 F0) :
    Calls Tryz.prog 6 #[.slice A0 n0 c0] w (fun e w' => e = .returned (.bool true) ∧ Below w.heap.size w w') := by
  have HA := Lib.hid (awake_any w)
  unfold AwakeE at HA
  have hn0 : n0 ≤ 9223372036854775807 := by have h := Nat.le_trans hl0.1 hl0.2; unfold maxLen at h; exact h
  have HR := Lib.hid hr0
  clear hr0 hl0
  go_enter Tryz.func6, Tryz.ntmps6
  go_wp2_with fail
  refine HA.out.mono ?_
  rintro _ w1 ⟨rfl, hb1⟩
  have HB1 := Lib.hid hb1
  have HR1 := Lib.hid (HR.out.same fun b hb => hb1.block b hb)
  have HP := Lib.hid (cb.x_new (w0 := w1) (w := w1) 500 (by decide) (Below.refl _ _))
  clear hb1 HA
  go_wp2_with fail
  refine HP.out.mono ?_
  rintro _ w2 ⟨P1, rfl, h1, hb2, -⟩
  have H1 := Lib.hid h1
  have HB2 := Lib.hid hb2
  have HP := Lib.hid (cb.x_new (w0 := w1) (w := w2) 500 (by decide) hb2)
  clear h1 hb2
  go_wp2_with fail
  refine HP.out.mono ?_
  rintro _ w3 ⟨P2, rfl, h2, hb3, -⟩
  have HQ3 := Lib.hid (Q2.news H1.out h2 HB2.out hb3)
  have HB3 := Lib.hid (mg.bel_step HB2.out hb3)
  obtain ⟨ga, hga⟩ : ∃ g, w3.heap.size = g := ⟨_, rfl⟩
  obtain ⟨w4, hw4⟩ : ∃ w4, w3.alloc (.cells #[Pq P1, Pq P2] 59) = w4 := ⟨_, rfl⟩
  have hb4 : Below w3.heap.size w3 w4 := by rw [← hw4]; exact mg.bel_alloc _ _
  have HG4 := Lib.hid (show w4.heap[ga]? = some (.cells #[Pq P1, Pq P2] 59 (0, 0)) by rw [← hw4, ← hga]; exact heap_alloc_new w3 _)
  have HQ4 := Lib.hid (HQ3.out.box (Y := fun b => b < w1.heap.size ∨ b = ga) hb4 (fun b hb => hb.imp id fun e => by rw [e, ← hga, ← hw4, World.size_alloc]; omega))
  have HB4 := Lib.hid (mg.bel_step HB3.out hb4)
  have c0 : w4.cell? ⟨ga, 0, none⟩ = some (Pq P1) := (Lib.cell_of_heap HG4.out 0).trans rfl
  have c1 : w4.cell? ⟨ga, 1, none⟩ = some (Pq P2) := (Lib.cell_of_heap HG4.out 1).trans rfl
  clear h2 hb3 hb4 HP HQ3 HB3 H1 HB2
  go_upto_region 7 with fail
  try rw [hw4]
  clear hw4 hga c0 c1
  go_loopg [4] n0 (fun gh s4 wr => ∃ (j : Nat), gh + j = n0 ∧ s4 = .int .i64 j ∧ j ≤ 60 ∧ Hid (Q2 w1 wr P1 P2 j (fun b => b < w1.heap.size ∨ b = ga)) ∧ Hid (dn.Same (fun b => b < w1.heap.size ∨ b = ga) w4 wr))
  case atStart => exact ⟨0, by omega, rfl, by omega, HQ4, Lib.hid (fun _ _ => rfl)⟩
  case round =>
    obtain ⟨j, hgj, rfl, hj60, HQ, HS⟩ := hrel
    have HGA := Lib.hid ((HS.out ga (.inr rfl)).trans HG4.out)
    by_cases hje : j < n0 ∧ j < 60
    · obtain ⟨hj, hj6⟩ := hje
      obtain ⟨bb, off, hA, hbB, k0, k1, k2, k3, k4, k5, kz4, kz5⟩ := HR1.out j hj
      subst hA
      have hsm : wr.heap[bb]? = w1.heap[bb]? := (HS.out bb (.inl (Nat.lt_of_lt_of_le hbB HB1.out.size))).trans (HB4.out.block bb (Nat.lt_of_lt_of_le hbB HB1.out.size))
      replace k0 := (World.cell?_of_block (a := ⟨bb, off + j * 6, none⟩) hsm).trans k0
      replace k1 := (World.cell?_of_block (a := ⟨bb, off + j * 6 + 1, none⟩) hsm).trans k1
      replace k2 := (World.cell?_of_block (a := ⟨bb, off + j * 6 + 2, none⟩) hsm).trans k2
      replace k3 := (World.cell?_of_block (a := ⟨bb, off + j * 6 + 3, none⟩) hsm).trans k3
      replace k4 := (World.cell?_of_block (a := ⟨bb, off + j * 6 + 4, none⟩) hsm).trans k4
      replace k5 := (World.cell?_of_block (a := ⟨bb, off + j * 6 + 5, none⟩) hsm).trans k5
      obtain ⟨x, hx⟩ : ∃ x, F0 j = x := ⟨_, rfl⟩
      rw [hx] at k0 k1 k2 k3 k4 k5 kz4 kz5
      obtain ⟨xl, xk, xd, xn, xa, xb⟩ := x
      clear hx
      dsimp only at k0 k1 k2 k3 k4 k5 kz4 kz5
      have ha0 : xa.size ≤ 9223372036854775807 := by unfold maxLen at kz4; exact kz4
      have hb0 : xb.size ≤ 9223372036854775807 := by unfold maxLen at kz5; exact kz5
      obtain ⟨w5, hw5⟩ : ∃ w5, wr.alloc (.cells #[.bool xl, .int .i64 xk, .int .i64 xd, .int .i64 xn, .string xa, .string xb] 63) = w5 := ⟨_, rfl⟩
      obtain ⟨gx, hgx⟩ : ∃ g, wr.heap.size = g := ⟨_, rfl⟩
      have hb5 : Below wr.heap.size wr w5 := by rw [← hw5]; exact mg.bel_alloc _ _
      have HX5 := Lib.hid (show w5.heap[gx]? = some (.cells #[.bool xl, .int .i64 xk, .int .i64 xd, .int .i64 xn, .string xa, .string xb] 63 (0, 0)) by rw [← hw5, ← hgx]; exact heap_alloc_new wr _)
      have HQ5 := Lib.hid (HQ.out.box (Y := fun b => (b < w1.heap.size ∨ b = ga) ∨ b = gx) hb5 (fun b hb => hb.imp id fun e => by rw [e, ← hgx, ← hw5, World.size_alloc]; omega))
      have HGA5 := Lib.hid ((hb5.block ga (HQ.out.lt (.inr rfl))).trans HGA.out)
      have HS5 := Lib.hid (same_trans HS.out (fun b hb => hb5.block b (HQ.out.lt hb)))
      have HBW := Lib.hid (mg.bel_step HB1.out HQ5.out.bel)
      obtain ⟨e0, e1, e2, e3, e4, e5⟩ : w5.cell? ⟨gx, 0, none⟩ = some (.bool xl) ∧ w5.cell? ⟨gx, 1, none⟩ = some (.int .i64 xk) ∧ w5.cell? ⟨gx, 2, none⟩ = some (.int .i64 xd) ∧ w5.cell? ⟨gx, 3, none⟩ = some (.int .i64 xn) ∧ w5.cell? ⟨gx, 4, none⟩ = some (.string xa) ∧ w5.cell? ⟨gx, 5, none⟩ = some (.string xb) :=
        ⟨(Lib.cell_of_heap HX5.out 0).trans rfl, (Lib.cell_of_heap HX5.out 1).trans rfl, (Lib.cell_of_heap HX5.out 2).trans rfl, (Lib.cell_of_heap HX5.out 3).trans rfl, (Lib.cell_of_heap HX5.out 4).trans rfl, (Lib.cell_of_heap HX5.out 5).trans rfl⟩
      have g0 : w5.cell? ⟨ga, 0, none⟩ = some (Pq P1) := (Lib.cell_of_heap HGA5.out 0).trans rfl
      have g1 : w5.cell? ⟨ga, 1, none⟩ = some (Pq P2) := (Lib.cell_of_heap HGA5.out 1).trans rfl
      obtain ⟨bs, hbs⟩ : ∃ n, xb.size = n := ⟨_, rfl⟩
      clear hsm hbB hb5 kz4 kz5
      by_cases hbig : 2048 < bs
      · have hbi : (2048 : Int) < (bs : Int) := by omega
        go_wp2_with fail
        go_ret
        exact ⟨rfl, HBW.out⟩
      have hbi : ¬ (2048 : Int) < (bs : Int) := by omega
      have HQd := Lib.hid (HQ5.out.below (Below.refl w5.heap.size w5).drew)
      have HNX := Lib.hid (show ∀ (W : World) (T : Nat), T ≤ j + 1 → Q2 w1 W P1 P2 T (fun b => (b < w1.heap.size ∨ b = ga) ∨ b = gx) → dn.Same (fun b => (b < w1.heap.size ∨ b = ga) ∨ b = gx) w5 W → Hid (Q2 w1 W P1 P2 (j + 1) (fun b => b < w1.heap.size ∨ b = ga)) ∧ Hid (dn.Same (fun b => b < w1.heap.size ∨ b = ga) w4 W) from
        fun W T hT a b => ⟨Lib.hid ((a.up hT).sub fun _ h => .inl h), Lib.hid (same_trans HS5.out fun x hx => b x (.inl hx))⟩)
      cases xl with
      | false =>
        by_cases q0 : xk = 0
        · subst q0
          have HM := Lib.hid (HQd.out.make (by omega) xd xa xn xb ha0 hb0 false)
          rw [if_neg (by decide)] at HM
          unfold QE at HM
          have S0 : w5.cell? ⟨ga, 0, none⟩ = some (Pq P1) ∧ w5.cell? ⟨ga, 1, none⟩ = some (Pq P2) ∧ w5.cell? ⟨gx, 2, none⟩ = some (.int .i64 xd) ∧ w5.cell? ⟨gx, 3, none⟩ = some (.int .i64 xn) ∧ w5.cell? ⟨gx, 4, none⟩ = some (.string xa) ∧ w5.cell? ⟨gx, 5, none⟩ = some (.string xb) := ⟨g0, g1, e2, e3, e4, e5⟩
          go_wp2_with fail
          go_region_held3 (fun w' => w'.cell? ⟨ga, 0, none⟩ = some (Pq P1) ∧ w'.cell? ⟨ga, 1, none⟩ = some (Pq P2) ∧ w'.cell? ⟨gx, 2, none⟩ = some (.int .i64 xd) ∧ w'.cell? ⟨gx, 3, none⟩ = some (.int .i64 xn) ∧ w'.cell? ⟨gx, 4, none⟩ = some (.string xa) ∧ w'.cell? ⟨gx, 5, none⟩ = some (.string xb)) (first | with_reducible exact S0 | with_reducible exact S6 | assumption | go_keep) (first | (go_at_call 29; ((with_reducible refine HM.out.mono ?_); rintro _ w6 ⟨v6, rfl, hq6, hs6⟩; have HN6 := Lib.hid (HNX.out w6 (j + 1) (Nat.le_refl _) hq6 hs6); have S6 : w6.cell? ⟨ga, 0, none⟩ = some (Pq P1) ∧ w6.cell? ⟨ga, 1, none⟩ = some (Pq P2) ∧ w6.cell? ⟨gx, 2, none⟩ = some (.int .i64 xd) ∧ w6.cell? ⟨gx, 3, none⟩ = some (.int .i64 xn) ∧ w6.cell? ⟨gx, 4, none⟩ = some (.string xa) ∧ w6.cell? ⟨gx, 5, none⟩ = some (.string xb) := ⟨(World.cell?_of_block (a := ⟨ga, 0, none⟩) (hs6 ga (.inl (.inr rfl)))).trans g0, (World.cell?_of_block (a := ⟨ga, 1, none⟩) (hs6 ga (.inl (.inr rfl)))).trans g1, (World.cell?_of_block (a := ⟨gx, 2, none⟩) (hs6 gx (.inr rfl))).trans e2, (World.cell?_of_block (a := ⟨gx, 3, none⟩) (hs6 gx (.inr rfl))).trans e3, (World.cell?_of_block (a := ⟨gx, 4, none⟩) (hs6 gx (.inr rfl))).trans e4, (World.cell?_of_block (a := ⟨gx, 5, none⟩) (hs6 gx (.inr rfl))).trans e5⟩; clear hq6 hs6)) | fail)
          clear S0 S6
          go_wp2_with fail
          go_roundg (gk - 1)
          case measure => omega
          case rel => exact ⟨j + 1, by omega, by go_num, by omega, HN6.out.1, HN6.out.2⟩
        have p0 : (xk == 0) = false := by simpa using q0
        by_cases q1 : xk = 1
        · subst q1
          have HM := Lib.hid (HQd.out.unlink (by omega) xd xa false)
          rw [if_neg (by decide)] at HM
          unfold QE at HM
          have S0 : w5.cell? ⟨ga, 0, none⟩ = some (Pq P1) ∧ w5.cell? ⟨ga, 1, none⟩ = some (Pq P2) ∧ w5.cell? ⟨gx, 2, none⟩ = some (.int .i64 xd) ∧ w5.cell? ⟨gx, 3, none⟩ = some (.int .i64 xn) ∧ w5.cell? ⟨gx, 4, none⟩ = some (.string xa) ∧ w5.cell? ⟨gx, 5, none⟩ = some (.string xb) := ⟨g0, g1, e2, e3, e4, e5⟩
          go_wp2_with fail
          go_region_held3 (fun w' => w'.cell? ⟨ga, 0, none⟩ = some (Pq P1) ∧ w'.cell? ⟨ga, 1, none⟩ = some (Pq P2) ∧ w'.cell? ⟨gx, 2, none⟩ = some (.int .i64 xd) ∧ w'.cell? ⟨gx, 3, none⟩ = some (.int .i64 xn) ∧ w'.cell? ⟨gx, 4, none⟩ = some (.string xa) ∧ w'.cell? ⟨gx, 5, none⟩ = some (.string xb)) (first | with_reducible exact S0 | with_reducible exact S6 | assumption | go_keep) (first | (go_at_call 31; ((with_reducible refine HM.out.mono ?_); rintro _ w6 ⟨v6, rfl, hq6, hs6⟩; have HN6 := Lib.hid (HNX.out w6 (j + 1) (Nat.le_refl _) hq6 hs6); have S6 : w6.cell? ⟨ga, 0, none⟩ = some (Pq P1) ∧ w6.cell? ⟨ga, 1, none⟩ = some (Pq P2) ∧ w6.cell? ⟨gx, 2, none⟩ = some (.int .i64 xd) ∧ w6.cell? ⟨gx, 3, none⟩ = some (.int .i64 xn) ∧ w6.cell? ⟨gx, 4, none⟩ = some (.string xa) ∧ w6.cell? ⟨gx, 5, none⟩ = some (.string xb) := ⟨(World.cell?_of_block (a := ⟨ga, 0, none⟩) (hs6 ga (.inl (.inr rfl)))).trans g0, (World.cell?_of_block (a := ⟨ga, 1, none⟩) (hs6 ga (.inl (.inr rfl)))).trans g1, (World.cell?_of_block (a := ⟨gx, 2, none⟩) (hs6 gx (.inr rfl))).trans e2, (World.cell?_of_block (a := ⟨gx, 3, none⟩) (hs6 gx (.inr rfl))).trans e3, (World.cell?_of_block (a := ⟨gx, 4, none⟩) (hs6 gx (.inr rfl))).trans e4, (World.cell?_of_block (a := ⟨gx, 5, none⟩) (hs6 gx (.inr rfl))).trans e5⟩; clear hq6 hs6)) | fail)
          clear S0 S6
          go_wp2_with fail
          go_roundg (gk - 1)
          case measure => omega
          case rel => exact ⟨j + 1, by omega, by go_num, by omega, HN6.out.1, HN6.out.2⟩
        have p1 : (xk == 1) = false := by simpa using q1
        by_cases q2 : xk = 2
        · subst q2
          have HM := Lib.hid (HQd.out.mark (by omega) xd xn false)
          rw [if_neg (by decide)] at HM
          unfold QE at HM
          have S0 : w5.cell? ⟨ga, 0, none⟩ = some (Pq P1) ∧ w5.cell? ⟨ga, 1, none⟩ = some (Pq P2) ∧ w5.cell? ⟨gx, 2, none⟩ = some (.int .i64 xd) ∧ w5.cell? ⟨gx, 3, none⟩ = some (.int .i64 xn) ∧ w5.cell? ⟨gx, 4, none⟩ = some (.string xa) ∧ w5.cell? ⟨gx, 5, none⟩ = some (.string xb) := ⟨g0, g1, e2, e3, e4, e5⟩
          go_wp2_with fail
          go_region_held3 (fun w' => w'.cell? ⟨ga, 0, none⟩ = some (Pq P1) ∧ w'.cell? ⟨ga, 1, none⟩ = some (Pq P2) ∧ w'.cell? ⟨gx, 2, none⟩ = some (.int .i64 xd) ∧ w'.cell? ⟨gx, 3, none⟩ = some (.int .i64 xn) ∧ w'.cell? ⟨gx, 4, none⟩ = some (.string xa) ∧ w'.cell? ⟨gx, 5, none⟩ = some (.string xb)) (first | with_reducible exact S0 | with_reducible exact S6 | assumption | go_keep) (first | (go_at_call 33; ((with_reducible refine HM.out.mono ?_); rintro _ w6 ⟨v6, rfl, hq6, hs6⟩; have HN6 := Lib.hid (HNX.out w6 (j + 1) (Nat.le_refl _) hq6 hs6); have S6 : w6.cell? ⟨ga, 0, none⟩ = some (Pq P1) ∧ w6.cell? ⟨ga, 1, none⟩ = some (Pq P2) ∧ w6.cell? ⟨gx, 2, none⟩ = some (.int .i64 xd) ∧ w6.cell? ⟨gx, 3, none⟩ = some (.int .i64 xn) ∧ w6.cell? ⟨gx, 4, none⟩ = some (.string xa) ∧ w6.cell? ⟨gx, 5, none⟩ = some (.string xb) := ⟨(World.cell?_of_block (a := ⟨ga, 0, none⟩) (hs6 ga (.inl (.inr rfl)))).trans g0, (World.cell?_of_block (a := ⟨ga, 1, none⟩) (hs6 ga (.inl (.inr rfl)))).trans g1, (World.cell?_of_block (a := ⟨gx, 2, none⟩) (hs6 gx (.inr rfl))).trans e2, (World.cell?_of_block (a := ⟨gx, 3, none⟩) (hs6 gx (.inr rfl))).trans e3, (World.cell?_of_block (a := ⟨gx, 4, none⟩) (hs6 gx (.inr rfl))).trans e4, (World.cell?_of_block (a := ⟨gx, 5, none⟩) (hs6 gx (.inr rfl))).trans e5⟩; clear hq6 hs6)) | fail)
          clear S0 S6
          go_wp2_with fail
          go_roundg (gk - 1)
          case measure => omega
          case rel => exact ⟨j + 1, by omega, by go_num, by omega, HN6.out.1, HN6.out.2⟩
        have p2 : (xk == 2) = false := by simpa using q2
        have HN6 := Lib.hid (HNX.out w5 j (Nat.le_succ _) HQ5.out (fun _ _ => rfl))
        go_wp2_with fail
        go_roundg (gk - 1)
        case measure => omega
        case rel => exact ⟨j + 1, by omega, by go_num, by omega, HN6.out.1, HN6.out.2⟩
      | true =>
        by_cases q0 : xk = 0
        · subst q0
          have HM := Lib.hid (HQd.out.make (by omega) xd xa xn xb ha0 hb0 true)
          rw [if_pos rfl] at HM
          unfold QE at HM
          have S0 : w5.cell? ⟨ga, 0, none⟩ = some (Pq P1) ∧ w5.cell? ⟨ga, 1, none⟩ = some (Pq P2) ∧ w5.cell? ⟨gx, 2, none⟩ = some (.int .i64 xd) ∧ w5.cell? ⟨gx, 3, none⟩ = some (.int .i64 xn) ∧ w5.cell? ⟨gx, 4, none⟩ = some (.string xa) ∧ w5.cell? ⟨gx, 5, none⟩ = some (.string xb) := ⟨g0, g1, e2, e3, e4, e5⟩
          go_wp2_with fail
          go_region_held3 (fun w' => w'.cell? ⟨ga, 0, none⟩ = some (Pq P1) ∧ w'.cell? ⟨ga, 1, none⟩ = some (Pq P2) ∧ w'.cell? ⟨gx, 2, none⟩ = some (.int .i64 xd) ∧ w'.cell? ⟨gx, 3, none⟩ = some (.int .i64 xn) ∧ w'.cell? ⟨gx, 4, none⟩ = some (.string xa) ∧ w'.cell? ⟨gx, 5, none⟩ = some (.string xb)) (first | with_reducible exact S0 | with_reducible exact S6 | assumption | go_keep) (first | (go_at_call 29; ((with_reducible refine HM.out.mono ?_); rintro _ w6 ⟨v6, rfl, hq6, hs6⟩; have HN6 := Lib.hid (HNX.out w6 (j + 1) (Nat.le_refl _) hq6 hs6); have S6 : w6.cell? ⟨ga, 0, none⟩ = some (Pq P1) ∧ w6.cell? ⟨ga, 1, none⟩ = some (Pq P2) ∧ w6.cell? ⟨gx, 2, none⟩ = some (.int .i64 xd) ∧ w6.cell? ⟨gx, 3, none⟩ = some (.int .i64 xn) ∧ w6.cell? ⟨gx, 4, none⟩ = some (.string xa) ∧ w6.cell? ⟨gx, 5, none⟩ = some (.string xb) := ⟨(World.cell?_of_block (a := ⟨ga, 0, none⟩) (hs6 ga (.inl (.inr rfl)))).trans g0, (World.cell?_of_block (a := ⟨ga, 1, none⟩) (hs6 ga (.inl (.inr rfl)))).trans g1, (World.cell?_of_block (a := ⟨gx, 2, none⟩) (hs6 gx (.inr rfl))).trans e2, (World.cell?_of_block (a := ⟨gx, 3, none⟩) (hs6 gx (.inr rfl))).trans e3, (World.cell?_of_block (a := ⟨gx, 4, none⟩) (hs6 gx (.inr rfl))).trans e4, (World.cell?_of_block (a := ⟨gx, 5, none⟩) (hs6 gx (.inr rfl))).trans e5⟩; clear hq6 hs6)) | fail)
          clear S0 S6
          go_wp2_with fail
          go_roundg (gk - 1)
          case measure => omega
          case rel => exact ⟨j + 1, by omega, by go_num, by omega, HN6.out.1, HN6.out.2⟩
        have p0 : (xk == 0) = false := by simpa using q0
        by_cases q1 : xk = 1
        · subst q1
          have HM := Lib.hid (HQd.out.unlink (by omega) xd xa true)
          rw [if_pos rfl] at HM
          unfold QE at HM
          have S0 : w5.cell? ⟨ga, 0, none⟩ = some (Pq P1) ∧ w5.cell? ⟨ga, 1, none⟩ = some (Pq P2) ∧ w5.cell? ⟨gx, 2, none⟩ = some (.int .i64 xd) ∧ w5.cell? ⟨gx, 3, none⟩ = some (.int .i64 xn) ∧ w5.cell? ⟨gx, 4, none⟩ = some (.string xa) ∧ w5.cell? ⟨gx, 5, none⟩ = some (.string xb) := ⟨g0, g1, e2, e3, e4, e5⟩
          go_wp2_with fail
          go_region_held3 (fun w' => w'.cell? ⟨ga, 0, none⟩ = some (Pq P1) ∧ w'.cell? ⟨ga, 1, none⟩ = some (Pq P2) ∧ w'.cell? ⟨gx, 2, none⟩ = some (.int .i64 xd) ∧ w'.cell? ⟨gx, 3, none⟩ = some (.int .i64 xn) ∧ w'.cell? ⟨gx, 4, none⟩ = some (.string xa) ∧ w'.cell? ⟨gx, 5, none⟩ = some (.string xb)) (first | with_reducible exact S0 | with_reducible exact S6 | assumption | go_keep) (first | (go_at_call 31; ((with_reducible refine HM.out.mono ?_); rintro _ w6 ⟨v6, rfl, hq6, hs6⟩; have HN6 := Lib.hid (HNX.out w6 (j + 1) (Nat.le_refl _) hq6 hs6); have S6 : w6.cell? ⟨ga, 0, none⟩ = some (Pq P1) ∧ w6.cell? ⟨ga, 1, none⟩ = some (Pq P2) ∧ w6.cell? ⟨gx, 2, none⟩ = some (.int .i64 xd) ∧ w6.cell? ⟨gx, 3, none⟩ = some (.int .i64 xn) ∧ w6.cell? ⟨gx, 4, none⟩ = some (.string xa) ∧ w6.cell? ⟨gx, 5, none⟩ = some (.string xb) := ⟨(World.cell?_of_block (a := ⟨ga, 0, none⟩) (hs6 ga (.inl (.inr rfl)))).trans g0, (World.cell?_of_block (a := ⟨ga, 1, none⟩) (hs6 ga (.inl (.inr rfl)))).trans g1, (World.cell?_of_block (a := ⟨gx, 2, none⟩) (hs6 gx (.inr rfl))).trans e2, (World.cell?_of_block (a := ⟨gx, 3, none⟩) (hs6 gx (.inr rfl))).trans e3, (World.cell?_of_block (a := ⟨gx, 4, none⟩) (hs6 gx (.inr rfl))).trans e4, (World.cell?_of_block (a := ⟨gx, 5, none⟩) (hs6 gx (.inr rfl))).trans e5⟩; clear hq6 hs6)) | fail)
          clear S0 S6
          go_wp2_with fail
          go_roundg (gk - 1)
          case measure => omega
          case rel => exact ⟨j + 1, by omega, by go_num, by omega, HN6.out.1, HN6.out.2⟩
        have p1 : (xk == 1) = false := by simpa using q1
        by_cases q2 : xk = 2
        · subst q2
          have HM := Lib.hid (HQd.out.mark (by omega) xd xn true)
          rw [if_pos rfl] at HM
          unfold QE at HM
          have S0 : w5.cell? ⟨ga, 0, none⟩ = some (Pq P1) ∧ w5.cell? ⟨ga, 1, none⟩ = some (Pq P2) ∧ w5.cell? ⟨gx, 2, none⟩ = some (.int .i64 xd) ∧ w5.cell? ⟨gx, 3, none⟩ = some (.int .i64 xn) ∧ w5.cell? ⟨gx, 4, none⟩ = some (.string xa) ∧ w5.cell? ⟨gx, 5, none⟩ = some (.string xb) := ⟨g0, g1, e2, e3, e4, e5⟩
          go_wp2_with fail
          go_region_held3 (fun w' => w'.cell? ⟨ga, 0, none⟩ = some (Pq P1) ∧ w'.cell? ⟨ga, 1, none⟩ = some (Pq P2) ∧ w'.cell? ⟨gx, 2, none⟩ = some (.int .i64 xd) ∧ w'.cell? ⟨gx, 3, none⟩ = some (.int .i64 xn) ∧ w'.cell? ⟨gx, 4, none⟩ = some (.string xa) ∧ w'.cell? ⟨gx, 5, none⟩ = some (.string xb)) (first | with_reducible exact S0 | with_reducible exact S6 | assumption | go_keep) (first | (go_at_call 33; ((with_reducible refine HM.out.mono ?_); rintro _ w6 ⟨v6, rfl, hq6, hs6⟩; have HN6 := Lib.hid (HNX.out w6 (j + 1) (Nat.le_refl _) hq6 hs6); have S6 : w6.cell? ⟨ga, 0, none⟩ = some (Pq P1) ∧ w6.cell? ⟨ga, 1, none⟩ = some (Pq P2) ∧ w6.cell? ⟨gx, 2, none⟩ = some (.int .i64 xd) ∧ w6.cell? ⟨gx, 3, none⟩ = some (.int .i64 xn) ∧ w6.cell? ⟨gx, 4, none⟩ = some (.string xa) ∧ w6.cell? ⟨gx, 5, none⟩ = some (.string xb) := ⟨(World.cell?_of_block (a := ⟨ga, 0, none⟩) (hs6 ga (.inl (.inr rfl)))).trans g0, (World.cell?_of_block (a := ⟨ga, 1, none⟩) (hs6 ga (.inl (.inr rfl)))).trans g1, (World.cell?_of_block (a := ⟨gx, 2, none⟩) (hs6 gx (.inr rfl))).trans e2, (World.cell?_of_block (a := ⟨gx, 3, none⟩) (hs6 gx (.inr rfl))).trans e3, (World.cell?_of_block (a := ⟨gx, 4, none⟩) (hs6 gx (.inr rfl))).trans e4, (World.cell?_of_block (a := ⟨gx, 5, none⟩) (hs6 gx (.inr rfl))).trans e5⟩; clear hq6 hs6)) | fail)
          clear S0 S6
          go_wp2_with fail
          go_roundg (gk - 1)
          case measure => omega
          case rel => exact ⟨j + 1, by omega, by go_num, by omega, HN6.out.1, HN6.out.2⟩
        have p2 : (xk == 2) = false := by simpa using q2
        have HN6 := Lib.hid (HNX.out w5 j (Nat.le_succ _) HQ5.out (fun _ _ => rfl))
        go_wp2_with fail
        go_roundg (gk - 1)
        case measure => omega
        case rel => exact ⟨j + 1, by omega, by go_num, by omega, HN6.out.1, HN6.out.2⟩
    · obtain ⟨U, L, hU, hL⟩ := HQ.out.brx
      have HUB := Lib.hid hU
      have HLB := Lib.hid hL
      have HBW := Lib.hid (mg.bel_step HB1.out HQ.out.bel)
      have g0 : wr.cell? ⟨ga, 0, none⟩ = some (Pq P1) := (Lib.cell_of_heap HGA.out 0).trans rfl
      have g1 : wr.cell? ⟨ga, 1, none⟩ = some (Pq P2) := (Lib.cell_of_heap HGA.out 1).trans rfl
      have HN := Lib.hid (mg.new_any P1 P2 1 1 wr)
      have HVX := Lib.hid (mg.Vx.made (u := 1) (l := 1) hU hL)
      have HOF := Lib.hid (of_any HVX.out hU.good hL.good)
      obtain ⟨X, hX⟩ : ∃ X, ofV U L 1 1 = X := ⟨_, rfl⟩
      have HXX := Lib.hid hX
      have HXL := Lib.hid (show X.length ≤ 1600000 by rw [← hX]; exact ofV_len hU.good hL.good 1 1)
      rw [hX] at HOF
      unfold OfE at HOF
      have hlt : ¬ ((j : Int) < (n0 : Int) ∧ (j : Int) < 60) := by omega
      obtain ⟨Z, hZ⟩ : ∃ Z, linesZ U L 202 (mg.rootV U L 1 1) ⟨#[]⟩ = Z := ⟨_, rfl⟩
      have HZO := Lib.hid (show OkAll [] Z by rw [← hZ]; exact top_ok hU.good.1 hL.good.1 _)
      have HZX := Lib.hid (show Z.map Zn.ln = X by rw [← hZ, linesZ_ln, ← hX]; rfl)
      clear hU hL hX hZ HQ HS HGA HUB HLB
      have hjj : ¬ (j < n0) ∨ (j < n0 ∧ j = 60) := by omega
      rcases hjj with hj | ⟨hj, rfl⟩
      all_goals
        go_wp2_with fail
        refine HN.out.mono ?_
        rintro _ w5 ⟨rfl, rfl⟩
        have HB5 := Lib.hid (mg.bel_step HBW.out (mg.bel_alloc wr (.cells #[Pq P1, Pq P2, .int .i64 1, .int .i64 1] 90)))
        clear g0 g1 HVX HN
        go_wp2_with fail
        refine HOF.out.mono ?_
        rintro _ w6 ⟨A6, rfl, hlo, hb6⟩
        obtain ⟨A', c, rfl, hlr, hc1, hc2⟩ := hlo.lr
        have HB6 := Lib.hid (mg.bel_step HB5.out hb6)
        have HLM := Lib.hid hlr
        clear HOF hlo hb6 hlr HB5
        obtain ⟨m, hm⟩ : ∃ m, X.length = m := ⟨_, rfl⟩
        rw [hm] at hc1 ⊢
        have HMX := Lib.hid hm
        clear hm
        obtain ⟨p1, hp1⟩ : ∃ b, w6.heap.size = b := ⟨_, rfl⟩
        obtain ⟨w7, hw7⟩ : ∃ w7, w6.alloc (.map #[] 0) = w7 := ⟨_, rfl⟩
        have hk1 : (Instr.makeMap 76 none).run Tryz.prog w6 = .ok (.map (some p1)) w7 := by rw [← hw7, ← hp1]; rfl
        have ma7 : MapB w7 p1 0 (fun _ => none) := by rw [← hw7, ← hp1]; exact MapB.made w6
        have b7 : Below w6.heap.size w6 w7 := by rw [← hw7]; exact mg.bel_alloc _ _
        obtain ⟨p2, hp2⟩ : ∃ b, w7.heap.size = b := ⟨_, rfl⟩
        obtain ⟨w8, hw8⟩ : ∃ w8, w7.alloc (.map #[] 0) = w8 := ⟨_, rfl⟩
        have hk2 : (Instr.makeMap 76 none).run Tryz.prog w7 = .ok (.map (some p2)) w8 := by rw [← hw8, ← hp2]; rfl
        have mb8 : MapB w8 p2 0 (fun _ => none) := by rw [← hw8, ← hp2]; exact MapB.made w7
        have b8 : Below w7.heap.size w7 w8 := by rw [← hw8]; exact mg.bel_alloc _ _
        have p12 : p1 < p2 := by rw [← hp2]; exact ma7.lt
        obtain ⟨w9, hi9, mb9, g9⟩ := mb8.put (by decide) (a := ⟨#[]⟩) (by decide) true
        obtain ⟨p3, hp3⟩ : ∃ b, w9.heap.size = b := ⟨_, rfl⟩
        obtain ⟨wa, hwa⟩ : ∃ wa, w9.alloc (.map #[] 0) = wa := ⟨_, rfl⟩
        have hk3 : (Instr.makeMap 77 none).run Tryz.prog w9 = .ok (.map (some p3)) wa := by rw [← hwa, ← hp3]; rfl
        have mca : MapT wa p3 0 (fun _ => none) := by rw [← hwa, ← hp3]; exact MapT.made w9
        have ba : Below w9.heap.size w9 wa := by rw [← hwa]; exact mg.bel_alloc _ _
        have p23 : p2 < p3 := by rw [← hp3]; exact mb9.lt
        have HSA := Lib.hid (show MapB wa p1 (0 + 0) (seenF (Z.take 0)) from (((ma7.below b8).grown g9 (by intro e; injection e with e; omega)).below ba))
        have HSB := Lib.hid (show MapB wa p2 (0 + 1) (dirF (Z.take 0)) from mb9.below ba)
        have HSC := Lib.hid (show MapT wa p3 (0 + 0) (lastF (Z.take 0)) from mca)
        have HBA := Lib.hid (show Below p1 w6 wa from hp1 ▸ mg.bel_step (mg.grown_bel (mg.bel_step b7 b8) g9 (fun k e => by injection e with e; omega)) ba)
        have HP1 := Lib.hid hp1
        rw [hp1] at HLM
        have HPP := Lib.hid (show p1 < p2 ∧ p2 < p3 from ⟨p12, p23⟩)
        clear ma7 b7 mb8 b8 mb9 g9 mca ba hw7 hw8 hwa hp2 hp3 p12 p23
        have HZL := Lib.hid (show Z.length = m by rw [← HMX.out, ← HZX.out, List.length_map])
        go_upto_region 27 with fail
        go_loopg [94] m (fun gh s4 wr => ∃ (i : Nat), gh + i = m ∧ s4 = .int .i64 i ∧ Hid (MapB wr p1 (0 + i) (seenF (Z.take i))) ∧ Hid (∃ S, S ≤ 1 + i ∧ MapB wr p2 S (dirF (Z.take i))) ∧ Hid (MapT wr p3 (0 + i) (lastF (Z.take i))) ∧ Hid (Below p1 w6 wr))
        case atStart => exact ⟨0, by omega, rfl, HSA, Lib.hid ⟨1, by omega, HSB.out⟩, HSC, HBA⟩
        case round =>
          obtain ⟨i, hgi, rfl, HA, HB, HC, HBX⟩ := hrel
          by_cases hi : i < m
          · obtain ⟨z, hz⟩ : ∃ z, Z[i]? = some z := ⟨Z[i]'(by rw [HZL.out]; exact hi), List.getElem?_eq_getElem _⟩
            have hx : X[i]? = some z.ln := by rw [← HZX.out, List.getElem?_map, hz]; rfl
            obtain ⟨bb, off, hA, hbB, k0, k1, k2⟩ := HLM.out i _ hx
            subst hA
            have HOZ := Lib.hid (HZO.out i z hz)
            rw [List.nil_append] at HOZ
            have HZI := Lib.hid hz
            clear hx hz
            dsimp only [Zn.ln] at k0 k1 k2
            obtain ⟨pt, hpt⟩ : ∃ b, z.path = b := ⟨_, rfl⟩
            obtain ⟨zk, hzk⟩ : ∃ b, z.kind = b := ⟨_, rfl⟩
            obtain ⟨zd, hzd⟩ : ∃ b, z.data = b := ⟨_, rfl⟩
            have HPT := Lib.hid hpt
            have HZK := Lib.hid hzk
            have HZD := Lib.hid hzd
            rw [hpt] at k0
            rw [hzk] at k1
            rw [hzd] at k2
            have HKW := Lib.hid (fun (W : World) (hb : Below p1 w6 W) => show W.cell? ⟨bb, off + i * 3, none⟩ = some (.string pt) ∧ W.cell? ⟨bb, off + i * 3 + 1, none⟩ = some (.int .i64 zk) ∧ W.cell? ⟨bb, off + i * 3 + 2, none⟩ = some (.string zd) from
              ⟨(World.cell?_of_block (a := ⟨bb, off + i * 3, none⟩) (hb.block bb hbB)).trans k0, (World.cell?_of_block (a := ⟨bb, off + i * 3 + 1, none⟩) (hb.block bb hbB)).trans k1, (World.cell?_of_block (a := ⟨bb, off + i * 3 + 2, none⟩) (hb.block bb hbB)).trans k2⟩)
            clear k0 k1 k2
            obtain ⟨k0, k1, k2⟩ := HKW.out wr HBX.out
            obtain ⟨qn, hqn⟩ : ∃ b, z.q.size = b := ⟨_, rfl⟩
            obtain ⟨sn, hsn⟩ : ∃ b, z.s.size = b := ⟨_, rfl⟩
            have hsz : pt.size = qn + 1 + sn := by rw [← hpt, ← hqn, ← hsn]; exact size3 _ _
            have hs3 : qn + 1 + sn ≤ 30000 := by rw [← hsz, ← hpt]; exact HOZ.out.sz
            have HPA := Lib.hid (fun (g : Nat) (h : qn + g < pt.size) => show ((((pt[qn + g]'h).toNat : Nat) : Int) != 47) = decide (g ≠ 0) by subst hpt; exact path_at HOZ.out.ns hqn h)
            have hs1 := cut_q hpt hqn hsz
            have hs2 := cut_s hpt hqn hsz
            have hqn2 : z.q.size ≤ 30000 := by omega
            clear hpt hzk hzd hqn hsn
            go_upto_region 30 with fail
            go_loopg [12] sn (fun gh s12 wq => wq = wr ∧ gh ≤ sn ∧ s12 = .int .i64 (qn + gh))
            case atStart => exact ⟨rfl, Nat.le_refl _, by go_num⟩
            case round =>
              obtain ⟨rfl, hg, rfl⟩ := hrel
              by_cases g0 : gk = 0
              case neg =>
                have hpb := HPA.out gk (by omega)
                rw [decide_eq_true g0] at hpb
                go_wp2_with fail
                go_roundg (gk - 1)
                case measure => omega
                case rel => exact ⟨rfl, by omega, by go_num⟩
              subst g0
              have hpb : ((((pt[qn]'(by omega)).toNat : Nat) : Int) != 47) = false := (HPA.out 0 (by omega)).trans (by simp)
              have hm64 : pt.size ≤ maxLen := by unfold maxLen; omega
              obtain ⟨SB, hSB, hMB⟩ := HB.out
              have HMB := Lib.hid hMB
              have hla := fun n => (HA.out.below (mg.bel_drewN wr n)).look hm64
              rw [← HPT.out, seen_look HOZ.out, HPT.out] at hla
              have hlb := fun n => (hMB.below (mg.bel_drewN wr n)).look (a := z.q) (by have := hqn2; unfold maxLen; omega)
              rw [dir_look HOZ.out] at hlb
              have hlc := fun n => (HC.out.below (mg.bel_drewN wr n)).look (a := z.q) (by have := hqn2; unfold maxLen; omega)
              rw [last_look] at hlc
              obtain ⟨hl1, hl2⟩ := less_two HOZ.out.up
              obtain ⟨ln, hln⟩ : ∃ b, lastN (Z.take i) z.q = b := ⟨_, rfl⟩
              rw [hln] at hlc hl1 hl2
              obtain ⟨zq, hzq⟩ : ∃ b, z.q = b := ⟨_, rfl⟩
              obtain ⟨zs, hzs⟩ : ∃ b, z.s = b := ⟨_, rfl⟩
              have HZQ := Lib.hid hzq
              have HZS := Lib.hid hzs
              rw [hzq] at hlb hlc hs1 hqn2
              rw [hzs] at hl1 hl2 hs2
              have HQM := Lib.hid (show zq.size ≤ maxLen by unfold maxLen; omega)
              have HM6 := Lib.hid hm64
              have HIM := Lib.hid (show i ≤ 1600000 by have := HXL.out; have := HMX.out; omega)
              have HSB2 := Lib.hid hSB
              have HHI := Lib.hid hi
              clear hln hzq hzs hMB hqn2 hm64 hSB HB
              go_upto_region 32 with fail
              have hng : ¬ (qn : Int) < 0 := by omega
              go_quiet (fail)
              clear hla hlb hlc hl1 hl2 hpb hng
              obtain ⟨wb, hub, mab, gb⟩ := (HA.out.below (mg.bel_drewN wr nq)).put (by have := HIM.out; omega) HM6.out true
              have HBB := Lib.hid (bel_put HP1.out (bel_dn HP1.out HBX.out nq) gb (Nat.le_refl _))
              have GB := Lib.hid gb
              have HA1 := Lib.hid mab
              clear mab gb
              go_upto_region 35 with fail
              obtain ⟨wc, huc, mcc, gc⟩ := (((HC.out.below (mg.bel_drewN wr nq)).grown GB.out (ne_some (by have := HPP.out; omega))).below (Below.refl wb.heap.size wb).drew).put (by have := HIM.out; omega) HQM.out zs
              have GC := Lib.hid gc
              have HBC := Lib.hid (bel_put HP1.out HBB.out.drew gc (by have := HPP.out; omega))
              have HMC := Lib.hid (show MapB wc p1 (0 + i + 1) (bput (seenF (Z.take i)) pt true) ∧ MapT wc p3 (0 + i + 1) (tput (lastF (Z.take i)) zq zs) from ⟨(HA1.out.below (Below.refl wb.heap.size wb).drew).grown gc (ne_some (by have := HPP.out; omega)), mcc⟩)
              obtain ⟨b0, b1, b2⟩ := HKW.out wb.drew HBB.out.drew
              have S4 : wb.drew.cell? ⟨bb, off + i * 3, none⟩ = some (.string pt) := b0
              have hwr : IntKind.i64.wrap ((qn : Int) + 1) = (qn : Int) + 1 := IntWalk.i64_in _ (by omega)
              clear mcc gc b0 b1 b2 hub k0 k1 k2
              refine rg.region_T (S := (fun w' => w'.cell? ⟨bb, off + i * 3, none⟩ = some (.string pt))) (z := 16) (by kernel_rfl) ?_
              simp only [List.size_toArray, List.length_cons, List.length_nil, Nat.zero_add, Nat.reduceAdd]
              rw [show Array.replicate 17 false = #[false, false, false, false, false, false, false, false, false, false, false, false, false, false, false, false, false] from rfl]
              refine rg.take_T (i := 0) (.map (some p3)) rfl (by kernel_rfl) (by kernel_rfl) (by kernel_rfl) (by kernel_rfl) (fun _ _ _ h => h) (Or.inl ⟨by rfl, by intro w' hSw; (try dsimp only at hSw); go_simp⟩) S4 ?_
              simp only [Act.put, List.setIfInBounds_toArray, List.set_cons_zero, List.set_cons_succ]
              refine rg.take_T (i := 1) (.slice (some ⟨bb, off, none⟩) m c) rfl (by kernel_rfl) (by kernel_rfl) (by kernel_rfl) (by kernel_rfl) (fun _ _ _ h => h) (Or.inl ⟨by rfl, by intro w' hSw; (try dsimp only at hSw); go_simp⟩) S4 ?_
              simp only [Act.put, List.setIfInBounds_toArray, List.set_cons_zero, List.set_cons_succ]
              refine rg.take_T (i := 2) (.int .i64 i) rfl (by kernel_rfl) (by kernel_rfl) (by kernel_rfl) (by kernel_rfl) (fun _ _ _ h => h) (Or.inl ⟨by rfl, by intro w' hSw; (try dsimp only at hSw); go_simp⟩) S4 ?_
              simp only [Act.put, List.setIfInBounds_toArray, List.set_cons_zero, List.set_cons_succ]
              refine rg.take_T (i := 3) (.pointer (some ⟨bb, off + i * 3, none⟩)) rfl (by kernel_rfl) (by kernel_rfl) (by kernel_rfl) (by kernel_rfl) (fun _ _ _ h => h) (Or.inl ⟨by rfl, by intro w' hSw; (try dsimp only at hSw); go_simp⟩) S4 ?_
              simp only [Act.put, List.setIfInBounds_toArray, List.set_cons_zero, List.set_cons_succ]
              refine rg.take_T (i := 4) (.pointer (some ⟨bb, off + i * 3, none⟩)) rfl (by kernel_rfl) (by kernel_rfl) (by kernel_rfl) (by kernel_rfl) (fun _ _ _ h => h) (Or.inl ⟨by rfl, by intro w' hSw; (try dsimp only at hSw); go_simp⟩) S4 ?_
              simp only [Act.put, List.setIfInBounds_toArray, List.set_cons_zero, List.set_cons_succ]
              refine rg.take_T (i := 5) (.string pt) rfl (by kernel_rfl) (by kernel_rfl) (by kernel_rfl) (by kernel_rfl) (fun _ _ _ h => h) (Or.inl ⟨by rfl, by intro w' hSw; (try dsimp only at hSw); go_simp⟩) S4 ?_
              simp only [Act.put, List.setIfInBounds_toArray, List.set_cons_zero, List.set_cons_succ]
              refine rg.take_T (i := 6) (.int .i64 qn) rfl (by kernel_rfl) (by kernel_rfl) (by kernel_rfl) (by kernel_rfl) (fun _ _ _ h => h) (Or.inl ⟨by rfl, by intro w' hSw; (try dsimp only at hSw); go_simp⟩) S4 ?_
              simp only [Act.put, List.setIfInBounds_toArray, List.set_cons_zero, List.set_cons_succ]
              refine rg.take_T (i := 7) (.string zq) rfl (by kernel_rfl) (by kernel_rfl) (by kernel_rfl) (by kernel_rfl) (fun _ _ _ h => h) (Or.inl ⟨by rfl, by intro w' hSw; (try dsimp only at hSw); go_simp⟩) S4 ?_
              simp only [Act.put, List.setIfInBounds_toArray, List.set_cons_zero, List.set_cons_succ]
              refine rg.take_T (i := 8) (.slice (some ⟨bb, off, none⟩) m c) rfl (by kernel_rfl) (by kernel_rfl) (by kernel_rfl) (by kernel_rfl) (fun _ _ _ h => h) (Or.inl ⟨by rfl, by intro w' hSw; (try dsimp only at hSw); go_simp⟩) S4 ?_
              simp only [Act.put, List.setIfInBounds_toArray, List.set_cons_zero, List.set_cons_succ]
              refine rg.take_T (i := 9) (.int .i64 i) rfl (by kernel_rfl) (by kernel_rfl) (by kernel_rfl) (by kernel_rfl) (fun _ _ _ h => h) (Or.inl ⟨by rfl, by intro w' hSw; (try dsimp only at hSw); go_simp⟩) S4 ?_
              simp only [Act.put, List.setIfInBounds_toArray, List.set_cons_zero, List.set_cons_succ]
              refine rg.take_T (i := 10) (.pointer (some ⟨bb, off + i * 3, none⟩)) rfl (by kernel_rfl) (by kernel_rfl) (by kernel_rfl) (by kernel_rfl) (fun _ _ _ h => h) (Or.inl ⟨by rfl, by intro w' hSw; (try dsimp only at hSw); go_simp⟩) S4 ?_
              simp only [Act.put, List.setIfInBounds_toArray, List.set_cons_zero, List.set_cons_succ]
              refine rg.take_T (i := 11) (.pointer (some ⟨bb, off + i * 3, none⟩)) rfl (by kernel_rfl) (by kernel_rfl) (by kernel_rfl) (by kernel_rfl) (fun _ _ _ h => h) (Or.inl ⟨by rfl, by intro w' hSw; (try dsimp only at hSw); go_simp⟩) S4 ?_
              simp only [Act.put, List.setIfInBounds_toArray, List.set_cons_zero, List.set_cons_succ]
              refine rg.take_T (i := 12) (.string pt) rfl (by kernel_rfl) (by kernel_rfl) (by kernel_rfl) (by kernel_rfl) (fun _ _ _ h => h) (Or.inl ⟨by rfl, by intro w' hSw; (try dsimp only at hSw); go_simp⟩) S4 ?_
              simp only [Act.put, List.setIfInBounds_toArray, List.set_cons_zero, List.set_cons_succ]
              refine rg.take_T (i := 13) (.int .i64 qn) rfl (by kernel_rfl) (by kernel_rfl) (by kernel_rfl) (by kernel_rfl) (fun _ _ _ h => h) (Or.inl ⟨by rfl, by intro w' hSw; (try dsimp only at hSw); go_simp⟩) S4 ?_
              simp only [Act.put, List.setIfInBounds_toArray, List.set_cons_zero, List.set_cons_succ]
              refine rg.take_T (i := 14) (.int .i64 ((qn : Int) + 1)) rfl (by kernel_rfl) (by kernel_rfl) (by kernel_rfl) (by kernel_rfl) (fun _ _ _ h => h) (Or.inl ⟨by rfl, by intro w' hSw; (try dsimp only at hSw); go_simp⟩) S4 ?_
              simp only [Act.put, List.setIfInBounds_toArray, List.set_cons_zero, List.set_cons_succ]
              refine rg.take_T (i := 15) (.string zs) rfl (by kernel_rfl) (by kernel_rfl) (by kernel_rfl) (by kernel_rfl) (fun _ _ _ h => h) (Or.inl ⟨by rfl, by intro w' hSw; (try dsimp only at hSw); go_simp⟩) S4 ?_
              simp only [Act.put, List.setIfInBounds_toArray, List.set_cons_zero, List.set_cons_succ]
              refine rg.step_T (i := 16) (by kernel_rfl) rfl fun K hK => ?_
              go_simp
              refine hK.out _ _ (.inl rfl) ?_
              clear hK K
              simp only [Act.put, List.setIfInBounds_toArray, List.set_cons_zero, List.set_cons_succ]
              refine rg.done_T (by kernel_rfl) ?_
              obtain ⟨d0, d1, d2⟩ := HKW.out wc HBC.out
              have hk1z := HOZ.out.k1
              have hk3z := HOZ.out.k3
              rw [HZK.out] at hk1z hk3z
              by_cases ek : zk = 2
              · subst ek
                obtain ⟨wd, hud, mbd, gd⟩ := ((HMB.out.below (mg.bel_drewN wr nq)).grown GB.out (ne_some (by have := HPP.out; omega))).below (Below.refl wb.heap.size wb).drew |>.grown GC.out (ne_some (by have := HPP.out; omega)) |>.put (by have := HIM.out; have := HSB2.out; omega) HM6.out true
                have HBD := Lib.hid (bel_put HP1.out HBC.out gd (by have := HPP.out; omega))
                have HAD := Lib.hid (show MapB wd p1 (0 + (i + 1)) (seenF (Z.take (i + 1))) by rw [seenF_take HZI.out, HPT.out]; exact HMC.out.1.grown gd (ne_some (by have := HPP.out; omega)))
                have HCD := Lib.hid (show MapT wd p3 (0 + (i + 1)) (lastF (Z.take (i + 1))) by rw [lastF_take HZI.out, HZQ.out, HZS.out]; exact HMC.out.2.grown gd (ne_some (by have := HPP.out; omega)))
                have HBDD := Lib.hid (show ∃ S, S ≤ 1 + (i + 1) ∧ MapB wd p2 S (dirF (Z.take (i + 1))) from ⟨SB + 1, by have := HSB2.out; omega, by rw [dirF_dir HZI.out HZK.out, HPT.out]; exact mbd⟩)
                obtain ⟨d0, d1, d2⟩ := HKW.out wd HBD.out
                have hde := HOZ.out.empty HZK.out
                rw [HZD.out] at hde
                subst hde
                clear mbd gd
                have him := HIM.out
                go_wp2_with fail
                go_roundg (m - (i + 1))
                case measure => have := HHI.out; omega
                case rel => exact ⟨i + 1, by have := HHI.out; omega, by go_num, HAD, HBDD, HCD, HBD⟩
              · skip
                have HBD := HBC
                have HAD := Lib.hid (show MapB wc p1 (0 + (i + 1)) (seenF (Z.take (i + 1))) by rw [seenF_take HZI.out, HPT.out]; exact HMC.out.1)
                have HCD := Lib.hid (show MapT wc p3 (0 + (i + 1)) (lastF (Z.take (i + 1))) by rw [lastF_take HZI.out, HZQ.out, HZS.out]; exact HMC.out.2)
                have HBDD := Lib.hid (show ∃ S, S ≤ 1 + (i + 1) ∧ MapB wc p2 S (dirF (Z.take (i + 1))) from ⟨SB, by have := HSB2.out; omega, by rw [dirF_not HZI.out (by rw [HZK.out]; exact ek)]; exact ((HMB.out.below (mg.bel_drewN wr nq)).grown GB.out (ne_some (by have := HPP.out; omega))).below (Below.refl wb.heap.size wb).drew |>.grown GC.out (ne_some (by have := HPP.out; omega))⟩)
                have hke : (zk == 2) = false := by simpa using ek
                have him := HIM.out
                go_wp2_with fail
                go_roundg (m - (i + 1))
                case measure => have := HHI.out; omega
                case rel => exact ⟨i + 1, by have := HHI.out; omega, by go_num, HAD, HBDD, HCD, HBD⟩
          · have hbe := HBX.out
            rw [← HP1.out] at hbe
            have HBE := Lib.hid (mg.bel_step HB6.out hbe)
            clear hbe
            go_wp2_with fail
            go_ret
            exact ⟨rfl, HBE.out⟩

set_option maxRecDepth 100000 in
theorem lifted (os : Os) (started : os.Started) (H : Type) (enc : TypeId × Value → H) :
    ReturnsInHanded {} Tryz.checked os 6 .any (Rows.flatPathsSpec.pre6 enc Tryz.prog Tryz.f6 Rows.flatPathsRow.domain false) (Rows.flatPathsSpec.post enc Tryz.prog Tryz.f6 false true false false) := by
  refine returnsInHanded_of_change_sized (C := Tryz.checked) own started (by kernel_rfl) Tryz.func6
    (ChangeSpec.witness6 (enc := enc) (C := Tryz.checked) false ⟨#[], #[.slice none 0 0], []⟩ 8 (by kernel_rfl) (by kernel_rfl) (by kernel_rfl) (by kernel_rfl)) ?_
  intro W base args ds gs before hval0 hW hcnd hsz _
  have hval : ∀ (j : Nat) t v, Tryz.f6.params[j]? = some t → args[j]? = some v → Value.okWide Tryz.prog W .any base t v := hval0
  have hW' := hW
  obtain ⟨p, q, hA0, hV, rfl, hfz, hnd⟩ := hW
  have hA : DataW.TrodAll enc Tryz.prog W 0 (fun _ => true) true Tryz.f6.params.toList args.toList ds p := hA0
  rw [Tryz.params6] at hA hval
  obtain ⟨v0, vs0, d0, ds0, p0, q0, hargs, rfl, rfl, h0, r0⟩ := trodAll_cons hA
  obtain ⟨rfl, rfl, rfl⟩ := trodAll_nil r0
  obtain rfl : args = #[v0] := by cases args; simp_all
  obtain ⟨rfl, rfl⟩ := trodVars_none hV
  have hlt := fun x hx => hW'.lt x hx
  have t0 := h0
  obtain ⟨A0, n0, c0, x0, rfl, e0, s0⟩ := fl.open_acts (hval 0 57 v0 rfl rfl) h0
  clear hA0 hval0
  refine (walk A0 n0 c0 x0 W e0 s0).mono fun e W' ⟨he, hg⟩ => ?_
  subst he
  exact ⟨_, rfl, cb.law_post (pv := []) hW' (fun _ _ _ => (trodAll_cons_mk (shut_bool Tryz.underlying4 _) trodAll_mk0)) (fun sp hsp => (trodAll_cons_mk (fl.acts_stay t0 hg (by simp +contextual) hlt hsp laid) trodAll_mk0)) (fun _ _ => rfl) (by simp)
    hg (ok_one (by kernel_rfl) rfl (okWide_bool_mk Tryz.underlying4 _))⟩

theorem over : Rows.flatPathsRow.holds Tryz.pinned (OpenSpec.ofChange Rows.flatPathsSpec) :=
  OpenClaim.holds_of_wide 6 Tryz.f6 rfl rfl rfl rfl rfl rfl rfl ⟨rfl, rfl, rfl, rfl, rfl⟩ rfl rfl rfl rfl rfl (by kernel_rfl) Tryz.func6 (by kernel_rfl)
    (of_decide_eq_true (by kernel_rfl)) (by unfold Func.isWrapper; first | (rw [if_pos (by decide +kernel)]; kernel_rfl) | (rw [if_neg (by decide +kernel)]; exact ⟨rfl, rfl⟩))
    (fun os started H enc _ => lifted os started H enc)

/-- The statement. -/
theorem proved : Rows.FlatPathsSaid :=
  over
end Go.Proofs.YtnnaoldpacbagaaGreat.flatPaths
