/- For every list of acts the law QueueDoes returns true, and what is handed in reads as it did; there are no conditions. -/
import Derived.Test.YtadkhnenklkbmaaPair
import Derived.Test.YtadkhnenklkbmaaOpen
import Derived.Deep.RegionWith
import Derived.ProofKit
import Derived.OpenShut
namespace Go.Proofs.Ytadkhnenklkbmaa.queueDoes
open Go.ChangeShapes Go.WideShapes Go.ChangeAt Go.RowKit
set_option linter.unusedVariables false

theorem own : ownKnob Try.prog.godebug = none := by kernel_rfl
theorem laid : laidOutB Try.prog = true := by kernel_rfl

theorem popV_form (L : List KN) : ∃ a b c, popV L = .tuple #[.int .i64 a, .int .i64 b, .bool c] := by
  cases L with
  | nil => exact ⟨0, 0, false, rfl⟩
  | cons x l => exact ⟨x.1, x.2, true, rfl⟩

set_option maxHeartbeats 8000000 in
set_option maxRecDepth 100000 in
theorem walk (A : Option Addr) (n c : Nat) (F : Nat → Act3) (w : World) (k1 : n ≤ c ∧ c ≤ maxLen) (hF : Acts w w.heap.size A n F) :
    Calls Try.prog 3 #[.slice A n c] w (AwakeE w) := by
  have hnm : n ≤ 9223372036854775807 := by have := k1.1; have := k1.2; unfold maxLen at this; omega
  clear k1
  go_enter Try.func3, Try.ntmps3
  go_wp2_with fail
  refine (awake_any _).mono ?_
  rintro e w1 ⟨rfl, hb1⟩
  go_wp2_with fail
  refine (lnew w1 w.heap.size hb1.size).mono ?_
  rintro e w2 ⟨rfl, h2, hb2⟩
  have HT0 := Lib.hid (pair_new hb1 h2 hb2)
  generalize w1.heap.size = Q at *
  clear h2 hb1 hb2
  go_wp2_with fail
  go_loopg [5] 200 (fun g s5 wr => ∃ (k : Nat) (L : List KN), g + k = 200 ∧ k ≤ n ∧ s5 = .int .i64 k ∧ Hid (Pair w wr Q w2.heap.size (fun _ => False) L L k))
  case atStart => exact ⟨0, [], by omega, by omega, rfl, HT0⟩
  case round =>
    clear HT0
    generalize w2.heap.size = R at *
    obtain ⟨k, L, hgk, hk, rfl, HT⟩ := hrel
    have hk200 : k ≤ 200 := by omega
    by_cases hgo : k < n ∧ k < 200
    · obtain ⟨hkn, hk2⟩ := hgo
      obtain ⟨b, off, rfl, hbl, f0, f1, f2⟩ := (hF.below HT.out.bel) k hkn
      generalize F k = x at *
      obtain ⟨xk, xe, xn⟩ := x
      dsimp only at f0 f1 f2
      have HB := Lib.hid (HT.out.box (.cells #[.int .i64 xk, .int .i64 xe, .int .i64 xn] 31))
      have hll := HT.out.len
      by_cases h0 : xk = 0
      · subst h0
        have HP := Lib.hid (pair_push HB.out (by omega) xe xn)
        go_wp2_with fail
        refine HP.out.mono ?_
        rintro e w4 ⟨rfl, ht4, hs4⟩
        have b1 := (World.cell?_of_block (a := ⟨wr.heap.size, 1, none⟩) (hs4 _ rfl)).trans (show _ = some (.int .i64 xe) by simp)
        have b2 := (World.cell?_of_block (a := ⟨wr.heap.size, 2, none⟩) (hs4 _ rfl)).trans (show _ = some (.int .i64 xn) by simp)
        have HP2 := Lib.hid (pair_rpush ht4 (by omega) xe xn)
        clear ht4 hs4 HP
        go_wp2_with fail
        refine HP2.out.mono ?_
        rintro e w5 ⟨rfl, ht5, hs5⟩
        have bx := (World.cell?_of_block (a := ⟨wr.heap.size, 2, none⟩) (hs5 _ rfl)).trans b2
        obtain ⟨TT, hTe, hTe2⟩ : ∃ TT, k + 1 ≤ TT ∧ TT ≤ k + 1 := ⟨k + 1, Nat.le_refl _, Nat.le_refl _⟩
        rw [show k + 1 = TT by omega] at ht5
        generalize ins (xe, xn) L = N at *
        have HPT := Lib.hid ht5
        clear ht5 hs5 b1 b2 HP2 hll
        obtain ⟨ka, kb, kc, hpv⟩ := popV_form N
        have hTT : TT ≤ 201 := by omega
        have HPK := Lib.hid (pair_peek HPT.out (by omega))
        rw [hpv] at HPK
        go_wp2_with fail
        refine HPK.out.mono ?_
        rintro e wa ⟨rfl, hpa, hba⟩
        have HRPK := Lib.hid (pair_rpeek hpa (by have := hpa.len; omega))
        rw [hpv] at HRPK
        have bxa := (hba.cell (p := ⟨wr.heap.size, 2, none⟩) (World.block_lt_of_cell? _ _ bx)).trans bx
        clear hpa hba HPK bx
        go_wp2_with fail
        refine HRPK.out.mono ?_
        rintro e wb ⟨rfl, hpb, hbb⟩
        have bxb := (hbb.cell (p := ⟨wr.heap.size, 2, none⟩) (World.block_lt_of_cell? _ _ bxa)).trans bxa
        have HPB := Lib.hid hpb
        obtain ⟨RA, rc, hrc⟩ := pair_rcell hpb
        obtain ⟨nn, hnn⟩ : ∃ nn, N.length = nn := ⟨_, rfl⟩
        rw [hnn] at hrc
        have f0 : ∀ p : BelowOf wb, p.W.cell? ⟨R, 0, none⟩ = some (.slice RA nn rc) := fun p => (p.h.cell (p := ⟨R, 0, none⟩) (World.block_lt_of_cell? _ _ hrc)).trans hrc
        have f1 : ∀ p : BelowOf wb, p.W.cell? ⟨wr.heap.size, 2, none⟩ = some (.int .i64 xn) := fun p => (p.h.cell (p := ⟨wr.heap.size, 2, none⟩) (World.block_lt_of_cell? _ _ bxb)).trans bxb
        have hlt := hpb.len
        have C1 := Lib.hid (show ∀ p : BelowOf wb, Calls Try.prog 18 #[Pq Q] p.W fun e w'' => e = .returned (.int .i64 nn) ∧ ∃ q : BelowOf wb, w'' = q.W from fun p =>
          calls_below p ((pair_len (HPB.out.below p.h)).mono fun _ _ ⟨he, hw⟩ => ⟨by rw [he, hnn], by rw [← hw]; exact Below.refl _ _⟩))
        obtain ⟨hv, hhv⟩ : ∃ r, N.any (fun x => x.2 == xn) = r := ⟨_, rfl⟩
        have C2 := Lib.hid (show ∀ p : BelowOf wb, Calls Try.prog 19 #[Pq Q, .int .i64 xn] p.W fun e w'' => e = .returned (.bool hv) ∧ ∃ q : BelowOf wb, w'' = q.W from fun p =>
          calls_below p ((pair_has (HPB.out.below p.h) (by omega) xn).mono fun _ _ ⟨he, hw⟩ => ⟨by rw [he, hhv], hw⟩))
        have C3 := Lib.hid (show ∀ p : BelowOf wb, Calls Try.prog 20 #[Pq R, .int .i64 xn] p.W fun e w'' => e = .returned (.bool hv) ∧ ∃ q : BelowOf wb, w'' = q.W from fun p =>
          calls_below p ((pair_rhas (HPB.out.below p.h) (by omega) xn).mono fun _ _ ⟨he, hw⟩ => ⟨by rw [he, hhv], hw⟩))
        clear hpb hbb hrc bxa bxb hnn hhv hlt hpv HRPK
        go_upto_region 23 with fail
        refine wp_region_below (by kernel_rfl) (by kernel_rfl) ?_
        repeat (go_big_quiet_step ((first
          | (go_at_call 18; with_reducible exact C1.out _)
          | (go_at_call 19; with_reducible exact C2.out _)
          | (go_at_call 20; with_reducible exact C3.out _))))
        refine wpQuiet_nil ?_
        rintro wz ⟨⟨_, hz⟩, rfl⟩
        have HZ := Lib.hid (HPB.out.below hz)
        clear hz f0 f1 C1 C2 C3
        go_wp2_with fail
        go_roundg (gk - 1)
        case measure => omega
        case rel => exact ⟨k + 1, N, by omega, by omega, by go_num, Lib.hid (HZ.out.forget (by omega))⟩
      have n0 : (xk == 0) = false := by rw [beq_eq_false_iff_ne]; exact h0
      by_cases h1 : xk = 1
      · subst h1
        obtain ⟨qa, qb, qc, hqv⟩ := popV_form L
        have HP := Lib.hid (pair_pop HB.out (by omega))
        rw [hqv] at HP
        go_wp2_with fail
        refine HP.out.mono ?_
        rintro e w4 ⟨rfl, ht4, hs4⟩
        have b2 := (World.cell?_of_block (a := ⟨wr.heap.size, 2, none⟩) (hs4 _ rfl)).trans (show _ = some (.int .i64 xn) by simp)
        have HP2 := Lib.hid (pair_rpop ht4 (by omega))
        rw [hqv] at HP2
        clear ht4 hs4 HP hqv
        go_wp2_with fail
        refine HP2.out.mono ?_
        rintro e w5 ⟨rfl, ht5, hs5⟩
        have bx := (World.cell?_of_block (a := ⟨wr.heap.size, 2, none⟩) (hs5 _ rfl)).trans b2
        obtain ⟨TT, hTe, hTe2⟩ : ∃ TT, k ≤ TT ∧ TT ≤ k := ⟨k, Nat.le_refl _, Nat.le_refl _⟩
        have ht6 : Pair w w5 Q R (fun b => b = wr.heap.size) L.tail L.tail TT := by rw [show TT = k by omega]; exact ht5
        generalize L.tail = N at *
        have HPT := Lib.hid ht6
        clear ht5 ht6 hs5 b2 HP2 hll h0 n0
        obtain ⟨ka, kb, kc, hpv⟩ := popV_form N
        have hTT : TT ≤ 201 := by omega
        have HPK := Lib.hid (pair_peek HPT.out (by omega))
        rw [hpv] at HPK
        go_wp2_with fail
        refine HPK.out.mono ?_
        rintro e wa ⟨rfl, hpa, hba⟩
        have HRPK := Lib.hid (pair_rpeek hpa (by have := hpa.len; omega))
        rw [hpv] at HRPK
        have bxa := (hba.cell (p := ⟨wr.heap.size, 2, none⟩) (World.block_lt_of_cell? _ _ bx)).trans bx
        clear hpa hba HPK bx
        go_wp2_with fail
        refine HRPK.out.mono ?_
        rintro e wb ⟨rfl, hpb, hbb⟩
        have bxb := (hbb.cell (p := ⟨wr.heap.size, 2, none⟩) (World.block_lt_of_cell? _ _ bxa)).trans bxa
        have HPB := Lib.hid hpb
        obtain ⟨RA, rc, hrc⟩ := pair_rcell hpb
        obtain ⟨nn, hnn⟩ : ∃ nn, N.length = nn := ⟨_, rfl⟩
        rw [hnn] at hrc
        have f0 : ∀ p : BelowOf wb, p.W.cell? ⟨R, 0, none⟩ = some (.slice RA nn rc) := fun p => (p.h.cell (p := ⟨R, 0, none⟩) (World.block_lt_of_cell? _ _ hrc)).trans hrc
        have f1 : ∀ p : BelowOf wb, p.W.cell? ⟨wr.heap.size, 2, none⟩ = some (.int .i64 xn) := fun p => (p.h.cell (p := ⟨wr.heap.size, 2, none⟩) (World.block_lt_of_cell? _ _ bxb)).trans bxb
        have hlt := hpb.len
        have C1 := Lib.hid (show ∀ p : BelowOf wb, Calls Try.prog 18 #[Pq Q] p.W fun e w'' => e = .returned (.int .i64 nn) ∧ ∃ q : BelowOf wb, w'' = q.W from fun p =>
          calls_below p ((pair_len (HPB.out.below p.h)).mono fun _ _ ⟨he, hw⟩ => ⟨by rw [he, hnn], by rw [← hw]; exact Below.refl _ _⟩))
        obtain ⟨hv, hhv⟩ : ∃ r, N.any (fun x => x.2 == xn) = r := ⟨_, rfl⟩
        have C2 := Lib.hid (show ∀ p : BelowOf wb, Calls Try.prog 19 #[Pq Q, .int .i64 xn] p.W fun e w'' => e = .returned (.bool hv) ∧ ∃ q : BelowOf wb, w'' = q.W from fun p =>
          calls_below p ((pair_has (HPB.out.below p.h) (by omega) xn).mono fun _ _ ⟨he, hw⟩ => ⟨by rw [he, hhv], hw⟩))
        have C3 := Lib.hid (show ∀ p : BelowOf wb, Calls Try.prog 20 #[Pq R, .int .i64 xn] p.W fun e w'' => e = .returned (.bool hv) ∧ ∃ q : BelowOf wb, w'' = q.W from fun p =>
          calls_below p ((pair_rhas (HPB.out.below p.h) (by omega) xn).mono fun _ _ ⟨he, hw⟩ => ⟨by rw [he, hhv], hw⟩))
        clear hpb hbb hrc bxa bxb hnn hhv hlt hpv HRPK
        go_upto_region 23 with fail
        refine wp_region_below (by kernel_rfl) (by kernel_rfl) ?_
        repeat (go_big_quiet_step ((first
          | (go_at_call 18; with_reducible exact C1.out _)
          | (go_at_call 19; with_reducible exact C2.out _)
          | (go_at_call 20; with_reducible exact C3.out _))))
        refine wpQuiet_nil ?_
        rintro wz ⟨⟨_, hz⟩, rfl⟩
        have HZ := Lib.hid (HPB.out.below hz)
        clear hz f0 f1 C1 C2 C3
        go_wp2_with fail
        go_roundg (gk - 1)
        case measure => omega
        case rel => exact ⟨k + 1, N, by omega, by omega, by go_num, Lib.hid (HZ.out.forget (by omega))⟩
      have n1 : (xk == 1) = false := by rw [beq_eq_false_iff_ne]; exact h1
      by_cases h2 : xk = 2
      · subst h2
        have HP := Lib.hid (fun W (hW : Below (wr.alloc (.cells #[.int .i64 2, .int .i64 xe, .int .i64 xn] 31)).heap.size (wr.alloc (.cells #[.int .i64 2, .int .i64 xe, .int .i64 xn] 31)) W) => pair_drop (HB.out.below hW) (by omega) xn)
        have HP2 := Lib.hid (fun (w4 : World) (ht4 : Pair w w4 Q R (fun b => b = wr.heap.size) (L.filter (keepN xn)) L k) => pair_rdrop ht4 (by omega) xn)
        go_upto_region 19 with fail
        have b2 : (wr.alloc (.cells #[.int .i64 2, .int .i64 xe, .int .i64 xn] 31)).cell? ⟨wr.heap.size, 2, none⟩ = some (.int .i64 xn) := by simp
        have hbs : wr.heap.size < (wr.alloc (.cells #[.int .i64 2, .int .i64 xe, .int .i64 xn] 31)).heap.size := by simp
        generalize hwa : wr.alloc (.cells #[.int .i64 2, .int .i64 xe, .int .i64 xn] 31) = wal at *
        clear hwa
        go_cut [91] (fun v wx => v = .bool false ∧ Pair w wx Q R (fun b => b = wr.heap.size) (L.filter (keepN xn)) (L.filter (keepN xn)) k ∧ wx.cell? ⟨wr.heap.size, 2, none⟩ = some (.int .i64 xn))
        case first =>
          generalize hcc : (L.length : Int) - ((L.filter (keepN xn)).length : Int) = cc at HP HP2
          clear hcc
          go_region_with ((first
            | (go_at_call 14; refine (HP.out _ (Below.refl _ _).drew).mono ?_; rintro e w4 ⟨rfl, ht4, hs4⟩; have c2 := (World.cell?_of_block (a := ⟨wr.heap.size, 2, none⟩) (hs4 _ rfl)).trans b2; have HT4 := Lib.hid ht4; clear ht4 hs4)
            | (go_at_call 15; refine (HP2.out _ HT4.out).mono ?_; rintro e w5 ⟨rfl, ht5, hs5⟩; have c3 := (World.cell?_of_block (a := ⟨wr.heap.size, 2, none⟩) (hs5 _ rfl)).trans c2; have HT5 := Lib.hid ht5; clear ht5 hs5)))
          all_goals (go_wp2_with fail; go_meet; case rel => exact ⟨by simp, HT5.out, c3⟩)
        case rest =>
          obtain ⟨rfl, ht5, bx⟩ := hcut
          obtain ⟨TT, hTe, hTe2⟩ : ∃ TT, k ≤ TT ∧ TT ≤ k := ⟨k, Nat.le_refl _, Nat.le_refl _⟩
          have ht6 : Pair w wc Q R (fun b => b = wr.heap.size) (L.filter (keepN xn)) (L.filter (keepN xn)) TT := by rw [show TT = k by omega]; exact ht5
          generalize L.filter (keepN xn) = N at *
          have HPT := Lib.hid ht6
          clear ht5 ht6 HP HP2 hll h0 n0 h1 n1 b2 hbs
          obtain ⟨ka, kb, kc, hpv⟩ := popV_form N
          have hTT : TT ≤ 201 := by omega
          have HPK := Lib.hid (pair_peek HPT.out (by omega))
          rw [hpv] at HPK
          go_wp2_with fail
          refine HPK.out.mono ?_
          rintro e wa ⟨rfl, hpa, hba⟩
          have HRPK := Lib.hid (pair_rpeek hpa (by have := hpa.len; omega))
          rw [hpv] at HRPK
          have bxa := (hba.cell (p := ⟨wr.heap.size, 2, none⟩) (World.block_lt_of_cell? _ _ bx)).trans bx
          clear hpa hba HPK bx
          go_wp2_with fail
          refine HRPK.out.mono ?_
          rintro e wb ⟨rfl, hpb, hbb⟩
          have bxb := (hbb.cell (p := ⟨wr.heap.size, 2, none⟩) (World.block_lt_of_cell? _ _ bxa)).trans bxa
          have HPB := Lib.hid hpb
          obtain ⟨RA, rc, hrc⟩ := pair_rcell hpb
          obtain ⟨nn, hnn⟩ : ∃ nn, N.length = nn := ⟨_, rfl⟩
          rw [hnn] at hrc
          have f0 : ∀ p : BelowOf wb, p.W.cell? ⟨R, 0, none⟩ = some (.slice RA nn rc) := fun p => (p.h.cell (p := ⟨R, 0, none⟩) (World.block_lt_of_cell? _ _ hrc)).trans hrc
          have f1 : ∀ p : BelowOf wb, p.W.cell? ⟨wr.heap.size, 2, none⟩ = some (.int .i64 xn) := fun p => (p.h.cell (p := ⟨wr.heap.size, 2, none⟩) (World.block_lt_of_cell? _ _ bxb)).trans bxb
          have hlt := hpb.len
          have C1 := Lib.hid (show ∀ p : BelowOf wb, Calls Try.prog 18 #[Pq Q] p.W fun e w'' => e = .returned (.int .i64 nn) ∧ ∃ q : BelowOf wb, w'' = q.W from fun p =>
            calls_below p ((pair_len (HPB.out.below p.h)).mono fun _ _ ⟨he, hw⟩ => ⟨by rw [he, hnn], by rw [← hw]; exact Below.refl _ _⟩))
          obtain ⟨hv, hhv⟩ : ∃ r, N.any (fun x => x.2 == xn) = r := ⟨_, rfl⟩
          have C2 := Lib.hid (show ∀ p : BelowOf wb, Calls Try.prog 19 #[Pq Q, .int .i64 xn] p.W fun e w'' => e = .returned (.bool hv) ∧ ∃ q : BelowOf wb, w'' = q.W from fun p =>
            calls_below p ((pair_has (HPB.out.below p.h) (by omega) xn).mono fun _ _ ⟨he, hw⟩ => ⟨by rw [he, hhv], hw⟩))
          have C3 := Lib.hid (show ∀ p : BelowOf wb, Calls Try.prog 20 #[Pq R, .int .i64 xn] p.W fun e w'' => e = .returned (.bool hv) ∧ ∃ q : BelowOf wb, w'' = q.W from fun p =>
            calls_below p ((pair_rhas (HPB.out.below p.h) (by omega) xn).mono fun _ _ ⟨he, hw⟩ => ⟨by rw [he, hhv], hw⟩))
          clear hpb hbb hrc bxa bxb hnn hhv hlt hpv HRPK
          go_upto_region 23 with fail
          refine wp_region_below (by kernel_rfl) (by kernel_rfl) ?_
          repeat (go_big_quiet_step ((first
            | (go_at_call 18; with_reducible exact C1.out _)
            | (go_at_call 19; with_reducible exact C2.out _)
            | (go_at_call 20; with_reducible exact C3.out _))))
          refine wpQuiet_nil ?_
          rintro wz ⟨⟨_, hz⟩, rfl⟩
          have HZ := Lib.hid (HPB.out.below hz)
          clear hz f0 f1 C1 C2 C3
          go_wp2_with fail
          go_roundg (gk - 1)
          case measure => omega
          case rel => exact ⟨k + 1, N, by omega, by omega, by go_num, Lib.hid (HZ.out.forget (by omega))⟩
      have n2 : (xk == 2) = false := by rw [beq_eq_false_iff_ne]; exact h2
      have bx : (wr.alloc (.cells #[.int .i64 xk, .int .i64 xe, .int .i64 xn] 31)).cell? ⟨wr.heap.size, 2, none⟩ = some (.int .i64 xn) := by simp
      obtain ⟨TT, hTe, hTe2⟩ : ∃ TT, k ≤ TT ∧ TT ≤ k := ⟨k, Nat.le_refl _, Nat.le_refl _⟩
      have HPT := Lib.hid (show Pair w (wr.alloc (.cells #[.int .i64 xk, .int .i64 xe, .int .i64 xn] 31)) Q R (fun b => b = wr.heap.size) L L TT by rw [show TT = k by omega]; exact HB.out)
      generalize hLN : L = N at *
      clear hLN h0 h1 h2
      obtain ⟨ka, kb, kc, hpv⟩ := popV_form N
      have hTT : TT ≤ 201 := by omega
      have HPK := Lib.hid (pair_peek HPT.out (by omega))
      rw [hpv] at HPK
      go_wp2_with fail
      refine HPK.out.mono ?_
      rintro e wa ⟨rfl, hpa, hba⟩
      have HRPK := Lib.hid (pair_rpeek hpa (by have := hpa.len; omega))
      rw [hpv] at HRPK
      have bxa := (hba.cell (p := ⟨wr.heap.size, 2, none⟩) (World.block_lt_of_cell? _ _ bx)).trans bx
      clear hpa hba HPK bx
      go_wp2_with fail
      refine HRPK.out.mono ?_
      rintro e wb ⟨rfl, hpb, hbb⟩
      have bxb := (hbb.cell (p := ⟨wr.heap.size, 2, none⟩) (World.block_lt_of_cell? _ _ bxa)).trans bxa
      have HPB := Lib.hid hpb
      obtain ⟨RA, rc, hrc⟩ := pair_rcell hpb
      obtain ⟨nn, hnn⟩ : ∃ nn, N.length = nn := ⟨_, rfl⟩
      rw [hnn] at hrc
      have f0 : ∀ p : BelowOf wb, p.W.cell? ⟨R, 0, none⟩ = some (.slice RA nn rc) := fun p => (p.h.cell (p := ⟨R, 0, none⟩) (World.block_lt_of_cell? _ _ hrc)).trans hrc
      have f1 : ∀ p : BelowOf wb, p.W.cell? ⟨wr.heap.size, 2, none⟩ = some (.int .i64 xn) := fun p => (p.h.cell (p := ⟨wr.heap.size, 2, none⟩) (World.block_lt_of_cell? _ _ bxb)).trans bxb
      have hlt := hpb.len
      have C1 := Lib.hid (show ∀ p : BelowOf wb, Calls Try.prog 18 #[Pq Q] p.W fun e w'' => e = .returned (.int .i64 nn) ∧ ∃ q : BelowOf wb, w'' = q.W from fun p =>
        calls_below p ((pair_len (HPB.out.below p.h)).mono fun _ _ ⟨he, hw⟩ => ⟨by rw [he, hnn], by rw [← hw]; exact Below.refl _ _⟩))
      obtain ⟨hv, hhv⟩ : ∃ r, N.any (fun x => x.2 == xn) = r := ⟨_, rfl⟩
      have C2 := Lib.hid (show ∀ p : BelowOf wb, Calls Try.prog 19 #[Pq Q, .int .i64 xn] p.W fun e w'' => e = .returned (.bool hv) ∧ ∃ q : BelowOf wb, w'' = q.W from fun p =>
        calls_below p ((pair_has (HPB.out.below p.h) (by omega) xn).mono fun _ _ ⟨he, hw⟩ => ⟨by rw [he, hhv], hw⟩))
      have C3 := Lib.hid (show ∀ p : BelowOf wb, Calls Try.prog 20 #[Pq R, .int .i64 xn] p.W fun e w'' => e = .returned (.bool hv) ∧ ∃ q : BelowOf wb, w'' = q.W from fun p =>
        calls_below p ((pair_rhas (HPB.out.below p.h) (by omega) xn).mono fun _ _ ⟨he, hw⟩ => ⟨by rw [he, hhv], hw⟩))
      clear hpb hbb hrc bxa bxb hnn hhv hlt hpv HRPK
      go_upto_region 23 with fail
      refine wp_region_below (by kernel_rfl) (by kernel_rfl) ?_
      repeat (go_big_quiet_step ((first
        | (go_at_call 18; with_reducible exact C1.out _)
        | (go_at_call 19; with_reducible exact C2.out _)
        | (go_at_call 20; with_reducible exact C3.out _))))
      refine wpQuiet_nil ?_
      rintro wz ⟨⟨_, hz⟩, rfl⟩
      have HZ := Lib.hid (HPB.out.below hz)
      clear hz f0 f1 C1 C2 C3
      go_wp2_with fail
      go_roundg (gk - 1)
      case measure => omega
      case rel => exact ⟨k + 1, N, by omega, by omega, by go_num, Lib.hid (HZ.out.forget (by omega))⟩
    · have hsplit : (k < n ∧ k = 200) ∨ ¬ k < n := by omega
      clear hgo
      rcases hsplit with ⟨hkn, rfl⟩ | hkn
      all_goals
        go_wp2_with fail
        go_ret
        exact ⟨rfl, HT.out.bel⟩

set_option maxRecDepth 100000 in
theorem lifted (os : Os) (started : os.Started) (H : Type) (enc : TypeId × Value → H) :
    ReturnsInHanded {} Try.checked os 3 .any (Rows.queueDoesSpec.pre6 enc Try.prog Try.f3 Rows.queueDoesRow.domain false) (Rows.queueDoesSpec.post enc Try.prog Try.f3 false true false false) := by
  refine returnsInHanded_of_change (C := Try.checked) own started (by kernel_rfl) Try.func3
    (ChangeSpec.witness6 (enc := enc) (C := Try.checked) false ⟨#[], #[.slice none 0 0], []⟩ 8 (by kernel_rfl) (by kernel_rfl) (by kernel_rfl) (by kernel_rfl)) ?_
  intro W base args ds gs before hval0 hW hcnd _
  have hval : ∀ (j : Nat) t v, Try.f3.params[j]? = some t → args[j]? = some v → Value.okWide Try.prog W .any base t v := hval0
  have hW' := hW
  obtain ⟨p, q, hA0, hV, rfl, hfz, hnd⟩ := hW
  have hA : DataW.TrodAll enc Try.prog W 0 (fun _ => true) true Try.f3.params.toList args.toList ds p := hA0
  rw [Try.params3] at hA hval
  obtain ⟨v0, vs0, d0, ds0, p0, q0, hargs, rfl, rfl, h0, r0⟩ := trodAll_cons hA
  obtain ⟨rfl, rfl, rfl⟩ := trodAll_nil r0
  obtain rfl : args = #[v0] := by cases args; simp_all
  obtain ⟨rfl, rfl⟩ := trodVars_none hV
  have hlt := fun x hx => hW'.lt x hx
  have t0 := h0
  obtain ⟨A0, n0, c0, x0, rfl, e0, s0⟩ := open_acts (hval 0 22 v0 rfl rfl) h0
  clear hA0 hval0
  refine (walk A0 n0 c0 x0 W e0 s0).mono fun e W' ⟨he, hg⟩ => ?_
  subst he
  exact ⟨_, rfl, law_post (pv := []) hW' (fun _ _ _ => (trodAll_cons_mk (shut_bool Try.underlying4 _) trodAll_mk0)) (fun sp hsp => (trodAll_cons_mk (arg_stays (by decide) t0 hg (by simp +contextual) hlt hsp laid) trodAll_mk0)) (fun _ _ => rfl) (by simp)
    hg (ok_one (by kernel_rfl) rfl (okWide_bool_mk Try.underlying4 _))⟩

theorem over : Rows.queueDoesRow.holds Try.pinned (OpenSpec.ofChange Rows.queueDoesSpec) :=
  OpenClaim.holds_of_wide 3 Try.f3 rfl rfl rfl rfl rfl rfl rfl ⟨rfl, rfl, rfl, rfl, rfl⟩ rfl rfl rfl rfl rfl (by kernel_rfl) Try.func3 (by kernel_rfl)
    (of_decide_eq_true (by kernel_rfl)) (by unfold Func.isWrapper; first | (rw [if_pos (by decide +kernel)]; kernel_rfl) | (rw [if_neg (by decide +kernel)]; exact ⟨rfl, rfl⟩))
    (fun os started H enc _ => lifted os started H enc)

/-- The statement. -/
theorem proved : Rows.QueueDoesSaid :=
  over
end Go.Proofs.Ytadkhnenklkbmaa.queueDoes
