/- For every list of acts the law QueuePeeks returns true, and what is handed in reads as it did; there are no conditions. -/
import Derived.Test.YtadkhnenklkbmaaOpen3
import Derived.Deep.RegionWith
import Derived.ProofKit
import Derived.OpenShut
namespace Go.Proofs.Ytadkhnenklkbmaa.queuePeeks
open Go.ChangeShapes Go.WideShapes Go.ChangeAt Go.RowKit
set_option linter.unusedVariables false

theorem own : ownKnob Try.prog.godebug = none := by kernel_rfl
theorem laid : laidOutB Try.prog = true := by kernel_rfl

theorem popV_form (L : List KN) : ∃ a b c, popV L = .tuple #[.int .i64 a, .int .i64 b, .bool c] := by
  cases L with
  | nil => exact ⟨0, 0, false, rfl⟩
  | cons x l => exact ⟨x.1, x.2, true, rfl⟩
theorem wf_ins {k m : Int} {L : List KN} (h : ∀ y ∈ L, Wf y.2) (hm : Wf m) : ∀ y ∈ ins (k, m) L, Wf y.2 := fun y hy => by
  rcases List.mem_cons.1 ((ins_perm _ _).mem_iff.1 hy) with rfl | hy
  · exact hm
  · exact h y hy

set_option maxHeartbeats 8000000 in
set_option maxRecDepth 100000 in
theorem walk (A : Option Addr) (n c : Nat) (F : Nat → Act3) (w : World) (k1 : n ≤ c ∧ c ≤ maxLen) (hF : Acts w w.heap.size A n F ∧ ∀ i, i < n → Wf (F i).num) :
    Calls Try.prog 6 #[.slice A n c] w (AwakeE w) := by
  have hnm : n ≤ 9223372036854775807 := by have := k1.1; have := k1.2; unfold maxLen at this; omega
  have hmm := @run_makeMap Try.prog
  have HWF := Lib.hid hF.2
  replace hF := hF.1
  clear k1
  go_enter Try.func6, Try.ntmps6
  go_wp2_with fail
  refine (awake_any _).mono ?_
  rintro e w1 ⟨rfl, hb1⟩
  go_wp2_with fail
  refine (lnew w1 w.heap.size hb1.size).mono ?_
  rintro e w2 ⟨rfl, h2, hb2⟩
  have HT0 := Lib.hid (((one_new hb1 h2 hb2).box (.map #[] 0)).weak (T' := 0) (X' := fun b => b = w2.heap.size) (Nat.le_refl _) (fun b h => .inr h))
  have HM0 := Lib.hid (MapI.made w2 3)
  have hloM : w.heap.size ≤ w2.heap.size := Nat.le_trans hb1.size hb2.size
  generalize w1.heap.size = Q at *
  generalize hMM : w2.heap.size = M at *
  clear h2 hb1 hb2
  go_wp2_with fail
  clear hMM
  go_loopg [5, 6] 200 (fun g s5 s6 wr => ∃ (k : Nat) (L : List KN) (f : Int → Int) (av : Int), g + k = 200 ∧ k ≤ n ∧ s5 = .int .i64 av ∧ s6 = .int .i64 k ∧ Hid (One w wr Q (fun b => b = M) L k) ∧ Hid (MapI wr 3 M k f) ∧ Hid (∀ a, f a = cnt L a) ∧ Hid (∀ y ∈ L, Wf y.2) ∧ Hid ((L.length : Int) = av))
  case atStart => exact ⟨0, [], _, 0, by omega, by omega, rfl, rfl, HT0, HM0, Lib.hid (fun a => rfl), Lib.hid (by simp), Lib.hid rfl⟩
  case round =>
    clear HT0 HM0
    obtain ⟨k, L, f, av, hgk, hk, rfl, rfl, HT, HM, HC, HWL, HL⟩ := hrel
    have hk200 : k ≤ 200 := by omega
    have hav : 0 ≤ av ∧ av ≤ 200 := by have := HL.out; have := HT.out.len; omega
    have hav1 := hav.1
    have hav2 := hav.2
    clear hav
    by_cases hgo : k < n ∧ k < 200
    · obtain ⟨hkn, hk2⟩ := hgo
      obtain ⟨b, off, rfl, hbl, f0, f1, f2⟩ := (hF.below HT.out.bel) k hkn
      have HWX := Lib.hid (HWF.out k hkn)
      generalize F k = x at *
      obtain ⟨xk, xe, xn⟩ := x
      dsimp only at f0 f1 f2 HWX
      have HB := Lib.hid (HT.out.box (.cells #[.int .i64 xk, .int .i64 xe, .int .i64 xn] 31))
      have HMB := Lib.hid (HM.out.of_block ((below_alloc wr (.cells #[.int .i64 xk, .int .i64 xe, .int .i64 xn] 31)).block M HM.out.lt))
      obtain ⟨cv, hcv⟩ : ∃ cv, f xn = cv := ⟨_, rfl⟩
      have hcv1 : 0 ≤ cv := by rw [← hcv, HC.out]; exact (cnt_le _ _).1
      have hcv2 : cv ≤ 200 := by have := (cnt_le L xn).2; have := HT.out.len; rw [← hcv, HC.out]; omega
      have HCV := Lib.hid hcv
      clear hcv
      by_cases h0 : xk = 0
      · subst h0
        have HP := Lib.hid (one_push HB.out (by omega) xe xn)
        go_wp2_with fail
        refine HP.out.mono ?_
        rintro e w4 ⟨rfl, ht4, hs4⟩
        have b2 := (World.cell?_of_block (a := ⟨wr.heap.size, 2, none⟩) (hs4 _ (.inr rfl))).trans (show _ = some (.int .i64 xn) by simp)
        have hm4 := HMB.out.of_block (hs4 M (.inl rfl))
        have hlk := hm4.look Try.underlying43 Try.underlying3 HWX.out
        rw [HCV.out] at hlk
        obtain ⟨w5, hput, hm5, hg5⟩ := hm4.put Try.underlying43 Try.underlying3 (by omega) HWX.out (wf_small (a := cv + 1) (by omega) (by omega))
        have bx := (hg5.cell b2 (by intro e; simp only [Option.some.injEq] at e; have := HM.out.lt; omega))
        have HOT := Lib.hid (ht4.grown hg5 (.inl rfl) hloM)
        have HCN0 := Lib.hid (show ∀ a, upd f xn (cv + 1) a = cnt (ins (xe, xn) L) a from fun a => by rw [cnt_ins]; unfold upd; rw [← HCV.out, HC.out, HC.out])
        have HWN0 := Lib.hid (wf_ins (k := xe) HWL.out HWX.out)
        have HLN0 := Lib.hid (show ((ins (xe, xn) L).length : Int) = av + 1 by rw [ins_length, ← HL.out]; simp)
        have HMT := Lib.hid hm5
        generalize ins (xe, xn) L = N at *
        generalize upd f xn (cv + 1) = fn at *
        have HCN := HCN0
        have HWN := HWN0
        have HLN := HLN0
        clear HCN0 HWN0 HLN0 hm4 hm5 hg5 ht4 hs4 HP
        have HMS := Lib.hid (fun (p : BelowOf w5) => HMT.out.of_block (p.h.block M HMT.out.lt))
        obtain ⟨cw, hcw⟩ : ∃ cw, fn xn = cw := ⟨_, rfl⟩
        have l0 : ∀ p : BelowOf w5, Sem.run Try.prog (Instr.lookup 43 (.map (some M)) (.int .i64 xn) false) p.W = .ok (.int .i64 cw) p.W := fun p => by
          rw [← hcw]; exact (HMS.out p).look Try.underlying43 Try.underlying3 HWX.out
        have l1 : ∀ p : BelowOf w5, p.W.cell? ⟨wr.heap.size, 2, none⟩ = some (.int .i64 xn) := fun p => (p.h.cell (p := ⟨wr.heap.size, 2, none⟩) (World.block_lt_of_cell? _ _ bx)).trans bx
        have C1 := Lib.hid (show ∀ p : BelowOf w5, Calls Try.prog 18 #[Pq Q] p.W fun e w'' => e = .returned (.int .i64 (av + 1)) ∧ ∃ q : BelowOf w5, w'' = q.W from fun p =>
          calls_below p ((one_len (HOT.out.below p.h)).mono fun _ _ ⟨he, hw⟩ => ⟨by rw [he, HLN.out], by rw [← hw]; exact Below.refl _ _⟩))
        have C2 := Lib.hid (show ∀ p : BelowOf w5, Calls Try.prog 19 #[Pq Q, .int .i64 xn] p.W fun e w'' => e = .returned (.bool (decide (0 < cw))) ∧ ∃ q : BelowOf w5, w'' = q.W from fun p =>
          calls_below p ((one_has (HOT.out.below p.h) (by omega) xn).mono fun _ _ ⟨he, hw⟩ => ⟨by rw [he, any_cnt, ← HCN.out, hcw], hw⟩))
        clear hcw bx
        go_upto_region 28 with fail
        refine wp_region_below (by kernel_rfl) (by kernel_rfl) ?_
        repeat (go_big_quiet_step ((first
          | (go_at_call 18; with_reducible exact C1.out _)
          | (go_at_call 19; with_reducible exact C2.out _))))
        refine wpQuiet_nil ?_
        rintro wz ⟨⟨_, hz⟩, rfl⟩
        have HZ := Lib.hid (HOT.out.below hz)
        have HMZ := Lib.hid (show MapI wz 3 M (k + 1) fn from HMS.out ⟨_, hz⟩)
        clear hz l0 l1 C1 C2 HMS
        go_wp2_with fail
        go_roundg (gk - 1)
        case measure => omega
        case rel => exact ⟨k + 1, N, fn, (av + 1), by omega, by omega, rfl, by go_num, Lib.hid (HZ.out.weak (Nat.le_refl _) (fun b h => .inl h)), HMZ, HCN, HWN, HLN⟩
      have n0 : (xk == 0) = false := by rw [beq_eq_false_iff_ne]; exact h0
      by_cases h1 : xk = 1
      · subst h1
        have HPK := Lib.hid (one_peek HB.out (by omega))
        cases L with
        | nil =>
          have hav0 : av = 0 := by have := HL.out; simp at this; omega
          subst hav0
          rw [show popV [] = .tuple #[.int .i64 0, .int .i64 0, .bool false] from rfl] at HPK
          go_wp2_with fail
          refine HPK.out.mono ?_
          rintro e w4 ⟨rfl, ht4, hb4⟩
          have HP := Lib.hid (one_pop ht4 (by omega))
          rw [show popV [] = .tuple #[.int .i64 0, .int .i64 0, .bool false] from rfl, show ([] : List KN).tail = [] from rfl] at HP
          have b2 := (hb4.cell (p := ⟨wr.heap.size, 2, none⟩) (by simp)).trans (show _ = some (.int .i64 xn) by simp)
          have hm4 := HMB.out.of_block (hb4.block M HMB.out.lt)
          clear ht4 hb4 HPK
          go_wp2_with fail
          refine HP.out.mono ?_
          rintro e w5 ⟨rfl, ht5, hs5⟩
          have bx := (World.cell?_of_block (a := ⟨wr.heap.size, 2, none⟩) (hs5 _ (.inr rfl))).trans b2
          have HMT := Lib.hid ((hm4.of_block (hs5 M (.inl rfl))).mono (n' := k + 1) (by omega))
          have HOT := Lib.hid (ht5.weak (T' := k + 1) (by omega) (fun b h => h))
          have HCN := HC
          have HWN := HWL
          have HLN := HL
          generalize hNN : ([] : List KN) = N at *
          generalize hfn : f = fn at *
          clear hm4 ht5 hs5 b2 HP HC HWL HL hNN hfn
          have HMS := Lib.hid (fun (p : BelowOf w5) => HMT.out.of_block (p.h.block M HMT.out.lt))
          obtain ⟨cw, hcw⟩ : ∃ cw, fn xn = cw := ⟨_, rfl⟩
          have l0 : ∀ p : BelowOf w5, Sem.run Try.prog (Instr.lookup 43 (.map (some M)) (.int .i64 xn) false) p.W = .ok (.int .i64 cw) p.W := fun p => by
            rw [← hcw]; exact (HMS.out p).look Try.underlying43 Try.underlying3 HWX.out
          have l1 : ∀ p : BelowOf w5, p.W.cell? ⟨wr.heap.size, 2, none⟩ = some (.int .i64 xn) := fun p => (p.h.cell (p := ⟨wr.heap.size, 2, none⟩) (World.block_lt_of_cell? _ _ bx)).trans bx
          have C1 := Lib.hid (show ∀ p : BelowOf w5, Calls Try.prog 18 #[Pq Q] p.W fun e w'' => e = .returned (.int .i64 0) ∧ ∃ q : BelowOf w5, w'' = q.W from fun p =>
            calls_below p ((one_len (HOT.out.below p.h)).mono fun _ _ ⟨he, hw⟩ => ⟨by rw [he, HLN.out], by rw [← hw]; exact Below.refl _ _⟩))
          have C2 := Lib.hid (show ∀ p : BelowOf w5, Calls Try.prog 19 #[Pq Q, .int .i64 xn] p.W fun e w'' => e = .returned (.bool (decide (0 < cw))) ∧ ∃ q : BelowOf w5, w'' = q.W from fun p =>
            calls_below p ((one_has (HOT.out.below p.h) (by omega) xn).mono fun _ _ ⟨he, hw⟩ => ⟨by rw [he, any_cnt, ← HCN.out, hcw], hw⟩))
          clear hcw bx
          go_upto_region 28 with fail
          refine wp_region_below (by kernel_rfl) (by kernel_rfl) ?_
          repeat (go_big_quiet_step ((first
            | (go_at_call 18; with_reducible exact C1.out _)
            | (go_at_call 19; with_reducible exact C2.out _))))
          refine wpQuiet_nil ?_
          rintro wz ⟨⟨_, hz⟩, rfl⟩
          have HZ := Lib.hid (HOT.out.below hz)
          have HMZ := Lib.hid (show MapI wz 3 M (k + 1) fn from HMS.out ⟨_, hz⟩)
          clear hz l0 l1 C1 C2 HMS
          go_wp2_with fail
          go_roundg (gk - 1)
          case measure => omega
          case rel => exact ⟨k + 1, N, fn, 0, by omega, by omega, rfl, by go_num, Lib.hid (HZ.out.weak (Nat.le_refl _) (fun b h => .inl h)), HMZ, HCN, HWN, HLN⟩
        | cons a l =>
          obtain ⟨ak, an⟩ := a
          have hav0 : 0 < av := by have := HL.out; simp at this; omega
          rw [show popV ((ak, an) :: l) = .tuple #[.int .i64 ak, .int .i64 an, .bool true] from rfl] at HPK
          go_wp2_with fail
          refine HPK.out.mono ?_
          rintro e w4 ⟨rfl, ht4, hb4⟩
          have HP := Lib.hid (one_pop ht4 (by omega))
          rw [show popV ((ak, an) :: l) = .tuple #[.int .i64 ak, .int .i64 an, .bool true] from rfl, show ((ak, an) :: l).tail = l from rfl] at HP
          have b2 := (hb4.cell (p := ⟨wr.heap.size, 2, none⟩) (by simp)).trans (show _ = some (.int .i64 xn) by simp)
          have hm4 := HMB.out.of_block (hb4.block M HMB.out.lt)
          clear ht4 hb4 HPK
          go_wp2_with fail
          refine HP.out.mono ?_
          rintro e w5 ⟨rfl, ht5, hs5⟩
          have b3 := (World.cell?_of_block (a := ⟨wr.heap.size, 2, none⟩) (hs5 _ (.inr rfl))).trans b2
          have hm5 := hm4.of_block (hs5 M (.inl rfl))
          have hwa : Wf an := HWL.out (ak, an) (by simp)
          obtain ⟨cu, hcu⟩ : ∃ cu, f an = cu := ⟨_, rfl⟩
          have hcu1 : 1 ≤ cu := by rw [← hcu, HC.out, cnt_cons, if_pos rfl]; have := (cnt_le l an).1; omega
          have hcu2 : cu ≤ 201 := by have := (cnt_le ((ak, an) :: l) an).2; have := HT.out.len; rw [← hcu, HC.out]; omega
          have hlk := hm5.look Try.underlying43 Try.underlying3 hwa
          rw [hcu] at hlk
          obtain ⟨w6, hput, hm6, hg6⟩ := hm5.put Try.underlying43 Try.underlying3 (by omega) hwa (wf_small (a := cu - 1) (by omega) (by omega))
          have bx := (hg6.cell b3 (by intro e; simp only [Option.some.injEq] at e; have := HM.out.lt; omega))
          have HOT := Lib.hid ((ht5.grown hg6 (.inl rfl) hloM).weak (T' := k + 1) (by omega) (fun b h => h))
          have HMT := Lib.hid hm6
          have HCN := Lib.hid (show ∀ a, upd f an (cu - 1) a = cnt l a from fun a => by rw [cnt_tail (ak, an) l]; unfold upd; simp only; rw [← hcu, HC.out, HC.out])
          have HWN := Lib.hid (show ∀ y ∈ l, Wf y.2 from fun y hy => HWL.out y (by simp [hy]))
          have HLN := Lib.hid (show (l.length : Int) = av - 1 by have := HL.out; simp at this; omega)
          generalize hfn : upd f an (cu - 1) = fn at *
          generalize hNN : l = N at *
          clear hcu hm4 hm5 hm6 hg6 ht5 hs5 b2 b3 HP HC HWL HL hwa hfn hNN
          have HMS := Lib.hid (fun (p : BelowOf w6) => HMT.out.of_block (p.h.block M HMT.out.lt))
          obtain ⟨cw, hcw⟩ : ∃ cw, fn xn = cw := ⟨_, rfl⟩
          have l0 : ∀ p : BelowOf w6, Sem.run Try.prog (Instr.lookup 43 (.map (some M)) (.int .i64 xn) false) p.W = .ok (.int .i64 cw) p.W := fun p => by
            rw [← hcw]; exact (HMS.out p).look Try.underlying43 Try.underlying3 HWX.out
          have l1 : ∀ p : BelowOf w6, p.W.cell? ⟨wr.heap.size, 2, none⟩ = some (.int .i64 xn) := fun p => (p.h.cell (p := ⟨wr.heap.size, 2, none⟩) (World.block_lt_of_cell? _ _ bx)).trans bx
          have C1 := Lib.hid (show ∀ p : BelowOf w6, Calls Try.prog 18 #[Pq Q] p.W fun e w'' => e = .returned (.int .i64 (av - 1)) ∧ ∃ q : BelowOf w6, w'' = q.W from fun p =>
            calls_below p ((one_len (HOT.out.below p.h)).mono fun _ _ ⟨he, hw⟩ => ⟨by rw [he, HLN.out], by rw [← hw]; exact Below.refl _ _⟩))
          have C2 := Lib.hid (show ∀ p : BelowOf w6, Calls Try.prog 19 #[Pq Q, .int .i64 xn] p.W fun e w'' => e = .returned (.bool (decide (0 < cw))) ∧ ∃ q : BelowOf w6, w'' = q.W from fun p =>
            calls_below p ((one_has (HOT.out.below p.h) (by omega) xn).mono fun _ _ ⟨he, hw⟩ => ⟨by rw [he, any_cnt, ← HCN.out, hcw], hw⟩))
          clear hcw bx
          go_upto_region 28 with fail
          refine wp_region_below (by kernel_rfl) (by kernel_rfl) ?_
          repeat (go_big_quiet_step ((first
            | (go_at_call 18; with_reducible exact C1.out _)
            | (go_at_call 19; with_reducible exact C2.out _))))
          refine wpQuiet_nil ?_
          rintro wz ⟨⟨_, hz⟩, rfl⟩
          have HZ := Lib.hid (HOT.out.below hz)
          have HMZ := Lib.hid (show MapI wz 3 M (k + 1) fn from HMS.out ⟨_, hz⟩)
          clear hz l0 l1 C1 C2 HMS
          go_wp2_with fail
          go_roundg (gk - 1)
          case measure => omega
          case rel => exact ⟨k + 1, N, fn, (av - 1), by omega, by omega, rfl, by go_num, Lib.hid (HZ.out.weak (Nat.le_refl _) (fun b h => .inl h)), HMZ, HCN, HWN, HLN⟩
      have n1 : (xk == 1) = false := by rw [beq_eq_false_iff_ne]; exact h1
      by_cases h2 : xk = 2
      · subst h2
        have HP := Lib.hid (show ∀ W, Below (wr.alloc (.cells #[.int .i64 2, .int .i64 xe, .int .i64 xn] 31)).heap.size (wr.alloc (.cells #[.int .i64 2, .int .i64 xe, .int .i64 xn] 31)) W →
          Calls Try.prog 14 #[Pq Q, .int .i64 xn] W (fun e w' => e = .returned (.int .i64 cv) ∧ One w w' Q (fun b => b = M ∨ b = wr.heap.size) (L.filter (keepN xn)) k ∧ Same (fun b => b = M ∨ b = wr.heap.size) W w') from fun W hW =>
          (one_drop (HB.out.below hW) (by omega) xn).mono fun _ _ ⟨he, h⟩ => ⟨by rw [he, len_drop, ← HC.out, HCV.out, show (L.length : Int) - ((L.length : Int) - cv) = cv by omega], h⟩)
        go_upto_region 24 with fail
        have b2 : (wr.alloc (.cells #[.int .i64 2, .int .i64 xe, .int .i64 xn] 31)).cell? ⟨wr.heap.size, 2, none⟩ = some (.int .i64 xn) := by simp
        have hMl : M ≠ wr.heap.size := by have := HM.out.lt; omega
        generalize hwa : wr.alloc (.cells #[.int .i64 2, .int .i64 xe, .int .i64 xn] 31) = wal at *
        clear hwa
        have hl1 : Sem.run Try.prog (Instr.lookup 43 (.map (some M)) (.int .i64 xn) false) wal.drew = .ok (.int .i64 cv) wal.drew := by
          have := (HMB.out.of_block (w' := wal.drew) rfl).look Try.underlying43 Try.underlying3 HWX.out
          rw [HCV.out] at this; exact this
        go_cut [99] (fun v wx => v = .bool false ∧ One w wx Q (fun b => b = M ∨ b = wr.heap.size) (L.filter (keepN xn)) k ∧ wx.cell? ⟨wr.heap.size, 2, none⟩ = some (.int .i64 xn) ∧ MapI wx 3 M k f)
        case first =>
          go_region_with ((go_at_call 14; refine (HP.out _ (Below.refl _ _).drew).mono ?_; rintro e w4 ⟨rfl, ht4, hs4⟩; have c2 := (World.cell?_of_block (a := ⟨wr.heap.size, 2, none⟩) (hs4 _ (.inr rfl))).trans b2; have HM4 := Lib.hid ((HMB.out.of_block (w' := wal.drew) rfl).of_block (hs4 M (.inl rfl))); have HT4 := Lib.hid ht4; have hl2 := HM4.out.look Try.underlying43 Try.underlying3 HWX.out; rw [HCV.out] at hl2; clear ht4 hs4))
          all_goals (go_wp2_with fail; go_meet; case rel => exact ⟨by simp, HT4.out, c2, HM4.out⟩)
        case rest =>
          obtain ⟨rfl, ht5, b3, hm5⟩ := hcut
          have hlk := hm5.look Try.underlying43 Try.underlying3 HWX.out
          rw [HCV.out] at hlk
          obtain ⟨w6, hput, hm6, hg6⟩ := hm5.put Try.underlying43 Try.underlying3 (by omega) HWX.out (wf_small (a := 0) (by omega) (by omega))
          have bx := (hg6.cell b3 (by intro e; simp only [Option.some.injEq] at e; exact hMl e.symm))
          have HOT := Lib.hid ((ht5.grown hg6 (.inl rfl) hloM).weak (T' := k + 1) (by omega) (fun b h => h))
          have HMT := Lib.hid hm6
          have HCN := Lib.hid (show ∀ a, upd f xn 0 a = cnt (L.filter (keepN xn)) a from fun a => by rw [cnt_drop]; unfold upd; rw [HC.out])
          have HWN := Lib.hid (show ∀ y ∈ L.filter (keepN xn), Wf y.2 from fun y hy => HWL.out y (List.mem_filter.1 hy).1)
          have HLN := Lib.hid (show ((L.filter (keepN xn)).length : Int) = av - cv by rw [len_drop, HL.out, ← HC.out, HCV.out])
          generalize hfn : upd f xn 0 = fn at *
          generalize hNN : L.filter (keepN xn) = N at *
          clear hm5 hm6 hg6 ht5 b2 HP HC HWL HL hfn hNN hl1 h0 n0 h1 n1
          have HMS := Lib.hid (fun (p : BelowOf w6) => HMT.out.of_block (p.h.block M HMT.out.lt))
          obtain ⟨cw, hcw⟩ : ∃ cw, fn xn = cw := ⟨_, rfl⟩
          have l0 : ∀ p : BelowOf w6, Sem.run Try.prog (Instr.lookup 43 (.map (some M)) (.int .i64 xn) false) p.W = .ok (.int .i64 cw) p.W := fun p => by
            rw [← hcw]; exact (HMS.out p).look Try.underlying43 Try.underlying3 HWX.out
          have l1 : ∀ p : BelowOf w6, p.W.cell? ⟨wr.heap.size, 2, none⟩ = some (.int .i64 xn) := fun p => (p.h.cell (p := ⟨wr.heap.size, 2, none⟩) (World.block_lt_of_cell? _ _ bx)).trans bx
          have C1 := Lib.hid (show ∀ p : BelowOf w6, Calls Try.prog 18 #[Pq Q] p.W fun e w'' => e = .returned (.int .i64 (av - cv)) ∧ ∃ q : BelowOf w6, w'' = q.W from fun p =>
            calls_below p ((one_len (HOT.out.below p.h)).mono fun _ _ ⟨he, hw⟩ => ⟨by rw [he, HLN.out], by rw [← hw]; exact Below.refl _ _⟩))
          have C2 := Lib.hid (show ∀ p : BelowOf w6, Calls Try.prog 19 #[Pq Q, .int .i64 xn] p.W fun e w'' => e = .returned (.bool (decide (0 < cw))) ∧ ∃ q : BelowOf w6, w'' = q.W from fun p =>
            calls_below p ((one_has (HOT.out.below p.h) (by omega) xn).mono fun _ _ ⟨he, hw⟩ => ⟨by rw [he, any_cnt, ← HCN.out, hcw], hw⟩))
          clear hcw bx
          go_upto_region 28 with fail
          refine wp_region_below (by kernel_rfl) (by kernel_rfl) ?_
          repeat (go_big_quiet_step ((first
            | (go_at_call 18; with_reducible exact C1.out _)
            | (go_at_call 19; with_reducible exact C2.out _))))
          refine wpQuiet_nil ?_
          rintro wz ⟨⟨_, hz⟩, rfl⟩
          have HZ := Lib.hid (HOT.out.below hz)
          have HMZ := Lib.hid (show MapI wz 3 M (k + 1) fn from HMS.out ⟨_, hz⟩)
          clear hz l0 l1 C1 C2 HMS
          go_wp2_with fail
          go_roundg (gk - 1)
          case measure => omega
          case rel => exact ⟨k + 1, N, fn, (av - cv), by omega, by omega, rfl, by go_num, Lib.hid (HZ.out.weak (Nat.le_refl _) (fun b h => .inl h)), HMZ, HCN, HWN, HLN⟩
      have n2 : (xk == 2) = false := by rw [beq_eq_false_iff_ne]; exact h2
      have bx : (wr.alloc (.cells #[.int .i64 xk, .int .i64 xe, .int .i64 xn] 31)).cell? ⟨wr.heap.size, 2, none⟩ = some (.int .i64 xn) := by simp
      have HMT := Lib.hid (HMB.out.mono (n' := k + 1) (by omega))
      have HOT := Lib.hid (HB.out.weak (T' := k + 1) (by omega) (fun b h => h))
      have HCN := HC
      have HWN := HWL
      have HLN := HL
      clear HC HWL HL h0 h1 h2
      generalize hNN : L = N at *
      generalize hfn : f = fn at *
      clear hNN hfn
      have HMS := Lib.hid (fun (p : BelowOf (wr.alloc (.cells #[.int .i64 xk, .int .i64 xe, .int .i64 xn] 31))) => HMT.out.of_block (p.h.block M HMT.out.lt))
      obtain ⟨cw, hcw⟩ : ∃ cw, fn xn = cw := ⟨_, rfl⟩
      have l0 : ∀ p : BelowOf (wr.alloc (.cells #[.int .i64 xk, .int .i64 xe, .int .i64 xn] 31)), Sem.run Try.prog (Instr.lookup 43 (.map (some M)) (.int .i64 xn) false) p.W = .ok (.int .i64 cw) p.W := fun p => by
        rw [← hcw]; exact (HMS.out p).look Try.underlying43 Try.underlying3 HWX.out
      have l1 : ∀ p : BelowOf (wr.alloc (.cells #[.int .i64 xk, .int .i64 xe, .int .i64 xn] 31)), p.W.cell? ⟨wr.heap.size, 2, none⟩ = some (.int .i64 xn) := fun p => (p.h.cell (p := ⟨wr.heap.size, 2, none⟩) (World.block_lt_of_cell? _ _ bx)).trans bx
      have C1 := Lib.hid (show ∀ p : BelowOf (wr.alloc (.cells #[.int .i64 xk, .int .i64 xe, .int .i64 xn] 31)), Calls Try.prog 18 #[Pq Q] p.W fun e w'' => e = .returned (.int .i64 av) ∧ ∃ q : BelowOf (wr.alloc (.cells #[.int .i64 xk, .int .i64 xe, .int .i64 xn] 31)), w'' = q.W from fun p =>
        calls_below p ((one_len (HOT.out.below p.h)).mono fun _ _ ⟨he, hw⟩ => ⟨by rw [he, HLN.out], by rw [← hw]; exact Below.refl _ _⟩))
      have C2 := Lib.hid (show ∀ p : BelowOf (wr.alloc (.cells #[.int .i64 xk, .int .i64 xe, .int .i64 xn] 31)), Calls Try.prog 19 #[Pq Q, .int .i64 xn] p.W fun e w'' => e = .returned (.bool (decide (0 < cw))) ∧ ∃ q : BelowOf (wr.alloc (.cells #[.int .i64 xk, .int .i64 xe, .int .i64 xn] 31)), w'' = q.W from fun p =>
        calls_below p ((one_has (HOT.out.below p.h) (by omega) xn).mono fun _ _ ⟨he, hw⟩ => ⟨by rw [he, any_cnt, ← HCN.out, hcw], hw⟩))
      clear hcw bx
      go_upto_region 28 with fail
      refine wp_region_below (by kernel_rfl) (by kernel_rfl) ?_
      repeat (go_big_quiet_step ((first
        | (go_at_call 18; with_reducible exact C1.out _)
        | (go_at_call 19; with_reducible exact C2.out _))))
      refine wpQuiet_nil ?_
      rintro wz ⟨⟨_, hz⟩, rfl⟩
      have HZ := Lib.hid (HOT.out.below hz)
      have HMZ := Lib.hid (show MapI wz 3 M (k + 1) fn from HMS.out ⟨_, hz⟩)
      clear hz l0 l1 C1 C2 HMS
      go_wp2_with fail
      go_roundg (gk - 1)
      case measure => omega
      case rel => exact ⟨k + 1, N, fn, av, by omega, by omega, rfl, by go_num, Lib.hid (HZ.out.weak (Nat.le_refl _) (fun b h => .inl h)), HMZ, HCN, HWN, HLN⟩
    · have hsplit : (k < n ∧ k = 200) ∨ ¬ k < n := by omega
      clear hgo
      rcases hsplit with ⟨hkn, rfl⟩ | hkn
      all_goals
        go_wp2_with fail
        go_ret
        exact ⟨rfl, HT.out.bel⟩

set_option maxRecDepth 100000 in
theorem lifted (os : Os) (started : os.Started) (H : Type) (enc : TypeId × Value → H) :
    ReturnsInHanded {} Try.checked os 6 .any (Rows.queuePeeksSpec.pre6 enc Try.prog Try.f6 Rows.queuePeeksRow.domain false) (Rows.queuePeeksSpec.post enc Try.prog Try.f6 false true false false) := by
  refine returnsInHanded_of_change (C := Try.checked) own started (by kernel_rfl) Try.func6
    (ChangeSpec.witness6 (enc := enc) (C := Try.checked) false ⟨#[], #[.slice none 0 0], []⟩ 8 (by kernel_rfl) (by kernel_rfl) (by kernel_rfl) (by kernel_rfl)) ?_
  intro W base args ds gs before hval0 hW hcnd _
  have hval : ∀ (j : Nat) t v, Try.f6.params[j]? = some t → args[j]? = some v → Value.okWide Try.prog W .any base t v := hval0
  have hW' := hW
  obtain ⟨p, q, hA0, hV, rfl, hfz, hnd⟩ := hW
  have hA : DataW.TrodAll enc Try.prog W 0 (fun _ => true) true Try.f6.params.toList args.toList ds p := hA0
  rw [Try.params6] at hA hval
  obtain ⟨v0, vs0, d0, ds0, p0, q0, hargs, rfl, rfl, h0, r0⟩ := trodAll_cons hA
  obtain ⟨rfl, rfl, rfl⟩ := trodAll_nil r0
  obtain rfl : args = #[v0] := by cases args; simp_all
  obtain ⟨rfl, rfl⟩ := trodVars_none hV
  have hlt := fun x hx => hW'.lt x hx
  have t0 := h0
  obtain ⟨A0, n0, c0, x0, rfl, e0, s0⟩ := open_acts2 (hval 0 22 v0 rfl rfl) h0
  clear hA0 hval0
  refine (walk A0 n0 c0 x0 W e0 s0).mono fun e W' ⟨he, hg⟩ => ?_
  subst he
  exact ⟨_, rfl, law_post (pv := []) hW' (fun _ _ _ => (trodAll_cons_mk (shut_bool Try.underlying4 _) trodAll_mk0)) (fun sp hsp => (trodAll_cons_mk (arg_stays (by decide) t0 hg (by simp +contextual) hlt hsp laid) trodAll_mk0)) (fun _ _ => rfl) (by simp)
    hg (ok_one (by kernel_rfl) rfl (okWide_bool_mk Try.underlying4 _))⟩

theorem over : Rows.queuePeeksRow.holds Try.pinned (OpenSpec.ofChange Rows.queuePeeksSpec) :=
  OpenClaim.holds_of_wide 6 Try.f6 rfl rfl rfl rfl rfl rfl rfl ⟨rfl, rfl, rfl, rfl, rfl⟩ rfl rfl rfl rfl rfl (by kernel_rfl) Try.func6 (by kernel_rfl)
    (of_decide_eq_true (by kernel_rfl)) (by unfold Func.isWrapper; first | (rw [if_pos (by decide +kernel)]; kernel_rfl) | (rw [if_neg (by decide +kernel)]; exact ⟨rfl, rfl⟩))
    (fun os started H enc _ => lifted os started H enc)

/-- The statement. -/
theorem proved : Rows.QueuePeeksSaid :=
  over
end Go.Proofs.Ytadkhnenklkbmaa.queuePeeks
