/- A lock is never held to write and otherwise; who waits isn't ready, waits for one lock alone, and does not hold it; for any number of tasks and any acts on eight locks (of which 150 are played). -/
import Derived.Test.YtagkimnmgalejaaRe
import Derived.Test.YtagkimnmgalejaaMo
import Derived.Test.YtagkimnmgalejaaMp
import Derived.Deep.RegionWith
import Derived.Deep.QuietTactic
import Derived.BigQuiet
import Derived.Deep.CutRange
import Derived.Deep.CutBlock
import Derived.Deep.RegionHeld3
import Derived.ProofKit
import Derived.OpenShut
import Derived.Shelf.Abstract
namespace Go.Proofs.Ytagkimnmgalejaa.schedAlone
open Go.ChangeShapes Go.WideShapes Go.ChangeAt Go.RowKit
open Go.Proofs.Ytagkimnmgalejaa.sc
set_option linter.unusedVariables false

theorem own : ownKnob Try.prog.godebug = none := by kernel_rfl
theorem laid : laidOutB Try.prog = true := by kernel_rfl

set_option maxRecDepth 100000 in
set_option maxHeartbeats 16000000 in
theorem walk (tz : Int) (A : Option Addr) (n c : Nat) (F : Nat → Ac) (w : World) (hz : (Lit.int .i64 tz).wf = true) (hc : n ≤ c ∧ c ≤ maxLen) (hF : Acts w w.heap.size A n F) :
    Calls Try.prog 3 #[.int .i64 tz, .slice A n c] w (AwakeE w) := by
  have HAW := Lib.hid (awake_any w)
  have HFF := Lib.hid hF
  have HC := Lib.hid hc
  clear hz hF hc
  by_cases hr : ¬ (0 ≤ tz ∧ tz ≤ 64)
  · have KN := Lib.hid (fun W => new_nil (w := W) hr)
    unfold StE at KN
    clear hr
    go_enter Try.func3, Try.ntmps3
    go_wp2_with fail
    refine HAW.out.mono ?_
    rintro _ w1 ⟨rfl, hb1⟩
    have HB1 := Lib.hid hb1
    clear hb1 HAW
    go_wp2_with fail
    refine (KN.out _).mono ?_
    rintro _ w2 ⟨rfl, rfl⟩
    go_wp2_with fail
    go_ret
    exact ⟨rfl, HB1.out⟩
  obtain ⟨q, hq, rfl⟩ : ∃ q : Nat, q ≤ 64 ∧ tz = (q : Int) := ⟨tz.toNat, by omega, by omega⟩
  have HQ := Lib.hid hq
  clear hr hq
  go_enter Try.func3, Try.ntmps3
  go_wp2_with fail
  refine HAW.out.mono ?_
  rintro _ w1 ⟨rfl, hb1⟩
  have HB1 := Lib.hid hb1
  have KN := Lib.hid (y_new hb1 q HQ.out)
  clear hb1 HAW
  go_wp2_with fail
  refine KN.out.mono ?_
  rintro _ w2 ⟨P, rfl, h2, hb2⟩
  have H2 := Lib.hid h2.forget
  clear h2 hb2 KN
  go_wp2_with fail
  go_loopg [6] n (fun gk s6 wx => ∃ (k : Nat) (s : Sd), s6 = .int .i64 k ∧ gk + k = n ∧ k ≤ 150 ∧ Hid (SY w wx P No s) ∧ Hid (sc.Good s ∧ In8 s) ∧ Hid (s.N ≤ k))
  case atStart => exact ⟨0, Sd.new q, rfl, by omega, by omega, H2, Lib.hid ⟨good_new _, in8_new _⟩, Lib.hid (Nat.le_refl _)⟩
  case round =>
    clear H2
    obtain ⟨k, s, rfl, hg, hk150, HS, HGD, HN⟩ := hrel
    by_cases hlt : k < n ∧ k < 150
    · obtain ⟨hkn, hk1⟩ := hlt
      obtain ⟨gb, go, hA, hgb, c0, c1, c2, c3, hwf⟩ := (HFF.out.below HS.out.bel) k hkn
      subst hA
      obtain ⟨x, hx⟩ : ∃ x, F k = x := ⟨_, rfl⟩
      rw [hx] at c0 c1 c2 c3 hwf
      obtain ⟨xk, xt, xn, xw⟩ := x
      dsimp only at c0 c1 c2 c3 hwf
      obtain ⟨lj, hlj8, hlj⟩ := which8 xn
      have HNN := Lib.hid (show s.N ≤ 150 by have := HN.out; omega)
      obtain ⟨s2, hs2⟩ : ∃ s2, act s ⟨xk, xt, (lj : Int), xw⟩ = s2 := ⟨_, rfl⟩
      have HOK := Lib.hid (show sc.Good s2 ∧ In8 s2 ∧ s2.N ≤ s.N + 1 from by rw [← hs2]; exact ⟨HGD.out.1.act _, in8_act HGD.out.2 ⟨lj, hlj8, rfl⟩, (act_N s _).1⟩)
      have HS2 := Lib.hid hs2
      have HWF := Lib.hid (show Wf (lj : Int) from wf_small (by omega) (by omega))
      have hbx := below_alloc wr (.cells #[.int .i64 xk, .int .i64 xt, .int .i64 xn, .bool xw] 27)
      have HBX := Lib.hid hbx
      have HX := Lib.hid (HS.out.below hbx)
      clear hx hwf hbx hs2
      go_upto_region 11 with fail
      go_upto_block 2 with fail
      go_cut [8] from 29 to 144 (fun v8 wx => v8 = .int .i64 (lj : Int) ∧ Hid (SY w wx P No s2))
      case first =>
        by_cases e0 : xk = 0
        · have KL := Lib.hid (y_lock HX.out (t := xt) (l := (lj : Int)) (by have := HNN.out; omega) HWF.out xw)
          have HS3 := Lib.hid (show s2 = (s.lock xt (lj : Int) xw).2.2 by rw [← HS2.out]; unfold act; rw [if_pos e0])
          unfold YL at KL
          generalize s.lock xt (lj : Int) xw = r at *
          obtain ⟨r1, r2, r3⟩ := r
          dsimp only at KL HS3
          have q0 : (xk == 0) = true := by simpa using e0
          clear e0
          go_wp2_with fail
          refine KL.out.mono ?_
          rintro _ w4 ⟨rfl, h4, -⟩
          have H4 := Lib.hid h4
          clear h4
          go_wp2_with fail
          go_meet
          case rel => exact ⟨rfl, Lib.hid (by rw [HS3.out]; exact H4.out)⟩
        · by_cases e1 : xk = 1
          · have KL := Lib.hid (y_unlock HX.out (t := xt) (l := (lj : Int)) (by have := HNN.out; omega) HWF.out)
            have HS3 := Lib.hid (show s2 = (s.unlock xt (lj : Int)).2 by rw [← HS2.out]; unfold act; rw [if_neg e0, if_pos e1])
            unfold YU at KL
            generalize s.unlock xt (lj : Int) = r at *
            obtain ⟨r1, r3⟩ := r
            dsimp only at KL HS3
            have q0 : (xk == 0) = false := by simpa using e0
            have q1 : (xk == 1) = true := by simpa using e1
            clear e0 e1
            go_wp2_with fail
            refine KL.out.mono ?_
            rintro _ w4 ⟨rfl, h4, -⟩
            have H4 := Lib.hid h4
            clear h4
            go_wp2_with fail
            go_meet
            case rel => exact ⟨rfl, Lib.hid (by rw [HS3.out]; exact H4.out)⟩
          · by_cases e2 : xk = 2
            · have KL := Lib.hid (y_done HX.out xt)
              have HS3 := Lib.hid (show s2 = (s.done xt).2 by rw [← HS2.out]; unfold act; rw [if_neg e0, if_neg e1, if_pos e2])
              unfold YU at KL
              generalize s.done xt = r at *
              obtain ⟨r1, r3⟩ := r
              dsimp only at KL HS3
              have q0 : (xk == 0) = false := by simpa using e0
              have q1 : (xk == 1) = false := by simpa using e1
              have q2 : (xk == 2) = true := by simpa using e2
              clear e0 e1 e2
              go_wp2_with fail
              refine KL.out.mono ?_
              rintro _ w4 ⟨rfl, h4, -⟩
              have H4 := Lib.hid h4
              clear h4
              go_wp2_with fail
              go_meet
              case rel => exact ⟨rfl, Lib.hid (by rw [HS3.out]; exact H4.out)⟩
            · have HS3 := Lib.hid (show s2 = s by rw [← HS2.out]; unfold act; rw [if_neg e0, if_neg e1, if_neg e2])
              have q0 : (xk == 0) = false := by simpa using e0
              have q1 : (xk == 1) = false := by simpa using e1
              have q2 : (xk == 2) = false := by simpa using e2
              clear e0 e1 e2
              go_wp2_with fail
              go_meet
              case rel => exact ⟨rfl, Lib.hid (by rw [HS3.out]; exact HX.out)⟩
      case rest =>
        obtain ⟨rfl, HCT⟩ := hcut
        have HGK := Lib.hid (And.intro hg (And.intro hkn hk1))
        have HNP := Lib.hid (show s2.N ≤ 160 by have := HOK.out.2.2; have := HNN.out; omega)
        have hmm := @run_makeMap Try.prog 33 wc
        obtain ⟨w5, hw5⟩ : ∃ w5, wc.alloc (.map #[] 0) = w5 := ⟨_, rfl⟩
        obtain ⟨mb, hmb⟩ : ∃ m, wc.heap.size = m := ⟨_, rfl⟩
        have HM5 := Lib.hid (show MapV w5 mb (Wk s2 0).length (Wk s2 0).length (inL (Wk s2 0) (.bool true)) from by
          have := MapV.made wc
          rw [hw5, hmb] at this
          have e : inL (Wk s2 0) (.bool true) = fun _ => none := by funext a; simp [inL, Wk]
          rw [e]; exact this)
        have hb5 : Below wc.heap.size wc w5 := by rw [← hw5]; exact below_alloc _ _
        have HS5 := Lib.hid (show SY w w5 P (fun b => b = mb) s2 from (HCT.out.over hb5).weaken fun b hb => .inr (by rw [hb]; exact ⟨by omega, by rw [← hw5]; simp [hmb]⟩))
        have HMB := Lib.hid (show w.heap.size ≤ mb from by rw [← hmb]; exact HCT.out.bel.size)
        rw [hmb, hw5] at hmm
        have HT64 := Lib.hid (show ∀ l, ∀ t ∈ tasksN (s2.cl l), t < 64 from fun l t ht => by
          obtain ⟨c, hc, e⟩ := List.mem_map.1 ht
          have h1 := HCT.out.fit l c hc
          have h2 := HCT.out.n64
          have e2 : c.task = t := e
          omega)
        have HN64 := Lib.hid HCT.out.n64
        have HFEW := Lib.hid (fun l => HCT.out.few l)
        obtain ⟨gK, rfl⟩ : ∃ g, g = gk := ⟨_, rfl⟩
        clear hb5 hmb hg hkn hk1 hk150
        have HW5 := Lib.hid hw5
        clear hw5
        go_wp2_with fail
        go_loopg [10] 8 (fun gi u10 wx => ∃ k : Nat, u10 = .int .i64 k ∧ gi + k = 8 ∧ Hid (SY w wx P (fun b => b = mb) s2) ∧ Hid (MapV wx mb (Wk s2 k).length (Wk s2 k).length (inL (Wk s2 k) (.bool true))))
        case atStart => exact ⟨0, rfl, by omega, HS5, HM5⟩
        case round =>
          clear HS5 HM5 hmm HW5 HCT HX
          obtain ⟨k8, rfl, hg8, HS6, HM6⟩ := hrel
          by_cases hk8 : k8 < 8
          · have hwfk : Wf ((k8 : Nat) : Int) := wf_small (by omega) (by omega)
            have HWK := Lib.hid hwfk
            have KH := Lib.hid (y_holders HS6.out (by have := HNP.out; omega) hwfk)
            have HONE := Lib.hid (one_held HOK.out.1 (k8 : Int))
            obtain ⟨T, hT⟩ : ∃ T, srt (tasksN (s2.heldL (k8 : Int))) = T := ⟨_, rfl⟩
            obtain ⟨bh, hbh⟩ : ∃ b, headW (s2.heldL (k8 : Int)) = b := ⟨_, rfl⟩
            rw [hT, hbh] at KH HONE
            have HTE := Lib.hid hT
            obtain ⟨tl, htl⟩ : ∃ x, T.length = x := ⟨_, rfl⟩
            have HTL := Lib.hid htl
            have HTB := Lib.hid (show tl ≤ 160 by
              have h1 := HFEW.out (k8 : Int)
              have h2 := HNP.out
              have h3 : (s2.heldL (k8 : Int)).length ≤ (s2.cl (k8 : Int)).length := by unfold Sd.heldL; exact List.length_filter_le _ _
              rw [← htl, ← hT, srt_len]
              simp only [tasksN, List.length_map]
              omega)
            rw [htl] at HONE
            have HG8 := Lib.hid (And.intro hg8 hk8)
            clear hwfk hT hbh htl hg8
            go_wp2_with fail
            refine KH.out.mono ?_
            rintro _ w6 ⟨v6, rfl, ho6, hb6⟩
            obtain ⟨A6, c6, rfl⟩ := own_slice ho6
            rw [HTL.out] at ho6 ⊢
            have HI6 := Lib.hid (ir_ints ho6)
            have HAB6 := Lib.hid (own_ab ho6)
            have HS7 := Lib.hid (HS6.out.below hb6)
            have HM7 := Lib.hid (HM6.out.of_block (hb6.block mb (HS6.out.lt rfl)))
            clear ho6 hb6 KH
            obtain ⟨w7, hw7⟩ : ∃ w7, w6.alloc (.map #[] 0) = w7 := ⟨_, rfl⟩
            obtain ⟨hb, hhb⟩ : ∃ m, w6.heap.size = m := ⟨_, rfl⟩
            have hmm := @run_makeMap Try.prog 33 w6
            rw [hhb, hw7] at hmm
            have hb7 : Below w6.heap.size w6 w7 := by rw [← hw7]; exact below_alloc _ _
            have HH7 := Lib.hid (show MapV w7 hb 0 0 (inI (T.take 0) (.bool true)) from by
              have := MapV.made w6
              rw [hw7, hhb] at this
              have e : inI (T.take 0) (.bool true) = fun _ => none := by funext a; simp [inI]
              rw [e]; exact this)
            have HS8 := Lib.hid (show SY w w7 P (fun b => b = mb ∨ b = hb) s2 from (HS7.out.over hb7).weaken fun b hb2 => by
              rcases hb2 with h | h
              · exact .inl h
              · exact .inr (by rw [h]; exact ⟨by omega, by rw [← hw7]; simp [hhb]⟩))
            have HM8 := Lib.hid (HM7.out.of_block (hb7.block mb (HS7.out.lt rfl)))
            have HI8 := Lib.hid (HI6.out.below hb7)
            have HNE := Lib.hid (show mb ≠ hb ∧ w.heap.size ≤ hb from ⟨fun e => by have := HS7.out.lt (b := mb) rfl; omega, by rw [← hhb]; exact HS7.out.bel.size⟩)
            have HAH := Lib.hid (show ∀ gg, A6 = some ⟨gg, 0, none⟩ → gg < hb from fun gg e => by rw [← hhb]; exact (HAB6.out.2 gg e).2)
            have HW7 := Lib.hid hw7
            clear hb7 hw7 hhb
            obtain ⟨gJ, hgJ⟩ : ∃ g, g = gk := ⟨_, rfl⟩
            have HGJ := Lib.hid (show gJ + k8 = 8 by rw [hgJ]; exact HG8.out.1)
            have hbb : bh = true → tl = 1 := HONE.out
            cases bh with
            | true =>
              have htl1 := hbb rfl
              have htlq : ((tl : Int) != 1) = false := by rw [htl1]; rfl
              clear hbb htl1
              go_wp2_with fail
              go_loopg [90] tl (fun gi u90 wx => ∃ (j m S : Nat), u90 = .int .i64 j ∧ gi + j = tl ∧ m ≤ j ∧ Hid (MapV wx hb m S (inI (T.take j) (.bool true))) ∧ Hid (Only (fun b => b = hb) w7 wx))
              case atStart => exact ⟨0, 0, 0, rfl, by omega, by omega, HH7, Lib.hid (Only.refl _ _)⟩
              case round =>
                clear HH7 hmm
                obtain ⟨j, m, S, rfl, hgj, hmj, HH, HO⟩ := hrel
                have htl160 : tl ≤ 160 := HTB.out
                by_cases hjl : j < tl
                · obtain ⟨g6, rfl, hg6, y6⟩ := (HI8.out.keep2 (w' := wr) fun gg e => ⟨Nat.lt_of_lt_of_le (by obtain ⟨g1, e1, h1, _⟩ := HI8.out.2 j hjl; rw [e] at e1; injection e1 with e1; injection e1 with e1; rw [e1]; exact h1) HO.out.size, HO.out.block gg (by obtain ⟨g1, e1, h1, _⟩ := HI8.out.2 j hjl; rw [e] at e1; injection e1 with e1; injection e1 with e1; rw [e1]; exact h1) (fun e2 => by have := HAH.out gg e; omega)⟩).2 j hjl
                  have hTj : j < T.length := by rw [HTL.out]; exact hjl
                  have HTS := Lib.hid (show T.take j ++ [T.getD j 0] = T.take (j + 1) from by rw [List.take_succ_eq_append_getElem hTj]; simp [List.getD, List.getElem?_eq_getElem hTj])
                  have HTW := Lib.hid (show Wf (T.getD j 0) from by
                    have hm : T.getD j 0 ∈ T := by simp [List.getD, List.getElem?_eq_getElem hTj]
                    have h5 := hm
                    rw [← HTE.out] at h5
                    obtain ⟨a, ha, e⟩ := srt_nat h5
                    rw [← HTE.out, e]
                    have h2 : a ∈ tasksN (s2.cl (k8 : Int)) := by
                      unfold tasksN at ha ⊢
                      unfold Sd.heldL at ha
                      obtain ⟨c, hc, e2⟩ := List.mem_map.1 ha
                      exact List.mem_map.2 ⟨c, (List.mem_filter.1 hc).1, e2⟩
                    have := HT64.out _ a h2
                    exact wf_small (by omega) (by omega))
                  generalize T.getD j 0 = t at *
                  obtain ⟨w9, hput, hm9, hg9⟩ := HH.out.put Try.underlying33 (by omega) HTW.out (.bool true)
                  rw [inI_snoc, HTS.out] at hm9
                  have HH9 := Lib.hid hm9
                  have HO9 := Lib.hid (HO.out.trans (Only.of_grown hg9 (F := fun b => b = hb) (fun k e => by injection e with e; exact e.symm)))
                  clear hm9 hg9 hTj
                  go_wp2_with fail
                  go_roundg (gk - 1)
                  case measure => omega
                  case rel => exact ⟨j + 1, m + 1, _, by go_num, by omega, by omega, HH9, HO9⟩
                · have HHT := Lib.hid (show MapV wr hb m S (inI T (.bool true)) from by have := HH.out; rw [List.take_of_length_le (by rw [HTL.out]; omega)] at this; exact this)
                  have HS9 := Lib.hid (show SY w wr P (fun b => b = mb ∨ b = hb) s2 from HS8.out.turn HO.out (fun b h => ⟨.inr h, by rw [h]; exact HNE.out.2⟩))
                  have HM9 := Lib.hid (HM8.out.of_block (HO.out.block mb (HS8.out.lt (.inl rfl)) HNE.out.1))
                  have KQ := Lib.hid (y_queue HS9.out (by have := HNP.out; omega) HWK.out)
                  obtain ⟨Q, hQ⟩ : ∃ L, s2.queue (k8 : Int) = L := ⟨_, rfl⟩
                  have HQE := Lib.hid hQ
                  rw [hQ] at KQ
                  obtain ⟨ql, hql⟩ : ∃ x, Q.length = x := ⟨_, rfl⟩
                  have HQL := Lib.hid hql
                  have HQB := Lib.hid (show ql ≤ 160 by
                    have h1 := HFEW.out (k8 : Int)
                    have h2 := HNP.out
                    have h3 : (s2.queue (k8 : Int)).length ≤ (s2.cl (k8 : Int)).length := by unfold Sd.queue; rw [List.length_map]; exact List.length_filter_le _ _
                    rw [← hql, ← hQ]
                    omega)
                  clear hQ hql
                  obtain ⟨wq, rfl⟩ : ∃ x, x = wr := ⟨_, rfl⟩
                  go_wp2_with fail
                  refine KQ.out.mono ?_
                  rintro _ w10 hE
                  obtain ⟨A10, c10, rfl, ho10, hb10⟩ := hE.lift (Below.refl _ _)
                  rw [HQL.out] at ho10 ⊢
                  have HI10 := Lib.hid (ir_nat ho10)
                  have HAB10 := Lib.hid (own_ab ho10)
                  have HS10 := Lib.hid (HS9.out.below hb10)
                  have HM10 := Lib.hid (show MapV w10 mb ((Wk s2 k8) ++ Q.take 0).length ((Wk s2 k8) ++ Q.take 0).length (inL ((Wk s2 k8) ++ Q.take 0) (.bool true)) from by
                    rw [List.take_zero, List.append_nil]
                    exact HM9.out.of_block (hb10.block mb (HS9.out.lt (.inl rfl))))
                  have HH10 := Lib.hid (HHT.out.of_block (hb10.block hb (HS9.out.lt (.inr rfl))))
                  have HAL := Lib.hid (show ∀ gg, A10 = some ⟨gg, 0, none⟩ → gg ≠ mb from fun gg e e2 => by
                    have h1 := (HAB10.out.2 gg e).1
                    have h2 := HS9.out.lt (b := mb) (.inl rfl)
                    omega)
                  clear hE ho10 hb10 KQ
                  go_wp2_with fail
                  go_loopg [101] ql (fun gi u101 wx => ∃ j : Nat, u101 = .int .i64 j ∧ gi + j = ql ∧ Hid (MapV wx mb ((Wk s2 k8) ++ Q.take j).length ((Wk s2 k8) ++ Q.take j).length (inL ((Wk s2 k8) ++ Q.take j) (.bool true))) ∧ Hid (Only (fun b => b = mb) w10 wx))
                  case atStart => exact ⟨0, rfl, by omega, HM10, Lib.hid (Only.refl _ _)⟩
                  case round =>
                    clear HM10
                    obtain ⟨j, rfl, hgj, HM, HO2⟩ := hrel
                    have hql160 : ql ≤ 160 := HQB.out
                    by_cases hjl : j < ql
                    · obtain ⟨g6, rfl, hg6, y6⟩ := (HI10.out.keep2 (w' := wr) fun gg e => ⟨Nat.lt_of_lt_of_le (HAB10.out.2 gg e).2 HO2.out.size, HO2.out.block gg (HAB10.out.2 gg e).2 (HAL.out gg e)⟩).2 j hjl
                      have hQj : j < Q.length := by rw [HQL.out]; exact hjl
                      rw [nat_at hQj] at y6
                      have HQS := Lib.hid (show (Wk s2 k8 ++ Q.take j) ++ [Q[j]] = Wk s2 k8 ++ Q.take (j + 1) from by rw [List.take_succ_eq_append_getElem hQj, List.append_assoc])
                      have HIN := Lib.hid (show Q[j] ∈ s2.queue (k8 : Int) from by rw [HQE.out]; exact List.getElem_mem hQj)
                      have HNI := Lib.hid (show Q[j] ∉ Wk s2 k8 ++ Q.take j from by
                        intro h
                        rcases List.mem_append.1 h with h1 | h1
                        · exact queue_out HOK.out.1 _ HIN.out h1
                        · have h2 := queue_nd HOK.out.1 (k8 : Int)
                          rw [HQE.out, ← List.take_append_drop j Q] at h2
                          exact nd_apart h2 h1 (by rw [List.drop_eq_getElem_cons hQj]; exact List.mem_cons_self))
                      have HNT := Lib.hid (show ((Q[j] : Nat) : Int) ∉ T from by
                        rw [← HTE.out]
                        intro h
                        exact queue_held HOK.out.1 _ _ HIN.out (srt_iff.1 h))
                      have HTW := Lib.hid (show Wf ((Q[j] : Nat) : Int) from by
                        obtain ⟨c, h1, h2, h3⟩ := queue_mem.1 HIN.out
                        have := HT64.out _ _ (List.mem_map.2 ⟨c, h1, h3⟩)
                        exact wf_small (by omega) (by omega))
                      generalize Q[j] = t at *
                      have hlk1 := HM.out.look Try.underlying33 (z := .bool false) (by kernel_rfl) HTW.out
                      rw [inL_is, if_neg HNI.out] at hlk1
                      have hlk2 : (Instr.lookup 33 (.map (some mb)) (.int .i64 (t : Int)) false).run Try.prog wr = .ok (.bool false) wr := hlk1
                      have hlk3 := (HH10.out.of_block (w' := wr) (HO2.out.block hb (HS10.out.lt (.inr rfl)) (fun e => HNE.out.1 e.symm))).look Try.underlying33 (z := .bool false) (by kernel_rfl) HTW.out
                      have hlk4 : (Instr.lookup 33 (.map (some hb)) (.int .i64 (t : Int)) false).run Try.prog wr = .ok (.bool false) wr := by
                        rw [hlk3]
                        unfold inI
                        rw [if_neg HNT.out]; rfl
                      have HLB := Lib.hid (show (Wk s2 k8 ++ Q.take j).length ≤ 1000000 from by
                        have h1 := List.nodup_range (n := 64)
                        have h2 : (Wk s2 k8).Nodup := Wk_nd HOK.out.1 k8
                        have h3 : (Wk s2 k8).length ≤ 64 := by
                          have h4 : ∀ x ∈ Wk s2 k8, x ∈ List.range 64 := fun x hx => by
                            obtain ⟨i, _, hi⟩ := Wk_mem.1 hx
                            obtain ⟨c, a1, a2, a3⟩ := queue_mem.1 hi
                            exact List.mem_range.2 (HT64.out _ _ (List.mem_map.2 ⟨c, a1, a3⟩))
                          have := List.Nodup.length_le_of_subset h2 h4
                          simpa using this
                        rw [List.length_append, List.length_take]
                        omega)
                      obtain ⟨w11, hput, hm11, hg11⟩ := HM.out.put Try.underlying33 HLB.out HTW.out (.bool true)
                      rw [inL_is, if_neg HNI.out, inL_snoc, HQS.out] at hm11
                      have HM11 := Lib.hid (show MapV w11 mb (Wk s2 k8 ++ Q.take (j + 1)).length (Wk s2 k8 ++ Q.take (j + 1)).length (inL (Wk s2 k8 ++ Q.take (j + 1)) (.bool true)) from by
                        have e : (Wk s2 k8 ++ Q.take (j + 1)).length = (Wk s2 k8 ++ Q.take j).length + 1 := by rw [← HQS.out, List.length_append]; rfl
                        rw [e]; exact hm11)
                      have HO11 := Lib.hid (HO2.out.trans (Only.of_grown hg11 (F := fun b => b = mb) (fun k e => by injection e with e; exact e.symm)))
                      clear hm11 hg11 hlk1 hlk3 hQj
                      go_wp2_with fail
                      go_roundg (gk - 1)
                      case measure => omega
                      case rel => exact ⟨j + 1, by go_num, by omega, HM11, HO11⟩
                    · have HME := Lib.hid (show MapV wr mb (Wk s2 (k8 + 1)).length (Wk s2 (k8 + 1)).length (inL (Wk s2 (k8 + 1)) (.bool true)) from by
                        have := HM.out
                        rw [List.take_of_length_le (by rw [HQL.out]; omega), ← HQE.out, ← Wk_succ] at this
                        exact this)
                      have HSE := Lib.hid (show SY w wr P (fun b => b = mb) s2 from (HS10.out.turn HO2.out (fun b h => ⟨.inl h, by rw [h]; exact HMB.out⟩)).weaken (fun b h => .inl h))
                      have hk8b : k8 < 8 := HG8.out.2
                      go_wp2_with fail
                      go_roundg (gJ - 1)
                      case measure => have := HGJ.out; omega
                      case rel => exact ⟨k8 + 1, by go_num, by have := HGJ.out; omega, HSE, HME⟩
            | false =>
              clear hbb
              go_wp2_with fail
              go_loopg [90] tl (fun gi u90 wx => ∃ (j m S : Nat), u90 = .int .i64 j ∧ gi + j = tl ∧ m ≤ j ∧ Hid (MapV wx hb m S (inI (T.take j) (.bool true))) ∧ Hid (Only (fun b => b = hb) w7 wx))
              case atStart => exact ⟨0, 0, 0, rfl, by omega, by omega, HH7, Lib.hid (Only.refl _ _)⟩
              case round =>
                clear HH7 hmm
                obtain ⟨j, m, S, rfl, hgj, hmj, HH, HO⟩ := hrel
                have htl160 : tl ≤ 160 := HTB.out
                by_cases hjl : j < tl
                · obtain ⟨g6, rfl, hg6, y6⟩ := (HI8.out.keep2 (w' := wr) fun gg e => ⟨Nat.lt_of_lt_of_le (by obtain ⟨g1, e1, h1, _⟩ := HI8.out.2 j hjl; rw [e] at e1; injection e1 with e1; injection e1 with e1; rw [e1]; exact h1) HO.out.size, HO.out.block gg (by obtain ⟨g1, e1, h1, _⟩ := HI8.out.2 j hjl; rw [e] at e1; injection e1 with e1; injection e1 with e1; rw [e1]; exact h1) (fun e2 => by have := HAH.out gg e; omega)⟩).2 j hjl
                  have hTj : j < T.length := by rw [HTL.out]; exact hjl
                  have HTS := Lib.hid (show T.take j ++ [T.getD j 0] = T.take (j + 1) from by rw [List.take_succ_eq_append_getElem hTj]; simp [List.getD, List.getElem?_eq_getElem hTj])
                  have HTW := Lib.hid (show Wf (T.getD j 0) from by
                    have hm : T.getD j 0 ∈ T := by simp [List.getD, List.getElem?_eq_getElem hTj]
                    have h5 := hm
                    rw [← HTE.out] at h5
                    obtain ⟨a, ha, e⟩ := srt_nat h5
                    rw [← HTE.out, e]
                    have h2 : a ∈ tasksN (s2.cl (k8 : Int)) := by
                      unfold tasksN at ha ⊢
                      unfold Sd.heldL at ha
                      obtain ⟨c, hc, e2⟩ := List.mem_map.1 ha
                      exact List.mem_map.2 ⟨c, (List.mem_filter.1 hc).1, e2⟩
                    have := HT64.out _ a h2
                    exact wf_small (by omega) (by omega))
                  generalize T.getD j 0 = t at *
                  obtain ⟨w9, hput, hm9, hg9⟩ := HH.out.put Try.underlying33 (by omega) HTW.out (.bool true)
                  rw [inI_snoc, HTS.out] at hm9
                  have HH9 := Lib.hid hm9
                  have HO9 := Lib.hid (HO.out.trans (Only.of_grown hg9 (F := fun b => b = hb) (fun k e => by injection e with e; exact e.symm)))
                  clear hm9 hg9 hTj
                  go_wp2_with fail
                  go_roundg (gk - 1)
                  case measure => omega
                  case rel => exact ⟨j + 1, m + 1, _, by go_num, by omega, by omega, HH9, HO9⟩
                · have HHT := Lib.hid (show MapV wr hb m S (inI T (.bool true)) from by have := HH.out; rw [List.take_of_length_le (by rw [HTL.out]; omega)] at this; exact this)
                  have HS9 := Lib.hid (show SY w wr P (fun b => b = mb ∨ b = hb) s2 from HS8.out.turn HO.out (fun b h => ⟨.inr h, by rw [h]; exact HNE.out.2⟩))
                  have HM9 := Lib.hid (HM8.out.of_block (HO.out.block mb (HS8.out.lt (.inl rfl)) HNE.out.1))
                  have KQ := Lib.hid (y_queue HS9.out (by have := HNP.out; omega) HWK.out)
                  obtain ⟨Q, hQ⟩ : ∃ L, s2.queue (k8 : Int) = L := ⟨_, rfl⟩
                  have HQE := Lib.hid hQ
                  rw [hQ] at KQ
                  obtain ⟨ql, hql⟩ : ∃ x, Q.length = x := ⟨_, rfl⟩
                  have HQL := Lib.hid hql
                  have HQB := Lib.hid (show ql ≤ 160 by
                    have h1 := HFEW.out (k8 : Int)
                    have h2 := HNP.out
                    have h3 : (s2.queue (k8 : Int)).length ≤ (s2.cl (k8 : Int)).length := by unfold Sd.queue; rw [List.length_map]; exact List.length_filter_le _ _
                    rw [← hql, ← hQ]
                    omega)
                  clear hQ hql
                  obtain ⟨wq, rfl⟩ : ∃ x, x = wr := ⟨_, rfl⟩
                  go_wp2_with fail
                  refine KQ.out.mono ?_
                  rintro _ w10 hE
                  obtain ⟨A10, c10, rfl, ho10, hb10⟩ := hE.lift (Below.refl _ _)
                  rw [HQL.out] at ho10 ⊢
                  have HI10 := Lib.hid (ir_nat ho10)
                  have HAB10 := Lib.hid (own_ab ho10)
                  have HS10 := Lib.hid (HS9.out.below hb10)
                  have HM10 := Lib.hid (show MapV w10 mb ((Wk s2 k8) ++ Q.take 0).length ((Wk s2 k8) ++ Q.take 0).length (inL ((Wk s2 k8) ++ Q.take 0) (.bool true)) from by
                    rw [List.take_zero, List.append_nil]
                    exact HM9.out.of_block (hb10.block mb (HS9.out.lt (.inl rfl))))
                  have HH10 := Lib.hid (HHT.out.of_block (hb10.block hb (HS9.out.lt (.inr rfl))))
                  have HAL := Lib.hid (show ∀ gg, A10 = some ⟨gg, 0, none⟩ → gg ≠ mb from fun gg e e2 => by
                    have h1 := (HAB10.out.2 gg e).1
                    have h2 := HS9.out.lt (b := mb) (.inl rfl)
                    omega)
                  clear hE ho10 hb10 KQ
                  go_wp2_with fail
                  go_loopg [101] ql (fun gi u101 wx => ∃ j : Nat, u101 = .int .i64 j ∧ gi + j = ql ∧ Hid (MapV wx mb ((Wk s2 k8) ++ Q.take j).length ((Wk s2 k8) ++ Q.take j).length (inL ((Wk s2 k8) ++ Q.take j) (.bool true))) ∧ Hid (Only (fun b => b = mb) w10 wx))
                  case atStart => exact ⟨0, rfl, by omega, HM10, Lib.hid (Only.refl _ _)⟩
                  case round =>
                    clear HM10
                    obtain ⟨j, rfl, hgj, HM, HO2⟩ := hrel
                    have hql160 : ql ≤ 160 := HQB.out
                    by_cases hjl : j < ql
                    · obtain ⟨g6, rfl, hg6, y6⟩ := (HI10.out.keep2 (w' := wr) fun gg e => ⟨Nat.lt_of_lt_of_le (HAB10.out.2 gg e).2 HO2.out.size, HO2.out.block gg (HAB10.out.2 gg e).2 (HAL.out gg e)⟩).2 j hjl
                      have hQj : j < Q.length := by rw [HQL.out]; exact hjl
                      rw [nat_at hQj] at y6
                      have HQS := Lib.hid (show (Wk s2 k8 ++ Q.take j) ++ [Q[j]] = Wk s2 k8 ++ Q.take (j + 1) from by rw [List.take_succ_eq_append_getElem hQj, List.append_assoc])
                      have HIN := Lib.hid (show Q[j] ∈ s2.queue (k8 : Int) from by rw [HQE.out]; exact List.getElem_mem hQj)
                      have HNI := Lib.hid (show Q[j] ∉ Wk s2 k8 ++ Q.take j from by
                        intro h
                        rcases List.mem_append.1 h with h1 | h1
                        · exact queue_out HOK.out.1 _ HIN.out h1
                        · have h2 := queue_nd HOK.out.1 (k8 : Int)
                          rw [HQE.out, ← List.take_append_drop j Q] at h2
                          exact nd_apart h2 h1 (by rw [List.drop_eq_getElem_cons hQj]; exact List.mem_cons_self))
                      have HNT := Lib.hid (show ((Q[j] : Nat) : Int) ∉ T from by
                        rw [← HTE.out]
                        intro h
                        exact queue_held HOK.out.1 _ _ HIN.out (srt_iff.1 h))
                      have HTW := Lib.hid (show Wf ((Q[j] : Nat) : Int) from by
                        obtain ⟨c, h1, h2, h3⟩ := queue_mem.1 HIN.out
                        have := HT64.out _ _ (List.mem_map.2 ⟨c, h1, h3⟩)
                        exact wf_small (by omega) (by omega))
                      generalize Q[j] = t at *
                      have hlk1 := HM.out.look Try.underlying33 (z := .bool false) (by kernel_rfl) HTW.out
                      rw [inL_is, if_neg HNI.out] at hlk1
                      have hlk2 : (Instr.lookup 33 (.map (some mb)) (.int .i64 (t : Int)) false).run Try.prog wr = .ok (.bool false) wr := hlk1
                      have hlk3 := (HH10.out.of_block (w' := wr) (HO2.out.block hb (HS10.out.lt (.inr rfl)) (fun e => HNE.out.1 e.symm))).look Try.underlying33 (z := .bool false) (by kernel_rfl) HTW.out
                      have hlk4 : (Instr.lookup 33 (.map (some hb)) (.int .i64 (t : Int)) false).run Try.prog wr = .ok (.bool false) wr := by
                        rw [hlk3]
                        unfold inI
                        rw [if_neg HNT.out]; rfl
                      have HLB := Lib.hid (show (Wk s2 k8 ++ Q.take j).length ≤ 1000000 from by
                        have h1 := List.nodup_range (n := 64)
                        have h2 : (Wk s2 k8).Nodup := Wk_nd HOK.out.1 k8
                        have h3 : (Wk s2 k8).length ≤ 64 := by
                          have h4 : ∀ x ∈ Wk s2 k8, x ∈ List.range 64 := fun x hx => by
                            obtain ⟨i, _, hi⟩ := Wk_mem.1 hx
                            obtain ⟨c, a1, a2, a3⟩ := queue_mem.1 hi
                            exact List.mem_range.2 (HT64.out _ _ (List.mem_map.2 ⟨c, a1, a3⟩))
                          have := List.Nodup.length_le_of_subset h2 h4
                          simpa using this
                        rw [List.length_append, List.length_take]
                        omega)
                      obtain ⟨w11, hput, hm11, hg11⟩ := HM.out.put Try.underlying33 HLB.out HTW.out (.bool true)
                      rw [inL_is, if_neg HNI.out, inL_snoc, HQS.out] at hm11
                      have HM11 := Lib.hid (show MapV w11 mb (Wk s2 k8 ++ Q.take (j + 1)).length (Wk s2 k8 ++ Q.take (j + 1)).length (inL (Wk s2 k8 ++ Q.take (j + 1)) (.bool true)) from by
                        have e : (Wk s2 k8 ++ Q.take (j + 1)).length = (Wk s2 k8 ++ Q.take j).length + 1 := by rw [← HQS.out, List.length_append]; rfl
                        rw [e]; exact hm11)
                      have HO11 := Lib.hid (HO2.out.trans (Only.of_grown hg11 (F := fun b => b = mb) (fun k e => by injection e with e; exact e.symm)))
                      clear hm11 hg11 hlk1 hlk3 hQj
                      go_wp2_with fail
                      go_roundg (gk - 1)
                      case measure => omega
                      case rel => exact ⟨j + 1, by go_num, by omega, HM11, HO11⟩
                    · have HME := Lib.hid (show MapV wr mb (Wk s2 (k8 + 1)).length (Wk s2 (k8 + 1)).length (inL (Wk s2 (k8 + 1)) (.bool true)) from by
                        have := HM.out
                        rw [List.take_of_length_le (by rw [HQL.out]; omega), ← HQE.out, ← Wk_succ] at this
                        exact this)
                      have HSE := Lib.hid (show SY w wr P (fun b => b = mb) s2 from (HS10.out.turn HO2.out (fun b h => ⟨.inl h, by rw [h]; exact HMB.out⟩)).weaken (fun b h => .inl h))
                      have hk8b : k8 < 8 := HG8.out.2
                      go_wp2_with fail
                      go_roundg (gJ - 1)
                      case measure => have := HGJ.out; omega
                      case rel => exact ⟨k8 + 1, by go_num, by have := HGJ.out; omega, HSE, HME⟩
          · have hk8e : k8 = 8 := by omega
            subst hk8e
            have KW := Lib.hid (y_waiting HS6.out)
            have HWL := Lib.hid (Wk_len HOK.out.1 HOK.out.2.1)
            have HWA := Lib.hid (Wk_all HOK.out.1 HOK.out.2.1)
            have HRO := Lib.hid (ready_out HOK.out.1 HOK.out.2.1)
            have HAT := Lib.hid (show ∀ what, ∀ t ∈ s2.at_ what, t < 64 from fun what t ht => by have := (at_mem.1 ht).1; have := HN64.out; omega)
            obtain ⟨wl, hwl⟩ : ∃ x, (s2.at_ 1).length = x := ⟨_, rfl⟩
            obtain ⟨rl, hrl⟩ : ∃ x, (s2.at_ 0).length = x := ⟨_, rfl⟩
            have HWN := Lib.hid hwl
            have HRN := Lib.hid hrl
            have HLB := Lib.hid (show wl ≤ 64 ∧ rl ≤ 64 by have := at_le s2 1; have := at_le s2 0; have := HN64.out; omega)
            clear hwl hrl
            go_wp2_with fail
            refine KW.out.mono ?_
            rintro _ w6 hE
            obtain ⟨A6, c6, rfl, ho6, hb6⟩ := hE.lift (Below.refl _ _)
            rw [HWN.out] at ho6 ⊢
            have HI6 := Lib.hid (ir_nat ho6)
            have HS7 := Lib.hid (HS6.out.below hb6)
            have HM7 := Lib.hid (HM6.out.of_block (hb6.block mb (HS6.out.lt rfl)))
            have hlen := HM7.out.len Try.underlying33 3
            rw [HWL.out, HWN.out] at hlen
            clear hE ho6 hb6 KW
            go_wp2_with fail
            go_loopg [125] wl (fun gi u125 wx => ∃ j : Nat, u125 = .int .i64 j ∧ gi + j = wl ∧ wx = w6)
            case atStart => exact ⟨0, rfl, by omega, rfl⟩
            case round =>
              obtain ⟨j, rfl, hgj, rfl⟩ := hrel
              have hwl64 : wl ≤ 64 := HLB.out.1
              by_cases hjl : j < wl
              · obtain ⟨g6, rfl, _, y6⟩ := HI6.out.2 j hjl
                have hj2 : j < (s2.at_ 1).length := by rw [HWN.out]; exact hjl
                rw [nat_at hj2] at y6
                have HMEM := Lib.hid (List.getElem_mem hj2)
                generalize (s2.at_ 1)[j] = t at *
                have hlk1 := HM7.out.look Try.underlying33 (z := .bool false) (by kernel_rfl) (a := (t : Int)) (wf_small (by omega) (by have := HAT.out 1 t HMEM.out; omega))
                rw [inL_is, if_pos ((HWA.out t).2 HMEM.out)] at hlk1
                have hlk2 : (Instr.lookup 33 (.map (some mb)) (.int .i64 (t : Int)) false).run Try.prog wr = .ok (.bool true) wr := hlk1
                clear hlk1 hj2
                go_wp2_with fail
                go_roundg (gk - 1)
                case measure => omega
                case rel => exact ⟨j + 1, by go_num, by omega, rfl⟩
              · have KR := Lib.hid (y_ready HS7.out)
                go_wp2_with fail
                refine KR.out.mono ?_
                rintro _ w8 hE
                obtain ⟨A8, c8, rfl, ho8, hb8⟩ := hE.lift (Below.refl _ _)
                rw [HRN.out] at ho8 ⊢
                have HI8 := Lib.hid (ir_nat ho8)
                have HS9 := Lib.hid (HS7.out.below hb8)
                have HM9 := Lib.hid (HM7.out.of_block (hb8.block mb (HS7.out.lt rfl)))
                clear hE ho8 hb8 KR hlen
                go_wp2_with fail
                go_loopg [137] rl (fun gi u137 wx => ∃ j : Nat, u137 = .int .i64 j ∧ gi + j = rl ∧ wx = w8)
                case atStart => exact ⟨0, rfl, by omega, rfl⟩
                case round =>
                  obtain ⟨j, rfl, hgj, rfl⟩ := hrel
                  have hrl64 : rl ≤ 64 := HLB.out.2
                  by_cases hjl : j < rl
                  · obtain ⟨g6, rfl, _, y6⟩ := HI8.out.2 j hjl
                    have hj2 : j < (s2.at_ 0).length := by rw [HRN.out]; exact hjl
                    rw [nat_at hj2] at y6
                    have HMEM := Lib.hid (List.getElem_mem hj2)
                    generalize (s2.at_ 0)[j] = t at *
                    have hlk1 := HM9.out.look Try.underlying33 (z := .bool false) (by kernel_rfl) (a := (t : Int)) (wf_small (by omega) (by have := HAT.out 0 t HMEM.out; omega))
                    rw [inL_is, if_neg (HRO.out t HMEM.out)] at hlk1
                    have hlk2 : (Instr.lookup 33 (.map (some mb)) (.int .i64 (t : Int)) false).run Try.prog wr = .ok (.bool false) wr := hlk1
                    clear hlk1 hj2
                    go_wp2_with fail
                    go_roundg (gk - 1)
                    case measure => omega
                    case rel => exact ⟨j + 1, by go_num, by omega, rfl⟩
                  · have HSF := Lib.hid HS9.out.forget
                    have hk1 : k < 150 := HGK.out.2.2
                    go_wp2_with fail
                    go_roundg (gK - 1)
                    case measure => have := HGK.out.1; have := HGK.out.2.1; omega
                    case rel => exact ⟨k + 1, s2, by go_num, by have := HGK.out.1; have := HGK.out.2.1; omega, by omega, HSF, Lib.hid ⟨HOK.out.1, HOK.out.2.1⟩, Lib.hid (by have := HOK.out.2.2; have := HN.out; omega)⟩
    · by_cases hkn : k < n
      · have hk2 : ¬ (k : Int) < 150 := by omega
        clear hlt
        go_wp2_with fail
        go_ret
        exact ⟨rfl, HS.out.bel⟩
      · clear hlt
        go_wp2_with fail
        go_ret
        exact ⟨rfl, HS.out.bel⟩

set_option maxRecDepth 100000 in
theorem lifted (os : Os) (started : os.Started) (H : Type) (enc : TypeId × Value → H) :
    ReturnsInHanded {} Try.checked os 3 .any (Rows.schedAloneSpec.pre6 enc Try.prog Try.f3 Rows.schedAloneRow.domain false) (Rows.schedAloneSpec.post enc Try.prog Try.f3 false true false false) := by
  refine returnsInHanded_of_change (C := Try.checked) own started (by kernel_rfl) Try.func3
    (ChangeSpec.witness6 (enc := enc) (C := Try.checked) false ⟨#[], #[.int .i64 0, .slice none 0 0], []⟩ 8 (by kernel_rfl) (by kernel_rfl) (by kernel_rfl) (by kernel_rfl)) ?_
  intro W base args ds gs before hval0 hW hcnd _
  have hval : ∀ (j : Nat) t v, Try.f3.params[j]? = some t → args[j]? = some v → Value.okWide Try.prog W .any base t v := hval0
  have hW' := hW
  obtain ⟨p, q, hA0, hV, rfl, hfz, hnd⟩ := hW
  have hA : DataW.TrodAll enc Try.prog W 0 (fun _ => true) true Try.f3.params.toList args.toList ds p := hA0
  rw [Try.params3] at hA hval
  obtain ⟨v0, vs0, d0, ds0, p0, q0, hargs, rfl, rfl, h0, r0⟩ := trodAll_cons hA
  obtain ⟨v1, vs1, d1, ds1, p1, q1, rfl, rfl, rfl, h1, r1⟩ := trodAll_cons r0
  obtain ⟨rfl, rfl, rfl⟩ := trodAll_nil r1
  obtain rfl : args = #[v0, v1] := by cases args; simp_all
  obtain ⟨rfl, rfl⟩ := trodVars_none hV
  have hlt := fun x hx => hW'.lt x hx
  obtain ⟨a0, rfl, rfl, rfl, w0⟩ := open_int Try.underlying3 (hval 0 3 v0 rfl rfl) h0
  have t1 := h1
  obtain ⟨A1, n1, c1, x1, rfl, e1, s1⟩ := open_acts (hval 1 22 v1 rfl rfl) h1
  clear hA0 hval0
  refine (walk a0 A1 n1 c1 x1 W w0 e1 s1).mono fun e W' ⟨he, hg⟩ => ?_
  subst he
  exact ⟨_, rfl, law_post (pv := []) hW' (fun _ _ _ => (trodAll_cons_mk (shut_bool Try.underlying4 _) trodAll_mk0)) (fun sp hsp => (trodAll_cons_mk (shut_int Try.underlying3 w0) (trodAll_cons_mk (arg_stays (by decide) t1 hg (by simp +contextual) hlt hsp laid) trodAll_mk0))) (fun _ _ => rfl) (by simp)
    hg (ok_one (by kernel_rfl) rfl (okWide_bool_mk Try.underlying4 _))⟩

theorem over : Rows.schedAloneRow.holds Try.pinned (OpenSpec.ofChange Rows.schedAloneSpec) :=
  OpenClaim.holds_of_wide 3 Try.f3 rfl rfl rfl rfl rfl rfl rfl ⟨rfl, rfl, rfl, rfl, rfl⟩ rfl rfl rfl rfl rfl (by kernel_rfl) Try.func3 (by kernel_rfl)
    (of_decide_eq_true (by kernel_rfl)) (by unfold Func.isWrapper; first | (rw [if_pos (by decide +kernel)]; kernel_rfl) | (rw [if_neg (by decide +kernel)]; exact ⟨rfl, rfl⟩))
    (fun os started H enc _ => lifted os started H enc)

/-- The statement. -/
theorem proved : Rows.SchedAloneSaid :=
  over
end Go.Proofs.Ytagkimnmgalejaa.schedAlone
