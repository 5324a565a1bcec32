/- Who waits for a lock is let in ahead of those who came later, and none waits for a lock that nobody holds; for any number of tasks and any acts on one lock (of which 150 are played). -/
import Derived.Test.YtagkimnmgalejaaRd
import Derived.Test.YtagkimnmgalejaaMo
import Derived.Test.YtagkimnmgalejaaMp
import Derived.Deep.RegionWith
import Derived.Deep.QuietTactic
import Derived.BigQuiet
import Derived.Deep.CutRange
import Derived.Deep.CutBlock
import Derived.Deep.RegionHeld3
import Derived.ProofKit
import Derived.OpenShut
import Derived.Shelf.Abstract
namespace Go.Proofs.Ytagkimnmgalejaa.schedOrder
open Go.ChangeShapes Go.WideShapes Go.ChangeAt Go.RowKit
open Go.Proofs.Ytagkimnmgalejaa.sc
set_option linter.unusedVariables false

theorem own : ownKnob Try.prog.godebug = none := by kernel_rfl
theorem laid : laidOutB Try.prog = true := by kernel_rfl

set_option maxRecDepth 100000 in
set_option maxHeartbeats 16000000 in
theorem walk (tz : Int) (A : Option Addr) (n c : Nat) (F : Nat → Ac) (w : World) (hz : (Lit.int .i64 tz).wf = true) (hc : n ≤ c ∧ c ≤ maxLen) (hF : Acts w w.heap.size A n F) :
    Calls Try.prog 4 #[.int .i64 tz, .slice A n c] w (AwakeE w) := by
  have HAW := Lib.hid (awake_any w)
  have HFF := Lib.hid hF
  have HC := Lib.hid hc
  clear hz hF hc
  by_cases hr : ¬ (0 ≤ tz ∧ tz ≤ 64)
  · have KN := Lib.hid (fun W => new_nil (w := W) hr)
    unfold StE at KN
    clear hr
    go_enter Try.func4, Try.ntmps4
    go_wp2_with fail
    refine HAW.out.mono ?_
    rintro _ w1 ⟨rfl, hb1⟩
    have HB1 := Lib.hid hb1
    clear hb1 HAW
    go_wp2_with fail
    refine (KN.out _).mono ?_
    rintro _ w2 ⟨rfl, rfl⟩
    go_wp2_with fail
    go_ret
    exact ⟨rfl, HB1.out⟩
  obtain ⟨q, hq, rfl⟩ : ∃ q : Nat, q ≤ 64 ∧ tz = (q : Int) := ⟨tz.toNat, by omega, by omega⟩
  have HQ := Lib.hid hq
  clear hr hq
  go_enter Try.func4, Try.ntmps4
  go_wp2_with fail
  refine HAW.out.mono ?_
  rintro _ w1 ⟨rfl, hb1⟩
  have HB1 := Lib.hid hb1
  have KN := Lib.hid (y_new hb1 q HQ.out)
  clear hb1 HAW
  go_wp2_with fail
  refine KN.out.mono ?_
  rintro _ w2 ⟨P, rfl, h2, hb2⟩
  have H2 := Lib.hid h2.forget
  clear h2 hb2 KN
  go_wp2_with fail
  go_loopg [6] n (fun gk s6 wx => ∃ (k : Nat) (s : Sd), s6 = .int .i64 k ∧ gk + k = n ∧ k ≤ 150 ∧ Hid (SY w wx P No s) ∧ Hid (sc.Good s) ∧ Hid (s.N ≤ k))
  case atStart => exact ⟨0, Sd.new q, rfl, by omega, by omega, H2, Lib.hid (good_new _), Lib.hid (Nat.le_refl _)⟩
  case round =>
    clear H2
    obtain ⟨k, s, rfl, hg, hk150, HS, HGD, HN⟩ := hrel
    by_cases hlt : k < n ∧ k < 150
    · obtain ⟨hkn, hk1⟩ := hlt
      obtain ⟨gb, go, hA, hgb, c0, c1, c2, c3, hwf⟩ := (HFF.out.below HS.out.bel) k hkn
      subst hA
      obtain ⟨x, hx⟩ : ∃ x, F k = x := ⟨_, rfl⟩
      rw [hx] at c0 c1 c2 c3 hwf
      obtain ⟨xk, xt, xn, xw⟩ := x
      dsimp only at c0 c1 c2 c3 hwf
      have HOK := Lib.hid (act0_ok HGD.out ⟨xk, xt, xn, xw⟩)
      have HNN := Lib.hid (show s.N ≤ 150 by have := HN.out; omega)
      obtain ⟨s2, hs2⟩ : ∃ s2, act0 s ⟨xk, xt, xn, xw⟩ = s2 := ⟨_, rfl⟩
      rw [hs2] at HOK
      have HS2 := Lib.hid hs2
      have HWF := Lib.hid hwf
      have hbx := below_alloc wr (.cells #[.int .i64 xk, .int .i64 xt, .int .i64 xn, .bool xw] 27)
      have HBX := Lib.hid hbx
      have KQ := Lib.hid (y_queue (HS.out.below hbx) (l := 0) (by have := HNN.out; omega) (wf_small (by omega) (by omega)))
      have HCX := Lib.hid (show ∀ w3, Below (wr.alloc (.cells #[.int .i64 xk, .int .i64 xt, .int .i64 xn, .bool xw] 27)).heap.size (wr.alloc (.cells #[.int .i64 xk, .int .i64 xt, .int .i64 xn, .bool xw] 27)) w3 → w3.cell? ⟨wr.heap.size, 0, none⟩ = some (.int .i64 xk) ∧ w3.cell? ⟨wr.heap.size, 1, none⟩ = some (.int .i64 xt) ∧ w3.cell? ⟨wr.heap.size, 3, none⟩ = some (.bool xw) from fun w3 hb => by
        have hlt : wr.heap.size < (wr.alloc (.cells #[.int .i64 xk, .int .i64 xt, .int .i64 xn, .bool xw] 27)).heap.size := by simp
        exact ⟨(hb.cell (p := ⟨wr.heap.size, 0, none⟩) hlt).trans (by simp), (hb.cell (p := ⟨wr.heap.size, 1, none⟩) hlt).trans (by simp), (hb.cell (p := ⟨wr.heap.size, 3, none⟩) hlt).trans (by simp)⟩)
      obtain ⟨QA, hQA⟩ : ∃ L, s.queue 0 = L := ⟨_, rfl⟩
      have HQA := Lib.hid hQA
      rw [hQA] at KQ
      clear hx hwf hbx hs2 hQA
      go_wp2_with fail
      refine KQ.out.mono ?_
      rintro _ w3 hE
      obtain ⟨A3, c3', rfl, ho3, hb3⟩ := hE.lift (Below.refl _ _)
      have HR3 := Lib.hid (ir_nat ho3)
      have HAB3 := Lib.hid (own_ab ho3)
      have HB3 := Lib.hid (below_step HBX.out hb3)
      have HCC := Lib.hid (HCX.out w3 hb3)
      have HSZ3 := Lib.hid hb3.size
      have H3 := Lib.hid (HS.out.over HB3.out)
      clear hE ho3 hb3 KQ
      obtain ⟨b0, b1, b3⟩ := HCC.out
      obtain ⟨ql, hql⟩ : ∃ x, QA.length = x := ⟨_, rfl⟩
      have HQL := Lib.hid hql
      rw [hql] at HR3 HAB3
      rw [hql]
      clear hql
      go_upto_region 11 with fail
      go_upto_block 2 with fail
      go_cut [8] from 24 to 132 (fun v8 wx => v8 = .slice A3 ql c3' ∧ Hid (SY w wx P (fun b => No b ∨ (wr.heap.size ≤ b ∧ b < w3.heap.size)) s2 ∧ Same (fun b => No b ∨ (wr.heap.size ≤ b ∧ b < w3.heap.size)) w3 wx))
      case first =>
        by_cases e0 : xk = 0
        · have KL := Lib.hid (y_lock H3.out (t := xt) (l := 0) (by have := HNN.out; omega) (wf_small (by omega) (by omega)) xw)
          have HS3 := Lib.hid (show s2 = (s.lock xt 0 xw).2.2 by rw [← HS2.out]; unfold act0; rw [if_pos e0])
          unfold YL at KL
          generalize s.lock xt 0 xw = r at *
          obtain ⟨r1, r2, r3⟩ := r
          dsimp only at KL HS3
          have q0 : (xk == 0) = true := by simpa using e0
          clear e0
          go_wp2_with fail
          refine KL.out.mono ?_
          rintro _ w4 ⟨rfl, h4, hs4⟩
          have H4 := Lib.hid h4
          have HS4 := Lib.hid hs4
          clear h4 hs4
          go_wp2_with fail
          go_meet
          case rel => exact ⟨rfl, Lib.hid ⟨by rw [HS3.out]; exact H4.out, HS4.out⟩⟩
        · by_cases e1 : xk = 1
          · have KL := Lib.hid (y_unlock H3.out (t := xt) (l := 0) (by have := HNN.out; omega) (wf_small (by omega) (by omega)))
            have HS3 := Lib.hid (show s2 = (s.unlock xt 0).2 by rw [← HS2.out]; unfold act0; rw [if_neg e0, if_pos e1])
            unfold YU at KL
            generalize s.unlock xt 0 = r at *
            obtain ⟨r1, r3⟩ := r
            dsimp only at KL HS3
            have q0 : (xk == 0) = false := by simpa using e0
            have q1 : (xk == 1) = true := by simpa using e1
            clear e0 e1
            go_wp2_with fail
            refine KL.out.mono ?_
            rintro _ w4 ⟨rfl, h4, hs4⟩
            have H4 := Lib.hid h4
            have HS4 := Lib.hid hs4
            clear h4 hs4
            go_wp2_with fail
            go_meet
            case rel => exact ⟨rfl, Lib.hid ⟨by rw [HS3.out]; exact H4.out, HS4.out⟩⟩
          · have HS3 := Lib.hid (show s2 = s by rw [← HS2.out]; unfold act0; rw [if_neg e0, if_neg e1])
            have q0 : (xk == 0) = false := by simpa using e0
            have q1 : (xk == 1) = false := by simpa using e1
            clear e0 e1
            go_wp2_with fail
            go_meet
            case rel => exact ⟨rfl, Lib.hid ⟨by rw [HS3.out]; exact H3.out, fun b hb => rfl⟩⟩
      case rest =>
        obtain ⟨rfl, HCT⟩ := hcut
        have H4 := Lib.hid HCT.out.1
        have HI4 := Lib.hid (HR3.out.keep2 (w' := wc) fun gg e => by
          have h1 := HAB3.out.2 gg e
          have h2 : No gg ∨ (wr.heap.size ≤ gg ∧ gg < w3.heap.size) := .inr ⟨by have := HBX.out.size; omega, h1.2⟩
          exact ⟨HCT.out.1.lt h2, HCT.out.2 gg h2⟩)
        have HN2 := Lib.hid (show s2.N ≤ 160 by have := HOK.out.2.1; have := HNN.out; omega)
        obtain ⟨AL, RL, XL, hord⟩ := HOK.out.2.2
        have HORD := Lib.hid hord
        have HQE := Lib.hid (show QA = AL ++ RL from by rw [← HQA.out]; exact hord.was)
        have HBEL := Lib.hid HCT.out.1.bel
        have KQ5 := Lib.hid (y_queue H4.out (l := 0) (by have := HN2.out; omega) (wf_small (by omega) (by omega)))
        rw [hord.now] at KQ5
        clear hord HCT b0 b1 b3
        go_wp2_with fail
        refine KQ5.out.mono ?_
        rintro _ w5 hE
        obtain ⟨A5, c5, rfl, ho5, hb5⟩ := hE.lift (Below.refl _ _)
        obtain ⟨nn, hnn⟩ : ∃ x, (RL ++ XL).length = x := ⟨_, rfl⟩
        have HNX := Lib.hid hnn
        rw [hnn] at ho5 ⊢
        have HI5 := Lib.hid (ir_nat ho5).io
        have HAB5 := Lib.hid (own_ab ho5).1
        have H5 := Lib.hid (H4.out.below hb5)
        have HW5 := Lib.hid ((HI4.out.io).below hb5)
        have HTA := Lib.hid (show ∀ a ∈ AL, (a : Int) ∈ srt (tasksN (s2.heldL 0)) from fun a ha => srt_mem (HORD.out.held a ha))
        have HOUT := Lib.hid (show ∀ a ∈ AL, a ∉ RL ++ XL from fun a ha => by rw [← HORD.out.now]; exact HORD.out.out a ha)
        have HSOME := Lib.hid (show nn ≠ 0 → (srt (tasksN (s2.heldL 0))).length ≠ 0 from fun h => by
          have h1 := HORD.out.some_ (by rw [HORD.out.now]; intro e; rw [e] at hnn; exact h hnn.symm)
          rw [srt_len]
          intro e
          have h2 : (s2.heldL 0).length = 0 := by simpa [tasksN] using e
          exact h1 (List.eq_nil_of_length_eq_zero h2))
        have HNB2 := Lib.hid (show nn ≤ 200 from by
          have h1 := H5.out.few 0
          have h2 := HN2.out
          have h3 : (s2.queue 0).length ≤ (s2.cl 0).length := by unfold Sd.queue; rw [List.length_map]; exact List.length_filter_le _ _
          rw [HORD.out.now, hnn] at h3
          omega)
        have HTL := Lib.hid (show (srt (tasksN (s2.heldL 0))).length ≤ 200 by
          have h1 := H5.out.few 0
          have h2 := HN2.out
          have h3 : (s2.heldL 0).length ≤ (s2.cl 0).length := by unfold Sd.heldL; exact List.length_filter_le _ _
          rw [srt_len]
          simp only [tasksN, List.length_map]
          omega)
        have KH := Lib.hid (fun W (h : SY w W P (fun b => No b ∨ (wr.heap.size ≤ b ∧ b < w3.heap.size)) s2) => y_holders h (l := 0) (by have := HN2.out; omega) (wf_small (by omega) (by omega)))
        obtain ⟨T, hT⟩ : ∃ T, srt (tasksN (s2.heldL 0)) = T := ⟨_, rfl⟩
        obtain ⟨bh, hbh⟩ : ∃ b, headW (s2.heldL 0) = b := ⟨_, rfl⟩
        rw [hT] at HTA HTL KH HSOME
        rw [hbh] at KH
        rw [HQE.out] at HW5
        have HQLE := Lib.hid (show ql = AL.length + RL.length by rw [← HQL.out, HQE.out, List.length_append])
        have HQC := Lib.hid HAB3.out.1
        clear hE ho5 hb5 hnn KQ5 hT hbh
        obtain ⟨gK, rfl⟩ : ∃ g, g = gk := ⟨_, rfl⟩
        obtain ⟨tl, htl⟩ : ∃ x, T.length = x := ⟨_, rfl⟩
        have HTT := Lib.hid htl
        rw [htl] at HTL HSOME
        have HGK := Lib.hid (And.intro hg (And.intro hkn hk1))
        clear hg hkn hk1 hk150 htl
        go_wp2_with fail
        go_loopg [8] AL.length (fun gj u8 wx => ∃ (BL : List Nat) (m : Nat) (Aw : Option Addr) (cw : Nat), gj = BL.length ∧ u8 = .slice Aw m cw ∧ m ≤ cw ∧ Hid (m = BL.length + RL.length) ∧ Hid (IO wx Aw m (nat (BL ++ RL))) ∧ Hid (∀ b ∈ BL, b ∈ AL) ∧ Hid (Below w5.heap.size w5 wx))
        case atStart => exact ⟨AL, ql, A3, c3', rfl, rfl, HQC.out, HQLE, HW5, Lib.hid (fun b h => h), Lib.hid (Below.refl _ _)⟩
        case round =>
          clear HW5 HQLE HQC
          obtain ⟨BL, m, Aw, cw, hgj, rfl, hmc, HM, HW, HBL, HBB⟩ := hrel
          have HGJ := Lib.hid hgj
          have HI := Lib.hid (HI5.out.below HBB.out)
          have HHS := Lib.hid (H5.out.below HBB.out)
          clear hgj
          cases BL with
          | cons b BL =>
            have hm := HM.out
            rw [List.length_cons] at hm
            obtain ⟨m', rfl⟩ : ∃ m', m = m' + 1 := ⟨m - 1, by omega⟩
            have HM' := Lib.hid (show m' = BL.length + RL.length by omega)
            have hW2 := HW.out
            rw [List.cons_append, nat_cons] at hW2
            obtain ⟨g0, o0, rfl, hgl, x0⟩ := hW2.head
            have HW2 := Lib.hid hW2
            have HBM := Lib.hid (HBL.out b (by simp))
            obtain ⟨ad', cw', hcut, had⟩ := run_tail34 g0 o0 m' cw hmc
            have HAD := Lib.hid had
            have HNB := Lib.hid (show nn ≠ 0 → ∃ (n0 : Int) (g5 : Nat) (o5 : Nat), A5 = some ⟨g5, o5, none⟩ ∧ wr.cell? ⟨g5, o5, none⟩ = some (.int .i64 n0) ∧ ((b : Int) != n0) = true from fun hz => by
              obtain ⟨g5, o5, e5, h5⟩ := HI.out.ad (by omega)
              have h6 := h5 0 (by omega)
              refine ⟨(nat (RL ++ XL)).getD 0 0, g5, o5, e5, h6, ?_⟩
              rw [bne_iff_ne]
              intro e
              have hlen : 0 < (RL ++ XL).length := by rw [HNX.out]; omega
              have h7 : (nat (RL ++ XL)).getD 0 0 = (((RL ++ XL)[0] : Nat) : Int) := nat_at hlen
              rw [h7] at e
              have h8 : b = (RL ++ XL)[0] := by omega
              exact HOUT.out b HBM.out (h8 ▸ List.getElem_mem hlen))
            clear hm hW2 hgl had
            obtain ⟨gJ, hgJ⟩ : ∃ g, g = gk := ⟨_, rfl⟩
            have HGJ2 := Lib.hid (show gJ = BL.length + 1 by rw [hgJ]; exact HGJ.out)
            obtain ⟨wJ, rfl⟩ : ∃ x, x = wr := ⟨_, rfl⟩
            go_upto_region 17 with fail
            go_cut [74] (fun v wx => v = .bool true ∧ ∃ nq, wJ.drewN nq = wx)
            case first =>
              by_cases hz : nn = 0
              · subst hz
                go_quiet (fail)
                go_wp2_with fail
                go_meet
                case rel => exact ⟨rfl, _, rfl⟩
              · obtain ⟨n0, g5, o5, rfl, x5, hne⟩ := HNB.out hz
                have hz2 : ((nn : Int) == 0) = false := beq_eq_false_iff_ne.2 (by omega)
                have hnn0 : 0 < nn := by omega
                clear hz
                go_quiet (fail)
                go_wp2_with fail
                go_meet
                case rel => exact ⟨rfl, _, rfl⟩
            case rest =>
              obtain ⟨rfl, nq, rfl⟩ := hcut
              have HBc := Lib.hid (below_drewN (Below.refl wJ.heap.size wJ) nq)
              have KHc := Lib.hid (KH.out _ (HHS.out.below HBc.out))
              go_wp2_with fail
              refine KHc.out.mono ?_
              rintro _ w7 ⟨v7, rfl, ho7, hb7⟩
              obtain ⟨A7, c7, rfl⟩ := own_slice ho7
              rw [HTT.out] at ho7 ⊢
              have HI7 := Lib.hid (ir_ints ho7)
              have HB7 := Lib.hid (HBc.out.trans hb7)
              have x7 := (hb7.cell (p := ⟨g0, o0, none⟩) (by have := World.block_lt_of_cell? wJ _ x0; exact this)).trans (show (wJ.drewN nq).cell? ⟨g0, o0, none⟩ = _ from x0)
              clear ho7 hb7 KHc x0
              go_wp2_with fail
              go_loopg [12, 82] tl (fun gi u12 u82 wx => ∃ (j : Nat) (bb : Bool), gi + j = tl ∧ u82 = .int .i64 j ∧ u12 = .bool bb ∧ Hid (Seen bb (b : Int) T j) ∧ wx = w7)
              case atStart => exact ⟨0, false, by omega, rfl, rfl, Lib.hid (by unfold Seen; simp), rfl⟩
              case round =>
                obtain ⟨j, bb, hj, rfl, rfl, HBI, rfl⟩ := hrel
                have htl200 : tl ≤ 200 := HTL.out
                by_cases hjl : j < tl
                · obtain ⟨g7, rfl, _, y7⟩ := HI7.out.2 j hjl
                  have HST := Lib.hid (mem_take_succ (T := T) (k := j) (a := (b : Int)) (by rw [HTT.out]; exact hjl))
                  generalize T.getD j 0 = t at *
                  cases bb with
                  | true =>
                    have HB2 := Lib.hid (show Seen true (b : Int) T (j + 1) from by unfold Seen; rw [HST.out]; exact ⟨fun _ => .inl (HBI.out.1 rfl), fun _ => rfl⟩)
                    go_wp2_with fail
                    go_roundg (gk - 1)
                    case measure => omega
                    case rel => exact ⟨j + 1, true, by omega, by go_num, rfl, HB2, rfl⟩
                  | false =>
                    by_cases et : t = (b : Int)
                    · have HB2 := Lib.hid (show Seen true (b : Int) T (j + 1) from by unfold Seen; rw [HST.out]; exact ⟨fun _ => .inr et, fun _ => rfl⟩)
                      have ht1 : (t == (b : Int)) = true := by simpa using et
                      clear et
                      go_wp2_with fail
                      go_roundg (gk - 1)
                      case measure => omega
                      case rel => exact ⟨j + 1, true, by omega, by go_num, by first | rfl | simp, HB2, rfl⟩
                    · have HB2 := Lib.hid (show Seen false (b : Int) T (j + 1) from by unfold Seen; rw [HST.out]; exact ⟨fun h => (nomatch h), fun h => h.elim (fun h1 => HBI.out.2 h1) (fun h1 => absurd h1 et)⟩)
                      have ht1 : (t == (b : Int)) = false := by simpa using et
                      clear et
                      go_wp2_with fail
                      go_roundg (gk - 1)
                      case measure => omega
                      case rel => exact ⟨j + 1, false, by omega, by go_num, by first | rfl | simp, HB2, rfl⟩
                · have hbb : bb = true := HBI.out.2 (by rw [List.take_of_length_le (by rw [HTT.out]; omega)]; exact HTA.out b HBM.out)
                  subst hbb
                  have HWT := Lib.hid ((HW2.out.below HB7.out).tail HAD.out.1)
                  go_wp2_with fail
                  go_roundg (gJ - 1)
                  case measure => have := HGJ2.out; omega
                  case rel => exact ⟨BL, m', some ad', cw', by have := HGJ2.out; omega, rfl, HAD.out.2, HM', HWT, Lib.hid (fun b hb => HBL.out b (by simp [hb])), Lib.hid (below_step HBB.out HB7.out)⟩
          | nil =>
            rw [List.nil_append] at HW
            have hm : m = RL.length := by have := HM.out; simpa using this
            have HMR := Lib.hid hm
            obtain ⟨wJ, rfl⟩ : ∃ x, x = wr := ⟨_, rfl⟩
            have HHD := Lib.hid (show m ≠ 0 → ∃ (n0 : Int) (g5 o5 g6 o6 : Nat), A5 = some ⟨g5, o5, none⟩ ∧ Aw = some ⟨g6, o6, none⟩ ∧ wJ.cell? ⟨g5, o5, none⟩ = some (.int .i64 n0) ∧ wJ.cell? ⟨g6, o6, none⟩ = some (.int .i64 n0) ∧ nn ≠ 0 from fun hz => by
              have hnn : nn ≠ 0 := by
                have := HNX.out
                rw [List.length_append] at this
                omega
              obtain ⟨g5, o5, e5, h5⟩ := HI.out.ad (by omega)
              obtain ⟨g6, o6, e6, h6⟩ := HW.out.ad (by omega)
              refine ⟨(nat RL).getD 0 0, g5, o5, g6, o6, e5, e6, ?_, h6 0 (by omega), hnn⟩
              have := h5 0 (by omega)
              rw [nat_app] at this
              rw [show (nat RL ++ nat XL).getD 0 0 = (nat RL).getD 0 0 from by
                have : 0 < (nat RL).length := by rw [nat_len]; omega
                simp [List.getD, List.getElem?_append_left this]] at this
              exact this)
            clear hm
            go_upto_region 17 with fail
            go_cut [74] (fun v wx => v = .bool false ∧ ∃ nq, wJ.drewN nq = wx)
            case first =>
              by_cases hz : m = 0
              · subst hz
                go_quiet (fail)
                go_wp2_with fail
                go_meet
                case rel => exact ⟨rfl, _, rfl⟩
              · obtain ⟨n0, g5, o5, g6, o6, rfl, rfl, x5, x6, hnn⟩ := HHD.out hz
                have hz2 : ((nn : Int) == 0) = false := beq_eq_false_iff_ne.2 (by omega)
                have hnn0 : 0 < nn := by omega
                have hm0 : 0 < m := by omega
                have hne : (n0 != n0) = false := by simp
                clear hz hnn
                go_quiet (fail)
                go_wp2_with fail
                go_meet
                case rel => exact ⟨rfl, _, rfl⟩
            case rest =>
              obtain ⟨rfl, nq, rfl⟩ := hcut
              have HBc := Lib.hid (below_drewN (Below.refl wJ.heap.size wJ) nq)
              have HIc := Lib.hid (HI.out.below HBc.out)
              have HWc := Lib.hid (HW.out.below HBc.out)
              have HHc := Lib.hid (HHS.out.below HBc.out)
              have hmn : m ≤ nn := by
                have h1 := HNX.out
                have h2 := HMR.out
                rw [List.length_append] at h1
                omega
              generalize wJ.drewN nq = wc at *
              go_wp2_with fail
              go_loopg [101] m (fun gi u101 wx => ∃ (j : Nat), gi + j = m ∧ u101 = .int .i64 j ∧ ∃ nq, wc.drewN nq = wx)
              case atStart => exact ⟨0, by omega, rfl, 0, rfl⟩
              case round =>
                obtain ⟨j, hj, rfl, nq2, rfl⟩ := hrel
                have hnn200 : nn ≤ 200 := HNB2.out
                by_cases hjl : j < m
                · obtain ⟨g5, o5, rfl, h5⟩ := HIc.out.ad (by omega)
                  obtain ⟨g6, o6, rfl, h6⟩ := HWc.out.ad (by omega)
                  have y5 := h5 j (by omega)
                  have y6 := h6 j hjl
                  rw [nat_app, show (nat RL ++ nat XL).getD j 0 = (nat RL).getD j 0 from by
                    have : j < (nat RL).length := by rw [nat_len]; have := HMR.out; omega
                    simp [List.getD, List.getElem?_append_left this]] at y5
                  generalize (nat RL).getD j 0 = v at *
                  have hne : (v != v) = false := by simp
                  have hjn : j < nn := by omega
                  have hjn2 : ¬ ((nn : Int) ≤ (j : Int)) := by omega
                  clear h5 h6
                  go_wp2_with fail
                  go_quiet (fail)
                  go_wp2_with fail
                  go_roundg (gk - 1)
                  case measure => omega
                  case rel => exact ⟨j + 1, by omega, by go_num, _, rfl⟩
                · have HHd := Lib.hid (HHc.out.below (below_drewN (Below.refl wc.heap.size wc) nq2))
                  have KHd := Lib.hid (KH.out _ HHd.out)
                  generalize wc.drewN nq2 = wd at *
                  go_wp2_with fail
                  refine KHd.out.mono ?_
                  rintro _ w7 ⟨v7, rfl, ho7, hb7⟩
                  obtain ⟨A7, c7, rfl⟩ := own_slice ho7
                  rw [HTT.out]
                  have H7 := Lib.hid ((HHd.out.below hb7).forget)
                  clear ho7 hb7 KHd
                  by_cases hz : nn = 0
                  · subst hz
                    go_wp2_with fail
                    go_roundg (gK - 1)
                    case measure => have := HGK.out.1; have := HGK.out.2.1; omega
                    case rel => exact ⟨k + 1, s2, by go_num, by have := HGK.out.1; have := HGK.out.2.1; omega, by have := HGK.out.2.2; omega, H7, Lib.hid HOK.out.1, Lib.hid (by have := HOK.out.2.1; have := HN.out; omega)⟩
                  · have hnn0 : 0 < nn := by omega
                    have htl : ((tl : Int) == 0) = false := beq_eq_false_iff_ne.2 (by have := HSOME.out hz; omega)
                    clear hz
                    go_wp2_with fail
                    go_roundg (gK - 1)
                    case measure => have := HGK.out.1; have := HGK.out.2.1; omega
                    case rel => exact ⟨k + 1, s2, by go_num, by have := HGK.out.1; have := HGK.out.2.1; omega, by have := HGK.out.2.2; omega, H7, Lib.hid HOK.out.1, Lib.hid (by have := HOK.out.2.1; have := HN.out; omega)⟩
    · by_cases hkn : k < n
      · have hk2 : ¬ (k : Int) < 150 := by omega
        clear hlt
        go_wp2_with fail
        go_ret
        exact ⟨rfl, HS.out.bel⟩
      · clear hlt
        go_wp2_with fail
        go_ret
        exact ⟨rfl, HS.out.bel⟩

set_option maxRecDepth 100000 in
theorem lifted (os : Os) (started : os.Started) (H : Type) (enc : TypeId × Value → H) :
    ReturnsInHanded {} Try.checked os 4 .any (Rows.schedOrderSpec.pre6 enc Try.prog Try.f4 Rows.schedOrderRow.domain false) (Rows.schedOrderSpec.post enc Try.prog Try.f4 false true false false) := by
  refine returnsInHanded_of_change (C := Try.checked) own started (by kernel_rfl) Try.func4
    (ChangeSpec.witness6 (enc := enc) (C := Try.checked) false ⟨#[], #[.int .i64 0, .slice none 0 0], []⟩ 8 (by kernel_rfl) (by kernel_rfl) (by kernel_rfl) (by kernel_rfl)) ?_
  intro W base args ds gs before hval0 hW hcnd _
  have hval : ∀ (j : Nat) t v, Try.f4.params[j]? = some t → args[j]? = some v → Value.okWide Try.prog W .any base t v := hval0
  have hW' := hW
  obtain ⟨p, q, hA0, hV, rfl, hfz, hnd⟩ := hW
  have hA : DataW.TrodAll enc Try.prog W 0 (fun _ => true) true Try.f4.params.toList args.toList ds p := hA0
  rw [Try.params4] at hA hval
  obtain ⟨v0, vs0, d0, ds0, p0, q0, hargs, rfl, rfl, h0, r0⟩ := trodAll_cons hA
  obtain ⟨v1, vs1, d1, ds1, p1, q1, rfl, rfl, rfl, h1, r1⟩ := trodAll_cons r0
  obtain ⟨rfl, rfl, rfl⟩ := trodAll_nil r1
  obtain rfl : args = #[v0, v1] := by cases args; simp_all
  obtain ⟨rfl, rfl⟩ := trodVars_none hV
  have hlt := fun x hx => hW'.lt x hx
  obtain ⟨a0, rfl, rfl, rfl, w0⟩ := open_int Try.underlying3 (hval 0 3 v0 rfl rfl) h0
  have t1 := h1
  obtain ⟨A1, n1, c1, x1, rfl, e1, s1⟩ := open_acts (hval 1 22 v1 rfl rfl) h1
  clear hA0 hval0
  refine (walk a0 A1 n1 c1 x1 W w0 e1 s1).mono fun e W' ⟨he, hg⟩ => ?_
  subst he
  exact ⟨_, rfl, law_post (pv := []) hW' (fun _ _ _ => (trodAll_cons_mk (shut_bool Try.underlying4 _) trodAll_mk0)) (fun sp hsp => (trodAll_cons_mk (shut_int Try.underlying3 w0) (trodAll_cons_mk (arg_stays (by decide) t1 hg (by simp +contextual) hlt hsp laid) trodAll_mk0))) (fun _ _ => rfl) (by simp)
    hg (ok_one (by kernel_rfl) rfl (okWide_bool_mk Try.underlying4 _))⟩

theorem over : Rows.schedOrderRow.holds Try.pinned (OpenSpec.ofChange Rows.schedOrderSpec) :=
  OpenClaim.holds_of_wide 4 Try.f4 rfl rfl rfl rfl rfl rfl rfl ⟨rfl, rfl, rfl, rfl, rfl⟩ rfl rfl rfl rfl rfl (by kernel_rfl) Try.func4 (by kernel_rfl)
    (of_decide_eq_true (by kernel_rfl)) (by unfold Func.isWrapper; first | (rw [if_pos (by decide +kernel)]; kernel_rfl) | (rw [if_neg (by decide +kernel)]; exact ⟨rfl, rfl⟩))
    (fun os started H enc _ => lifted os started H enc)

/-- The statement. -/
theorem proved : Rows.SchedOrderSaid :=
  over
end Go.Proofs.Ytagkimnmgalejaa.schedOrder
