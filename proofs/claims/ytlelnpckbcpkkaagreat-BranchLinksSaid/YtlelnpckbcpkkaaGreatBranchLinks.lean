/- For every room and every list of acts the law BranchLinks returns true, and what is handed in reads as it did; there are no conditions. -/
import Derived.Test.YtlelnpckbcpkkaaGreatZm
import Derived.Test.YtlelnpckbcpkkaaGreatZn
import Derived.Test.YtlelnpckbcpkkaaGreatZt
import Derived.Test.YtlelnpckbcpkkaaGreatLk
import Derived.Deep.RegionWith
import Derived.Deep.QuietTactic
import Derived.BigQuiet
import Derived.ProofKit
import Derived.OpenShut
import Derived.ShutString
namespace Go.Proofs.YtlelnpckbcpkkaaGreat.branchLinks
open Go.ChangeShapes Go.WideShapes Go.ChangeAt Go.RowKit
open Go.ChangeMaps (open_string shut_string)
open Go.Proofs.YtlelnpckbcpkkaaGreat.cb
set_option linter.unusedVariables false

theorem own : ownKnob Tryz.prog.godebug = none := by kernel_rfl
theorem laid : laidOutB Tryz.prog = true := by kernel_rfl

open Go.Proofs.YtlelnpckbcpkkaaGreat.br
open Go.Proofs.YtlelnpckbcpkkaaGreat.bl (Pq Only)
open Go.Proofs.YtlelnpckbcpkkaaGreat.dn (lget lset nerr dotB En)

set_option maxHeartbeats 1000000 in
set_option maxRecDepth 100000 in
theorem walk (r : Int) (A : Option Addr) (n c : Nat) (F : Nat → Act7) (w : World) (k1 : n ≤ c ∧ c ≤ maxLen) (hF : Acts w w.heap.size A n F) :
    Calls Tryz.prog 4 #[.int .i64 r, .slice A n c] w (AwakeE w) := by
  have hnm : n ≤ maxLen := Nat.le_trans k1.1 k1.2
  have HAW := Lib.hid (awake_any w)
  have HPL := Lib.hid (fun w1 P room (S : BS) (hb : BrX w w1 P No S room 0) => play_any A n c F w w1 P room hnm hF hb)
  clear k1 hF hnm 
  by_cases hr : r < 0 ∨ 65536 < r
  · have HN := Lib.hid (fun w1 => new_no r w1 hr)
    clear HPL hr
    go_enter Tryz.func4, Tryz.ntmps4
    go_wp2_with fail
    refine HAW.out.mono ?_
    rintro e w1 ⟨rfl, hb1⟩
    go_wp2_with fail
    refine (HN.out _).mono ?_
    rintro e w2 ⟨rfl, rfl⟩
    go_wp2_with fail
    go_ret
    exact ⟨rfl, hb1⟩
  · obtain ⟨room, rfl⟩ : ∃ room : Nat, r = (room : Int) := ⟨r.toNat, by omega⟩
    have HN := Lib.hid (fun w1 (hb : Below w.heap.size w w1) => x_new (w0 := w) (w := w1) room (by omega) hb)
    clear hr
    go_enter Tryz.func4, Tryz.ntmps4
    go_wp2_with fail
    refine HAW.out.mono ?_
    rintro e w1 ⟨rfl, hb1⟩
    have HN2 := Lib.hid (HN.out w1 hb1)
    clear HN hb1 HAW
    go_wp2_with fail
    refine HN2.out.mono ?_
    rintro e w2 ⟨P, rfl, h2, -, -⟩
    have HP2 := Lib.hid (HPL.out w2 P room fresh h2.forget)
    clear h2 HN2 HPL
    go_wp2_with fail
    refine HP2.out.mono ?_
    rintro e w3 ⟨b, S, rfl, h3⟩
    have H3 := Lib.hid h3
    clear h3 HP2
    cases b
    · go_wp2_with fail
      go_ret
      exact ⟨rfl, H3.out.bel⟩
    · have hmm := @run_makeMap Tryz.prog 54 w3
      have hM0 := MapI.made w3
      have hbm := dn.below_alloc w3 (.map #[] 0)
      have hzm : (w3.alloc (.map #[] 0)).heap.size = w3.heap.size + 1 := World.size_alloc _ _
      obtain ⟨w4, hrun4, hM4, hg4⟩ := hM0.put (by omega) (a := 1) (b := 1) (wf_small (by decide) (by decide)) (wf_small (by decide) (by decide))
      rw [start_f S] at hM4
      have hw3 : w.heap.size ≤ w3.heap.size := H3.out.bel.size
      have h4 := (H3.out.beside (Y := fun b => b = w3.heap.size) hbm (fun b hb => .inr (by rw [hzm]; omega))).only (only_grown hg4) (fun b hb => hb) (fun b hb => by subst hb; exact hw3)
      have H4 := Lib.hid h4
      have HM4 := Lib.hid (show ∃ q, q ≤ 1 + 4000 * 0 ∧ MapI w4 w3.heap.size q (nmF S 0 []) from ⟨_, by omega, hM4⟩)
      have HG := Lib.hid H3.out.good
      clear hM0 hbm hzm hM4 hg4 h4 H3
      have hM3 : w.heap.size ≤ w3.heap.size := hw3
      generalize hMM : w3.heap.size = M at *
      go_wp2_with fail
      clear hMM hrun4 hmm
      go_loopg [7, 8] 200 (fun g s7 s8 wr => ∃ k : Nat, g + k = 200 ∧ s7 = .int .i64 ((S.count k : Nat) : Int) ∧ s8 = .int .i64 ((k : Int) + 1) ∧ Hid (BrX w wr P (fun b => b = M) S room 80) ∧ Hid (∃ q, q ≤ 1 + 4000 * k ∧ MapI wr M q (nmF S k [])))
      case atStart => exact ⟨0, by omega, rfl, rfl, H4, HM4⟩
      case round =>
        clear H4 HM4
        obtain ⟨k, hgk, rfl, rfl, HR, HM⟩ := hrel
        have hck := count_le S k
        by_cases hk : k < 200
        · have e1 : ((k : Int) + 1) = ((k + 1 : Nat) : Int) := by omega
          have HK := Lib.hid (x_kind HR.out ((k : Int) + 1))
          unfold RetI at HK
          rw [show S.kindOf ((k : Int) + 1) = (S.ino (k + 1)).kind from by rw [e1]; exact kind_of (by omega) (by omega)] at HK
          have hcn := count_next S k
          have hnd := HG.out.1.noDir (k + 1)
          have HNN := Lib.hid (nmF_none S k)
          by_cases hz : (S.ino (k + 1)).kind = 0
          · rw [hz] at HK
            rw [if_neg (by rw [hz]; decide)] at hcn
            have HMN := Lib.hid (show ∃ q, q ≤ 1 + 4000 * (k + 1) ∧ MapI wr M q (nmF S (k + 1) []) from by
              obtain ⟨q, h1, h2⟩ := HM.out
              rw [HNN.out (hnd (by rw [hz]; decide))] at h2
              exact ⟨q, by omega, h2⟩)
            clear hnd HNN hz HM e1
            go_wp2_with fail
            refine HK.out.mono ?_
            rintro _ w5 ⟨rfl, hb5⟩
            have H5 := Lib.hid (HR.out.below hb5)
            have HM5 := Lib.hid (show ∃ q, q ≤ 1 + 4000 * (k + 1) ∧ MapI w5 M q (nmF S (k + 1) []) from by
              obtain ⟨q, h1, h2⟩ := HMN.out
              exact ⟨q, h1, h2.below hb5⟩)
            clear hb5 HK HR HMN
            go_wp2_with fail
            go_roundg (gk - 1)
            case measure => omega
            case rel => exact ⟨k + 1, by omega, by rw [hcn]; rfl, by go_num, H5, HM5⟩
          · rw [if_pos hz] at hcn
            have HCN := Lib.hid hcn
            have HA := Lib.hid (fun w5 (h : BrX w w5 P (fun b => b = M) S room 80) => x_all h ((k : Int) + 1))
            by_cases hk2 : (S.ino (k + 1)).kind = 2
            · rw [show S.all ((k : Int) + 1) = ((S.ino (k + 1)).dir, 0) from by rw [e1]; exact all_dir (by omega) (by omega) hk2] at HA
              dsimp only at HA
              rw [hk2] at HK
              have HEN := Lib.hid (fun x hx => entry_ok (D := k + 1) (x := x) HG.out hx)
              have hdl := HG.out.1.dirLen (k + 1)
              have HNB := Lib.hid (fun a => names_bound HG.out.1 a k)
              have HNX := Lib.hid (nmF_next S k)
              have HST := Lib.hid (fun j x hx => nmF_step S k (L := (S.ino (k + 1)).dir) (j := j) (x := x) hx)
              have HNL := Lib.hid (fun a j => Nat.le_trans (names_len a ((S.ino (k + 1)).dir.take j)) (List.length_take_le j _))
              generalize (S.ino (k + 1)).dir = L at *
              generalize S.count k = ck at *
              obtain ⟨nk, hnk⟩ : ∃ nk, nk = L.length := ⟨_, rfl⟩
              rw [← hnk] at hdl HA
              clear hnd HNN hz hk2 e1
              go_wp2_with fail
              refine HK.out.mono ?_
              rintro _ w5 ⟨rfl, hb5⟩
              have H5 := Lib.hid (HR.out.below hb5)
              have HA5 := Lib.hid (HA.out _ H5.out)
              have HM5 := Lib.hid (show ∃ q, q ≤ 1 + 4000 * k ∧ MapI w5 M q (nmF S k []) from by
                obtain ⟨q, h1, h2⟩ := HM.out
                exact ⟨q, h1, h2.below hb5⟩)
              clear hb5 HK HR HM HA
              go_wp2_with fail
              refine HA5.out.mono ?_
              rintro _ w6 ⟨o, c6, rfl, hl1, hl2, hsl, hb6⟩
              have HM5lt : M < w5.heap.size := by obtain ⟨q, _, h2⟩ := HM5.out; exact h2.lt
              have HRC := Lib.hid (RowC.of hsl HM5lt)
              have H6 := Lib.hid (H5.out.below hb6)
              have HM6 := Lib.hid (show ∃ q, q ≤ 1 + 4000 * k + 0 ∧ MapI w6 M q (nmF S k (L.take 0)) from by
                obtain ⟨q, h1, h2⟩ := HM5.out
                exact ⟨q, by omega, h2.below hb6⟩)
              generalize dn.Ao o = Ad at *
              clear hb6 HA5 H5 HM5 hsl HM5lt
              go_wp2_with fail
              obtain ⟨gq, hgq⟩ : ∃ gq, gq = gk := ⟨_, rfl⟩
              go_loopg [51] nk (fun g s51 wr => ∃ j : Nat, g + j = nk ∧ s51 = .int .i64 (j : Int) ∧ Hid (BrX w wr P (fun b => b = M) S room 80) ∧ Hid (∃ q, q ≤ 1 + 4000 * k + j ∧ MapI wr M q (nmF S k (L.take j))) ∧ Hid (RowC wr Ad M L))
              case atStart => exact ⟨0, by omega, rfl, H6, HM6, HRC⟩
              case round =>
                clear H6 HM6 HRC
                obtain ⟨j, hgj, rfl, HJ, HMJ, HRJ⟩ := hrel
                by_cases hj : j < nk
                · obtain ⟨x, hx⟩ : ∃ x, L[j]? = some x := ⟨_, List.getElem?_eq_getElem (show j < L.length by omega)⟩
                  obtain ⟨g0, rfl, hgM, hgl, -, x2⟩ := HRJ.out j x hx
                  obtain ⟨I, hxI, i1, i2, i3, i4⟩ := HEN.out x (List.mem_of_getElem? hx)
                  rw [hxI] at x2
                  obtain ⟨q, hq, hm⟩ := HMJ.out
                  have hfb : 0 ≤ nmF S k (L.take j) (I : Int) ∧ nmF S k (L.take j) (I : Int) ≤ 900000 := by
                    have h1 := HNB.out (I : Int)
                    have h2 := HNL.out (I : Int) j
                    unfold nmF
                    split <;> omega
                  have hlk := hm.look (a := (I : Int)) (wf_small (by omega) (by omega))
                  obtain ⟨w7, hup, hm7, hg7⟩ := hm.put (by omega) (a := (I : Int)) (b := nmF S k (L.take j) (I : Int) + 1) (wf_small (by omega) (by omega)) (wf_small (by omega) (by omega))
                  have hst := HST.out j x hx
                  rw [hxI] at hst
                  rw [hst] at hm7
                  generalize nmF S k (L.take j) (I : Int) = fv at *
                  have HM7 := Lib.hid (show ∃ q, q ≤ 1 + 4000 * k + (j + 1) ∧ MapI w7 M q (nmF S k (L.take (j + 1))) from ⟨q + 1, by omega, hm7⟩)
                  have H7 := Lib.hid (HJ.out.only (only_grown hg7) (fun b hb => hb) (fun b hb => by subst hb; exact hM3))
                  have HRC7 := Lib.hid (HRJ.out.only (only_grown hg7))
                  have x27 : w7.cell? ⟨g0, j * 2 + 1, none⟩ = some (.int .i64 (I : Int)) := by
                    obtain ⟨g1, e, _, _, _, h⟩ := HRC7.out j x hx
                    obtain rfl : g0 = g1 := by injection e with e; injection e
                    rw [hxI] at h; exact h
                  have hgl7 : g0 < w7.heap.size := World.block_lt_of_cell? _ _ x27
                  have HK7 := Lib.hid (x_kind H7.out (I : Int))
                  unfold RetI at HK7
                  rw [kind_of i1 i2] at HK7
                  have hji : (j : Int) < (nk : Int) := by omega
                  clear hst hm7 hg7 hm HMJ HJ HRJ hxI hx
                  by_cases hI2 : (S.ino I).kind = 2
                  · rw [hI2] at HK7
                    have HP7 := Lib.hid (fun w8 (h : BrX w w8 P (fun b => b = M) S room 80) => x_parent h (I : Int))
                    unfold RetI at HP7
                    rw [parent_of i1 i2 i3, i4 hI2, show ((k + 1 : Nat) : Int) = (k : Int) + 1 by omega] at HP7
                    clear i4 hI2 i3
                    go_wp2_with fail
                    refine HK7.out.mono ?_
                    rintro _ w8 ⟨rfl, hb8⟩
                    have H8 := Lib.hid (H7.out.below hb8)
                    have x28 := (hb8.cell (p := ⟨g0, j * 2 + 1, none⟩) hgl7).trans x27
                    have HRC8 := Lib.hid (HRC7.out.below hb8)
                    have HM8 := Lib.hid (show ∃ q, q ≤ 1 + 4000 * k + (j + 1) ∧ MapI w8 M q (nmF S k (L.take (j + 1))) from by
                      obtain ⟨q, h1, h2⟩ := HM7.out
                      exact ⟨q, h1, h2.below hb8⟩)
                    have HP8 := Lib.hid (HP7.out _ H8.out)
                    clear hb8 HK7 H7 HRC7 HM7 HP7 x27 x2 hlk hup hgl hgl7
                    go_wp2_with fail
                    refine HP8.out.mono ?_
                    rintro _ w9 ⟨rfl, hb9⟩
                    have H9 := Lib.hid (H8.out.below hb9)
                    have HRC9 := Lib.hid (HRC8.out.below hb9)
                    have HM9 := Lib.hid (show ∃ q, q ≤ 1 + 4000 * k + (j + 1) ∧ MapI w9 M q (nmF S k (L.take (j + 1))) from by
                      obtain ⟨q, h1, h2⟩ := HM8.out
                      exact ⟨q, h1, h2.below hb9⟩)
                    clear hb9 HP8 H8 HRC8 HM8 x28
                    go_wp2_with fail
                    go_roundg (gk - 1)
                    case measure => omega
                    case rel => exact ⟨j + 1, by omega, by go_num, H9, HM9, HRC9⟩
                  · generalize (S.ino I).kind = kk at *
                    have qk : (kk == 2) = false := by simpa using hI2
                    clear i4 hI2 i3
                    go_wp2_with fail
                    refine HK7.out.mono ?_
                    rintro _ w8 ⟨rfl, hb8⟩
                    have H8 := Lib.hid (H7.out.below hb8)
                    have HRC8 := Lib.hid (HRC7.out.below hb8)
                    have HM8 := Lib.hid (show ∃ q, q ≤ 1 + 4000 * k + (j + 1) ∧ MapI w8 M q (nmF S k (L.take (j + 1))) from by
                      obtain ⟨q, h1, h2⟩ := HM7.out
                      exact ⟨q, h1, h2.below hb8⟩)
                    clear hb8 HK7 H7 HRC7 HM7 x27 x2 hlk hup hgl hgl7
                    go_wp2_with fail
                    go_roundg (gk - 1)
                    case measure => omega
                    case rel => exact ⟨j + 1, by omega, by go_num, H8, HM8, HRC8⟩
                · obtain rfl : j = nk := by omega
                  have hjj : ¬ ((j : Int) < (j : Int)) := by omega
                  have HMN := Lib.hid (show ∃ q, q ≤ 1 + 4000 * (k + 1) ∧ MapI wr M q (nmF S (k + 1) []) from by
                    obtain ⟨q, h1, h2⟩ := HMJ.out
                    rw [hnk, List.take_length, HNX.out] at h2
                    exact ⟨q, by omega, h2⟩)
                  clear HMJ HRJ
                  go_wp2_with fail
                  go_roundg (gq - 1)
                  case measure => omega
                  case rel => exact ⟨k + 1, by omega, by rw [HCN.out]; go_num, by go_num, HJ, HMN⟩
            · rw [show S.all ((k : Int) + 1) = ([], 20) from by rw [e1]; exact all_no (by omega) (by omega) hz hk2] at HA
              dsimp only at HA
              have HMN := Lib.hid (show ∃ q, q ≤ 1 + 4000 * (k + 1) ∧ MapI wr M q (nmF S (k + 1) []) from by
                obtain ⟨q, h1, h2⟩ := HM.out
                rw [HNN.out (hnd hk2)] at h2
                exact ⟨q, by omega, h2⟩)
              generalize (S.ino (k + 1)).kind = kk at *
              generalize S.count k = ck at *
              have qz : (kk == 0) = false := by simpa using hz
              clear hnd HNN hz hk2 HM e1
              go_wp2_with fail
              refine HK.out.mono ?_
              rintro _ w5 ⟨rfl, hb5⟩
              have H5 := Lib.hid (HR.out.below hb5)
              have HA5 := Lib.hid (HA.out _ H5.out)
              have HM5 := Lib.hid (show ∃ q, q ≤ 1 + 4000 * (k + 1) ∧ MapI w5 M q (nmF S (k + 1) []) from by
                obtain ⟨q, h1, h2⟩ := HMN.out
                exact ⟨q, h1, h2.below hb5⟩)
              clear hb5 HK HR HMN HA
              go_wp2_with fail
              refine HA5.out.mono ?_
              rintro _ w6 ⟨o, c6, rfl, hl1, hl2, hsl, hb6⟩
              have H6 := Lib.hid (H5.out.below hb6)
              have HM6 := Lib.hid (show ∃ q, q ≤ 1 + 4000 * (k + 1) ∧ MapI w6 M q (nmF S (k + 1) []) from by
                obtain ⟨q, h1, h2⟩ := HM5.out
                exact ⟨q, h1, h2.below hb6⟩)
              generalize dn.Ao o = Ad at *
              clear hb6 HA5 H5 HM5 hsl
              go_wp2_with fail
              go_roundg (gk - 1)
              case measure => omega
              case rel => exact ⟨k + 1, by omega, by rw [HCN.out]; go_num, by go_num, H6, HM6⟩
        · obtain rfl : k = 200 := by omega
          obtain ⟨deep, hd1, hd2⟩ := Tree.bound HG.out.1 HG.out.2
          have HD := Lib.hid hd2
          have HD1 := Lib.hid hd1
          clear hd1 hd2
          have HNI := Lib.hid (fun w9 (h : BrX w w9 P (fun b => b = M) S room 80) => x_inodes h)
          have HLF := Lib.hid (fun k h1 h2 => links_f HG.out.1 k h1 h2)
          have HMZ := Lib.hid (show ∃ q, q ≤ 1 + 4000 * 200 ∧ MapI wr M q (nmF S 200 []) from HM.out)
          generalize S.count 200 = cn at *
          generalize nmF S 200 [] = nf at *
          clear HM
          go_wp2_with fail
          go_loopg [12] 200 (fun g s12 wr => ∃ k : Nat, g + k = 200 ∧ s12 = .int .i64 ((k : Int) + 1) ∧ Hid (BrX w wr P (fun b => b = M) S room 80) ∧ Hid (∃ q, q ≤ 1 + 4000 * 200 ∧ MapI wr M q nf))
          case atStart => exact ⟨0, by omega, rfl, HR, HMZ⟩
          case round =>
            clear HR HMZ
            obtain ⟨k, hgk2, rfl, HR, HM⟩ := hrel
            by_cases hk : k < 200
            · have e1 : ((k : Int) + 1) = ((k + 1 : Nat) : Int) := by omega
              have hlf := HLF.out (k + 1) (by omega) (by omega)
              rw [← e1] at hlf
              have HS := Lib.hid (x_stat HR.out ((k : Int) + 1))
              unfold RetW statV at HS
              have HLK := Lib.hid (fun w' q (h : MapI w' M q nf) => h.look (a := (k : Int) + 1) (wf_small (by omega) (by omega)))
              rw [hlf] at HLK
              by_cases hz : (S.ino (k + 1)).kind = 0
              · have hl0 : (S.ino (k + 1)).links = 0 := by rw [HG.out.1.none _ hz]; rfl
                rw [hl0] at HLK
                have hst : S.stat ((k : Int) + 1) = ((0, 0, 0), 2) := by
                  rw [e1]
                  unfold BS.stat BS.isI
                  rw [at_nat, hz, if_neg (by simp)]
                rw [hst] at HS
                dsimp only at HS
                have HK := Lib.hid (fun w5 (h : BrX w w5 P (fun b => b = M) S room 80) => x_kind h ((k : Int) + 1))
                unfold RetI at HK
                rw [show S.kindOf ((k : Int) + 1) = 0 from by rw [e1, kind_of (by omega) (by omega)]; exact hz] at HK
                clear hl0 hst hz hlf e1
                go_wp2_with fail
                refine HS.out.mono ?_
                rintro _ w5 ⟨rfl, hb5⟩
                have hb6 := fun ob => hb5.trans ((dn.below_alloc w5 ob).mono hb5.size)
                have H6 := Lib.hid (fun ob => HR.out.below (hb6 ob))
                have HM6 := Lib.hid (fun ob => show ∃ q, q ≤ 1 + 4000 * 200 ∧ MapI (w5.alloc ob) M q nf from by
                  obtain ⟨q, h1, h2⟩ := HM.out
                  exact ⟨q, h1, h2.below (hb6 ob)⟩)
                have hlk := fun ob => (HM6.out ob).elim (fun q h => HLK.out _ q h.2)
                have HK6 := Lib.hid (fun ob => HK.out _ (H6.out ob))
                clear hb5 hb6 HS HR HM HLK HK
                go_wp2_with fail
                refine (HK6.out _).mono ?_
                rintro _ w7 ⟨rfl, hb7⟩
                have H7 := Lib.hid ((H6.out _).below hb7)
                have HM7 := Lib.hid (show ∃ q, q ≤ 1 + 4000 * 200 ∧ MapI w7 M q nf from by
                  obtain ⟨q, h1, h2⟩ := HM6.out _
                  exact ⟨q, h1, h2.below hb7⟩)
                clear hb7 hlk H6 HM6 HK6
                go_wp2_with fail
                go_roundg (gk - 1)
                case measure => omega
                case rel => exact ⟨k + 1, by omega, by go_num, H7, HM7⟩
              · rw [e1, stat_of (by omega) (by omega) hz, ← e1] at HS
                dsimp only at HS
                have hsg := HG.out.1.single (k + 1)
                have hln := (HG.out.1.nums (k + 1)).1
                have hlt := HG.out.1.twenty (k + 1)
                have HD0 := Lib.hid (show (S.ino (k + 1)).kind = 2 → 0 < (S.ino (k + 1)).links → (S.ino (k + 1)).kind = 2 ∧ (S.ino (k + 1)).links ≠ 0 ∧ deep (k + 1) + 0 ≤ 200 from fun h1 h2 => ⟨h1, by omega, by have := HD1.out (k + 1); omega⟩)
                generalize hkd : (S.ino (k + 1)).kind = kd at *
                generalize hlk0 : (S.ino (k + 1)).links = lk at *
                generalize ((S.ino (k + 1)).sizeOf : Int) = sz at *
                have HKL := Lib.hid (And.intro hkd hlk0)
                clear hkd hlk0 hlf e1
                go_wp2_with fail
                refine HS.out.mono ?_
                rintro _ w5 ⟨rfl, hb5⟩
                obtain ⟨w6, hw6⟩ : ∃ w6, w5.alloc (.cells #[.int .i64 kd, .int .i64 sz, .int .i64 lk] 61) = w6 := ⟨_, rfl⟩
                have hb6 : Below w5.heap.size w5 w6 := by rw [← hw6]; exact dn.below_alloc w5 _
                have hb56 := hb5.trans (hb6.mono hb5.size)
                obtain ⟨c0, c1, c2⟩ : Bx3 w6 w5.heap.size (.int .i64 kd) (.int .i64 sz) (.int .i64 lk) := by rw [← hw6]; exact Bx3.new w5 _ _ _ 61
                have B6 := Lib.hid (show Bx3 w6 w5.heap.size (.int .i64 kd) (.int .i64 sz) (.int .i64 lk) from ⟨c0, c1, c2⟩)
                have H6 := Lib.hid (HR.out.below hb56)
                have HM6 := Lib.hid (show ∃ q, q ≤ 1 + 4000 * 200 ∧ MapI w6 M q nf from by
                  obtain ⟨q, h1, h2⟩ := HM.out
                  exact ⟨q, h1, h2.below hb56⟩)
                have hlk := HM6.out.elim (fun q h => HLK.out _ q h.2)
                clear hb5 hb6 hb56 HS HR HM HLK
                have hsg2 : kd = 2 → ¬ (1 < lk) := fun h => by have := hsg h; omega
                obtain ⟨gq, hgq⟩ : ∃ gq, gq = gk := ⟨_, rfl⟩
                by_cases hk2 : kd = 2
                · have hl1 := hsg2 hk2
                  have HDD := Lib.hid (fun h => (HD0.out hk2 h).2.2)
                  subst hk2
                  clear hsg hsg2
                  go_wp2_with fail
                  generalize w5.heap.size = b1 at *
                  clear hw6
                  by_cases hl0 : 0 < lk
                  · have hd0 := HDD.out hl0
                    have HD00 := Lib.hid (show ∃ at0 : Nat, (k : Int) + 1 = (at0 : Int) ∧ 1 ≤ at0 ∧ at0 ≤ 200 ∧ (S.ino at0).kind = 2 ∧ (S.ino at0).links ≠ 0 ∧ deep at0 + 0 ≤ 200 from ⟨k + 1, by omega, by omega, by omega, HKL.out.1, by rw [HKL.out.2]; omega, hd0⟩)
                    clear HD0 hd0 HDD
                    go_loopg [15, 16] 300 (fun g s15 s16 wr => ∃ (z : Int) (m : Nat), g + m = 300 ∧ m ≤ 200 ∧ s15 = .int .i64 z ∧ s16 = .int .i64 (m : Int) ∧ Hid (∃ at0 : Nat, z = (at0 : Int) ∧ 1 ≤ at0 ∧ at0 ≤ 200 ∧ (S.ino at0).kind = 2 ∧ (S.ino at0).links ≠ 0 ∧ deep at0 + m ≤ 200) ∧ Hid (BrX w wr P (fun b => b = M) S room 80) ∧ Hid (∃ q, q ≤ 1 + 4000 * 200 ∧ MapI wr M q nf) ∧ Hid (Bx3 wr b1 (.int .i64 2) (.int .i64 sz) (.int .i64 lk)))
                    case atStart => exact ⟨_, 0, by omega, by omega, rfl, rfl, HD00, H6, HM6, B6⟩
                    case round =>
                      clear H6 HM6 B6 c0 c1 c2 hlk HD00
                      obtain ⟨z, m, hgm, hm200, rfl, rfl, HZ, H7, HM7, B7⟩ := hrel
                      obtain ⟨c0, c1, c2⟩ := B7.out
                      obtain ⟨at0, rfl, t1, t2, t3, t4, t5⟩ := HZ.out
                      by_cases ha1 : at0 = 1
                      · subst ha1
                        clear t3 t4 t5 HZ
                        go_wp2_with fail
                        go_roundg (gq - 1)
                        case measure => omega
                        case rel => exact ⟨k + 1, by omega, by go_num, H7, HM7⟩
                      · obtain ⟨p, hp1, hp2, hp3, hp4⟩ := HD.out at0 t3 t4 ha1
                        have HP := Lib.hid (x_parent H7.out (at0 : Int))
                        unfold RetI at HP
                        rw [parent_of t1 t2 (by rw [t3]; decide), hp1] at HP
                        have hpn := HG.out.1.num (k := p) (by rw [hp2]; decide)
                        have HK := Lib.hid (fun w8 (h : BrX w w8 P (fun b => b = M) S room 80) => x_kind h (p : Int))
                        unfold RetI at HK
                        rw [kind_of hpn.1 hpn.2, hp2] at HK
                        have HZ2 := Lib.hid (show ∃ at0 : Nat, (p : Int) = (at0 : Int) ∧ 1 ≤ at0 ∧ at0 ≤ 200 ∧ (S.ino at0).kind = 2 ∧ (S.ino at0).links ≠ 0 ∧ deep at0 + (m + 1) ≤ 200 from ⟨p, rfl, hpn.1, hpn.2, hp2, hp3, by omega⟩)
                        have hm1 : m + 1 ≤ 200 := by omega
                        have hai : ((at0 : Int) != 1) = true := by simp; omega
                        have hai2 : ¬ ((at0 : Int) = 1) := by omega
                        clear hp1 hp2 hp3 hp4 t3 t4 t5 HZ
                        go_wp2_with fail
                        refine HP.out.mono ?_
                        rintro _ w8 ⟨rfl, hb8⟩
                        have H8 := Lib.hid (H7.out.below hb8)
                        have B8 := Lib.hid (B7.out.below hb8)
                        have HM8 := Lib.hid (show ∃ q, q ≤ 1 + 4000 * 200 ∧ MapI w8 M q nf from by
                          obtain ⟨q, h1, h2⟩ := HM7.out
                          exact ⟨q, h1, h2.below hb8⟩)
                        have HK8 := Lib.hid (HK.out _ H8.out)
                        clear hb8 HP H7 B7 HM7 HK c0 c1 c2
                        go_wp2_with fail
                        refine HK8.out.mono ?_
                        rintro _ w9 ⟨rfl, hb9⟩
                        have H9 := Lib.hid (H8.out.below hb9)
                        have B9 := Lib.hid (B8.out.below hb9)
                        have HM9 := Lib.hid (show ∃ q, q ≤ 1 + 4000 * 200 ∧ MapI w9 M q nf from by
                          obtain ⟨q, h1, h2⟩ := HM8.out
                          exact ⟨q, h1, h2.below hb9⟩)
                        clear hb9 HK8 H8 B8 HM8
                        go_wp2_with fail
                        go_roundg (gk - 1)
                        case measure => omega
                        case rel => exact ⟨_, m + 1, by omega, by omega, rfl, by go_num, HZ2, H9, HM9, B9⟩
                  · clear HD0 HDD
                    go_loopg [15, 16] 1 (fun g s15 s16 wr => g = 1 ∧ s15 = .int .i64 ((k : Int) + 1) ∧ s16 = .int .i64 0 ∧ Hid (BrX w wr P (fun b => b = M) S room 80) ∧ Hid (∃ q, q ≤ 1 + 4000 * 200 ∧ MapI wr M q nf) ∧ Hid (Bx3 wr b1 (.int .i64 2) (.int .i64 sz) (.int .i64 lk)))
                    case atStart => exact ⟨rfl, rfl, rfl, H6, HM6, B6⟩
                    case round =>
                      clear H6 HM6 B6 c0 c1 c2 hlk
                      obtain ⟨-, rfl, rfl, H7, HM7, B7⟩ := hrel
                      obtain ⟨c0, c1, c2⟩ := B7.out
                      go_wp2_with fail
                      go_roundg (gq - 1)
                      case measure => omega
                      case rel => exact ⟨k + 1, by omega, by go_num, H7, HM7⟩
                · have q2 : (kd == 2) = false := by simpa using hk2
                  clear hsg hsg2
                  go_wp2_with fail
                  generalize w5.heap.size = b1 at *
                  clear hw6
                  go_loopg [15, 16] 1 (fun g s15 s16 wr => g = 1 ∧ s15 = .int .i64 ((k : Int) + 1) ∧ s16 = .int .i64 0 ∧ Hid (BrX w wr P (fun b => b = M) S room 80) ∧ Hid (∃ q, q ≤ 1 + 4000 * 200 ∧ MapI wr M q nf) ∧ Hid (Bx3 wr b1 (.int .i64 kd) (.int .i64 sz) (.int .i64 lk)))
                  case atStart => exact ⟨rfl, rfl, rfl, H6, HM6, B6⟩
                  case round =>
                    clear H6 HM6 B6 c0 c1 c2 hlk
                    obtain ⟨-, rfl, rfl, H7, HM7, B7⟩ := hrel
                    obtain ⟨c0, c1, c2⟩ := B7.out
                    go_wp2_with fail
                    go_roundg (gq - 1)
                    case measure => omega
                    case rel => exact ⟨k + 1, by omega, by go_num, H7, HM7⟩
            · obtain rfl : k = 200 := by omega
              have HNI2 := Lib.hid (HNI.out _ HR.out)
              clear HM
              go_wp2_with fail
              refine HNI2.out.mono ?_
              rintro _ w9 ⟨rfl, rfl⟩
              go_wp2_with fail
              go_ret
              exact ⟨by simp, HR.out.bel⟩

set_option maxRecDepth 100000 in
theorem lifted (os : Os) (started : os.Started) (H : Type) (enc : TypeId × Value → H) :
    ReturnsInHanded {} Tryz.checked os 4 .any (Rows.branchLinksSpec.pre6 enc Tryz.prog Tryz.f4 Rows.branchLinksRow.domain false) (Rows.branchLinksSpec.post enc Tryz.prog Tryz.f4 false true false false) := by
  refine returnsInHanded_of_change (C := Tryz.checked) own started (by kernel_rfl) Tryz.func4
    (ChangeSpec.witness6 (enc := enc) (C := Tryz.checked) false ⟨#[], #[.int .i64 0, .slice none 0 0], []⟩ 8 (by kernel_rfl) (by kernel_rfl) (by kernel_rfl) (by kernel_rfl)) ?_
  intro W base args ds gs before hval0 hW hcnd _
  have hval : ∀ (j : Nat) t v, Tryz.f4.params[j]? = some t → args[j]? = some v → Value.okWide Tryz.prog W .any base t v := hval0
  have hW' := hW
  obtain ⟨p, q, hA0, hV, rfl, hfz, hnd⟩ := hW
  have hA : DataW.TrodAll enc Tryz.prog W 0 (fun _ => true) true Tryz.f4.params.toList args.toList ds p := hA0
  rw [Tryz.params4] at hA hval
  obtain ⟨v0, vs0, d0, ds0, p0, q0, hargs, rfl, rfl, h0, r0⟩ := trodAll_cons hA
  obtain ⟨v1, vs1, d1, ds1, p1, q1, rfl, rfl, rfl, h1, r1⟩ := trodAll_cons r0
  obtain ⟨rfl, rfl, rfl⟩ := trodAll_nil r1
  obtain rfl : args = #[v0, v1] := by cases args; simp_all
  obtain ⟨rfl, rfl⟩ := trodVars_none hV
  have hlt := fun x hx => hW'.lt x hx
  obtain ⟨a0, rfl, rfl, rfl, w0⟩ := open_int Tryz.underlying3 (hval 0 3 v0 rfl rfl) h0
  have t1 := h1
  obtain ⟨A1, n1, c1, x1, rfl, e1, s1⟩ := open_acts (hval 1 22 v1 rfl rfl) h1
  clear hA0 hval0
  refine (walk a0 A1 n1 c1 x1 W e1 s1).mono fun e W' ⟨he, hg⟩ => ?_
  subst he
  exact ⟨_, rfl, law_post (pv := []) hW' (fun _ _ _ => (trodAll_cons_mk (shut_bool Tryz.underlying4 _) trodAll_mk0)) (fun sp hsp => (trodAll_cons_mk (shut_int Tryz.underlying3 w0) (trodAll_cons_mk (arg_stays t1 hg (by simp +contextual) hlt hsp laid) trodAll_mk0))) (fun _ _ => rfl) (by simp)
    hg (ok_one (by kernel_rfl) rfl (okWide_bool_mk Tryz.underlying4 _))⟩

theorem over : Rows.branchLinksRow.holds Tryz.pinned (OpenSpec.ofChange Rows.branchLinksSpec) :=
  OpenClaim.holds_of_wide 4 Tryz.f4 rfl rfl rfl rfl rfl rfl rfl ⟨rfl, rfl, rfl, rfl, rfl⟩ rfl rfl rfl rfl rfl (by kernel_rfl) Tryz.func4 (by kernel_rfl)
    (of_decide_eq_true (by kernel_rfl)) (by unfold Func.isWrapper; first | (rw [if_pos (by decide +kernel)]; kernel_rfl) | (rw [if_neg (by decide +kernel)]; exact ⟨rfl, rfl⟩))
    (fun os started H enc _ => lifted os started H enc)

/-- The statement. -/
theorem proved : Rows.BranchLinksSaid :=
  over
end Go.Proofs.YtlelnpckbcpkkaaGreat.branchLinks
