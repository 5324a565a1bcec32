/- For every room, every list of acts, every directory, every name and every number of holds the law BranchHolds returns true, and what is handed in reads as it did; there are no conditions. -/
import Derived.Test.YtlelnpckbcpkkaaGreatZm
import Derived.Test.YtlelnpckbcpkkaaGreatZn
import Derived.Test.YtlelnpckbcpkkaaGreatZt
import Derived.Test.YtlelnpckbcpkkaaGreatHo
import Derived.Deep.RegionWith
import Derived.Deep.QuietTactic
import Derived.BigQuiet
import Derived.ProofKit
import Derived.OpenShut
import Derived.ShutString
namespace Go.Proofs.YtlelnpckbcpkkaaGreat.branchHolds
open Go.ChangeShapes Go.WideShapes Go.ChangeAt Go.RowKit
open Go.ChangeMaps (open_string shut_string)
open Go.Proofs.YtlelnpckbcpkkaaGreat.cb
set_option linter.unusedVariables false

theorem own : ownKnob Tryz.prog.godebug = none := by kernel_rfl
theorem laid : laidOutB Tryz.prog = true := by kernel_rfl

open Go.Proofs.YtlelnpckbcpkkaaGreat.br
open Go.Proofs.YtlelnpckbcpkkaaGreat.bl (Pq)
open Go.Proofs.YtlelnpckbcpkkaaGreat.dn (lget lset nerr dotB)

set_option maxHeartbeats 1000000 in
set_option maxRecDepth 100000 in
theorem walk (r : Int) (A : Option Addr) (n c : Nat) (F : Nat → Act7) (d : Int) (s : ByteArray) (hz : Int) (w : World) (k1 : n ≤ c ∧ c ≤ maxLen) (hF : Acts w w.heap.size A n F) (ws : s.size ≤ maxLen) (wz : (Lit.int .u8 hz).wf = true) :
    Calls Tryz.prog 6 #[.int .i64 r, .slice A n c, .int .i64 d, .string s, .int .u8 hz] w (AwakeE w) := by
  have hzb : 0 ≤ hz ∧ hz ≤ 255 := by
    have := bounds_u8 wz
    omega
  have hnm : n ≤ maxLen := Nat.le_trans k1.1 k1.2
  have hs : s.size ≤ 9223372036854775807 := ws
  have HAW := Lib.hid (awake_any w)
  have HPL := Lib.hid (fun w1 P room (S : BS) (hb : BrX w w1 P No S room 0) => play_any A n c F w w1 P room hnm hF hb)
  clear k1 hF hnm ws wz
  by_cases hr : r < 0 ∨ 65536 < r
  · have HN := Lib.hid (fun w1 => new_no r w1 hr)
    clear HPL hr
    go_enter Tryz.func6, Tryz.ntmps6
    go_wp2_with fail
    refine HAW.out.mono ?_
    rintro e w1 ⟨rfl, hb1⟩
    go_wp2_with fail
    refine (HN.out _).mono ?_
    rintro e w2 ⟨rfl, rfl⟩
    go_wp2_with fail
    go_ret
    exact ⟨rfl, hb1⟩
  · obtain ⟨room, rfl⟩ : ∃ room : Nat, r = (room : Int) := ⟨r.toNat, by omega⟩
    have HN := Lib.hid (fun w1 (hb : Below w.heap.size w w1) => x_new (w0 := w) (w := w1) room (by omega) hb)
    clear hr
    go_enter Tryz.func6, Tryz.ntmps6
    go_wp2_with fail
    refine HAW.out.mono ?_
    rintro e w1 ⟨rfl, hb1⟩
    have HN2 := Lib.hid (HN.out w1 hb1)
    clear HN hb1 HAW
    go_wp2_with fail
    refine HN2.out.mono ?_
    rintro e w2 ⟨P, rfl, h2, -, -⟩
    have HP2 := Lib.hid (HPL.out w2 P room fresh h2.forget)
    clear h2 HN2 HPL
    go_wp2_with fail
    refine HP2.out.mono ?_
    rintro e w3 ⟨b, S, rfl, h3⟩
    have H3 := Lib.hid h3
    clear h3 HP2
    cases b
    · go_wp2_with fail
      go_ret
      exact ⟨rfl, H3.out.bel⟩
    · have HG := Lib.hid (x_get H3.out d s)
      obtain ⟨i, e0, he⟩ : ∃ i e0, S.get d s = (i, e0) := ⟨_, _, rfl⟩
      rw [he] at HG
      dsimp only at HG
      have HE := Lib.hid he
      clear he
      go_wp2_with fail
      refine HG.out.mono ?_
      rintro _ w4 ⟨rfl, hb4⟩
      have H4 := Lib.hid (H3.out.below hb4)
      clear hb4 HG H3
      by_cases hq : e0 = 0
      · subst hq
        have HK := Lib.hid (x_kind H4.out i)
        unfold RetI at HK
        by_cases hk : S.kindOf i = 1
        · have HFA := Lib.hid (held_file HE.out hk)
          obtain ⟨I, hI, i1, i2, hki⟩ := HFA.out
          subst hI
          rw [hk] at HK
          clear HFA hk
          go_wp2_with fail
          refine HK.out.mono ?_
          rintro _ w5 ⟨rfl, hb5⟩
          have H5 := Lib.hid (H4.out.below hb5)
          clear hb5 HK H4
          have HKI := Lib.hid hki
          have HFA0 := Lib.hid (H5.out.good.1.nums I).2
          clear hki
          obtain ⟨m, hm1, hm3, hm4⟩ : ∃ m : Nat, hz % 9 + 1 = (m : Int) ∧ 1 ≤ m ∧ m ≤ 9 := ⟨(hz % 9 + 1).toNat, by omega, by omega, by omega⟩
          go_wp2_with fail
          try rw [hm1]
          have H0 := Lib.hid (show BrX w w5 P No (hN S I 0) room (80 + 0) from by rw [hN_zero]; exact H5.out)
          clear hm1 H5
          go_loopg [15] m (fun g s15 wr => ∃ k : Nat, g + k = m ∧ s15 = .int .i64 k ∧ Hid (BrX w wr P No (hN S I k) room (80 + k)))
          case atStart => exact ⟨0, by omega, rfl, H0⟩
          case round =>
            clear H0
            obtain ⟨k, hg, rfl, HB⟩ := hrel
            by_cases hkm : k < m
            · have HX := Lib.hid (x_hold HB.out (by omega) (I : Int))
              rw [hN_hold i1 i2 (by rw [HKI.out]; decide)] at HX
              dsimp only at HX
              clear HB
              have hkm2 : (k : Int) < (m : Int) := by omega
              go_wp2_with fail
              refine HX.out.mono ?_
              rintro _ w6 ⟨rfl, h6, -⟩
              have H6 := Lib.hid h6
              clear h6 HX
              go_wp2_with fail
              go_roundg (gk - 1)
              case measure => omega
              case rel => exact ⟨k + 1, by omega, by go_num, H6⟩
            · obtain rfl : k = m := by omega
              have hkk : ¬ ((k : Int) < (k : Int)) := by omega
              have hn0 := HB.out.good.1.nums I
              have hHk : ((hN S I k).ino I).kind = 1 := by rw [hN_at]; exact HKI.out
              have hHh : (k : Int) ≤ ((hN S I k).ino I).holds := by
                rw [hN_at]
                have hS0 : 0 ≤ (S.ino I).holds := by
                  have := HFA0.out
                  exact this
                show (k : Int) ≤ (S.ino I).holds + (k : Int)
                omega
              have hHg := hN_get HE.out HKI.out k
              generalize hN S I k = H at *
              have hll : 1 ≤ (H.ino I).links := by
                obtain ⟨D, rfl, _, _, hD, hl⟩ := get_ok (by rw [hHg])
                rw [hHg] at hl
                obtain ⟨_, _, I', hI', _, _, _, q5, _⟩ := HB.out.good.1.lead hl
                obtain rfl : I = I' := by
                  have : (I : Int) = (I' : Int) := hI'
                  omega
                exact q5
              have hRS := readI_same (U := H) i1 i2 hHk hHk rfl
              have HU := Lib.hid (held_unlink HB.out.good hHg hHk (by omega))
              have HR := Lib.hid (x_read HB.out (I : Int) 0 65536)
              unfold ReadI at HR
              obtain ⟨N, hN1⟩ : ∃ N, readI H (I : Int) 0 65536 = (0, N) := ⟨(readI H (I : Int) 0 65536).2, Prod.ext hRS.2.1 rfl⟩
              have HRU := Lib.hid (fun (U : BS) (hu : (U.ino I).kind = 1) (hb : (U.ino I).body = (H.ino I).body) => readI_same (U := U) i1 i2 hHk hu hb)
              have hN65 : N ≤ 65536 := by have := hRS.2.2.2; rw [hN1] at this; exact this
              rw [hN1] at HR HRU
              dsimp only at HR
              have HHB := Lib.hid (show (H.at (I : Int)).body = (H.ino I).body from by rw [at_nat])
              have HST := Lib.hid (fun w6 (h : BrX w w6 P No H room (80 + k)) => x_stat h (I : Int))
              unfold RetW statV at HST
              rw [stat_of i1 i2 (by rw [hHk]; decide), hHk] at HST
              dsimp only at HST
              have HHK := Lib.hid hHk
              have HHH := Lib.hid hHh
              clear hRS hN1 hHg hn0 hHk hHh HE HKI HFA0
              go_wp2_with fail
              refine HR.out.mono ?_
              rintro _ w6 ⟨A6, c6, rfl, hr6, hb6⟩
              have HB6 := Lib.hid hb6
              have HR6 := Lib.hid hr6
              have HST6 := Lib.hid (HST.out _ (HB.out.below hb6))
              clear hb6 hr6 HR HST
              go_wp2_with fail
              refine HST6.out.mono ?_
              rintro _ w7 ⟨rfl, hb7⟩
              have HB7 := Lib.hid hb7
              have HR7 := Lib.hid (row_below HR6.out hb7)
              have HBL := Lib.hid (show (H.ino I).links = (H.ino I).links from rfl)
              generalize hz1 : ((H.ino I).sizeOf : Int) = z1 at *
              generalize hlk : (H.ino I).links = lk at *
              clear hb7 HST6 HR6 hz1 HBL
              obtain ⟨w8, hw8⟩ : ∃ w8, w7.alloc (.cells #[.int .i64 1, .int .i64 z1, .int .i64 lk] 61) = w8 := ⟨_, rfl⟩
              have hz8 : w8.heap.size = w7.heap.size + 1 := by rw [← hw8]; exact World.size_alloc _ _
              have HB8 := Lib.hid (show Below w7.heap.size w7 w8 from by rw [← hw8]; exact dn.below_alloc w7 _)
              have BX8 := Lib.hid (show Bx3 w8 w7.heap.size (.int .i64 1) (.int .i64 z1) (.int .i64 lk) from by rw [← hw8]; exact Bx3.new w7 _ _ _ 61)
              have HR8 := Lib.hid (row_below HR7.out HB8.out)
              have hs7 : wr.heap.size ≤ w7.heap.size := Nat.le_trans HB6.out.size HB7.out.size
              have H8 := Lib.hid (HB.out.beside (Y := fun b => wr.heap.size ≤ b ∧ b < w8.heap.size) ((HB6.out.trans (HB7.out.mono HB6.out.size)).trans (HB8.out.mono hs7)) (fun b hb => .inr hb))
              have HUS := Lib.hid (x_used H8.out)
              have HUL := Lib.hid (x_unlink H8.out (by omega) d s)
              generalize hq8 : H.used = us at *
              clear HB HR7 HB6 HB7 HB8
              go_wp2_with fail
              refine HUS.out.mono ?_
              rintro _ w9 ⟨rfl, rfl⟩
              rcases HU.out with ⟨u1, u2, u3⟩ | ⟨u1, u2, z2, u4⟩
              · rw [u1] at HUL
                generalize (H.unlink d s).2 = U at *
                have hUk : (U.ino I).kind = 1 := by rw [u2]; exact HHK.out
                have hUh : (k : Int) ≤ (U.ino I).holds := by rw [u2]; exact HHH.out
                have hUl : (U.ino I).links = lk - 1 := by rw [u2]
                have hRU := HRU.out U hUk (by rw [u2])
                have HRD := Lib.hid (fun w10 (h : BrX w w10 P (fun b => wr.heap.size ≤ b ∧ b < w9.heap.size) U room (80 + k + 1)) => x_read h (I : Int) 0 65536)
                unfold ReadI at HRD
                rw [hRU.1, hRU.2.2.1] at HRD
                dsimp only at HRD
                have HST2 := Lib.hid (fun w10 (h : BrX w w10 P (fun b => wr.heap.size ≤ b ∧ b < w9.heap.size) U room (80 + k + 1)) => x_stat h (I : Int))
                unfold RetW statV at HST2
                rw [stat_of i1 i2 (by rw [hUk]; decide), hUk, hUl] at HST2
                dsimp only at HST2
                have HUK := Lib.hid hUk
                have HUH := Lib.hid hUh
                have HUL2 := Lib.hid hUl
                have HU3 := Lib.hid u3
                have hlu : 1 ≤ lk := hll
                have hlu2 : lk ≤ 20 := by rw [← hlk]; exact H8.out.good.1.twenty I
                clear hRU hUk hUh hUl u1 u2 u3 HRU HU hlk hq8 hll
                go_wp2_with fail
                refine HUL.out.mono ?_
                rintro _ w10 ⟨rfl, h10, hs10⟩
                have BX10 := Lib.hid (BX8.out.same hs10 ⟨hs7, by omega⟩)
                have HR10 := Lib.hid (row_same HR8.out hs10 (fun b h1 h2 => ⟨h1, h2⟩))
                have HRD10 := Lib.hid (HRD.out _ h10)
                have H10 := Lib.hid h10
                clear h10 hs10 HUL BX8 HR8 HRD H8 HUS
                go_wp2_with fail
                refine HRD10.out.mono ?_
                rintro _ w11 ⟨A11, c11, rfl, hr11, hb11⟩
                have BX11 := Lib.hid (BX10.out.below hb11)
                have HR11 := Lib.hid (row_below HR10.out hb11)
                have HN11 := Lib.hid hr11
                have H11 := Lib.hid (H10.out.below hb11)
                have HST11 := Lib.hid (HST2.out _ H11.out)
                clear hr11 hb11 HRD10 BX10 HR10 H10 HST2
                go_wp2_with fail
                refine HST11.out.mono ?_
                rintro _ w12 ⟨rfl, hb12⟩
                have BX12 := BX11.out.below hb12
                have HR12 := Lib.hid (row_below HR11.out hb12)
                have HN12 := Lib.hid (row_below HN11.out hb12)
                have H12 := Lib.hid (H11.out.below hb12)
                generalize hz3 : ((U.ino I).sizeOf : Int) = z3 at *
                clear hb12 HST11 BX11 HR11 HN11 H11 hz3
                obtain ⟨w13, hw13⟩ : ∃ w13, w12.alloc (.cells #[.int .i64 1, .int .i64 z3, .int .i64 (lk - 1)] 61) = w13 := ⟨_, rfl⟩
                have hb13 : Below w12.heap.size w12 w13 := by rw [← hw13]; exact dn.below_alloc w12 _
                obtain ⟨e0, e1, e2⟩ : Bx3 w13 w12.heap.size (.int .i64 1) (.int .i64 z3) (.int .i64 (lk - 1)) := by rw [← hw13]; exact Bx3.new w12 _ _ _ 61
                have B13 := Lib.hid (BX12.below hb13)
                obtain ⟨d0, d1, d2⟩ := BX12.below hb13
                have R13 := row_below HR12.out hb13
                have N13 := row_below HN12.out hb13
                have cv1 := bl.Row.conv R13
                have cv2 := bl.Row.conv N13
                clear R13 N13
                generalize bl.strF N (fun j => (H.at (I : Int)).body.dat ((0 : Int).toNat + j)) = sx at cv1 cv2
                have H13 := Lib.hid (H12.out.below hb13)
                have C1 := Lib.hid (x_used H13.out)
                rw [HU3.out] at C1
                clear hb13 BX12 HR12 HN12 H12
                go_wp2_with fail
                refine C1.out.mono ?_
                rintro _ w14 ⟨rfl, hw14⟩
                have h14 := H13.out
                rw [← hw14] at h14
                have B14 := Lib.hid (show Bx3 w14 w7.heap.size (.int .i64 1) (.int .i64 z1) (.int .i64 lk) from by rw [hw14]; exact B13.out)
                have H14 := Lib.hid (show BrX w w14 P (fun b => b = w7.heap.size) (rN U I 0) room (80 + k + 1 + 0) from by rw [rN_zero]; exact h14.sub (fun b hb => by subst hb; exact ⟨hs7, by omega⟩))
                clear h14 C1 H13 B13 cv1 cv2 d0 d1 d2 e0 e1 e2 hw14
                have HRN := Lib.hid (fun j hj => rN_release i1 i2 HUK.out k j hj HUH.out)
                have HKD := Lib.hid (fun (Sj : BS) => kind_of (S := Sj) i1 i2)
                have HRK := Lib.hid (fun j => show ((rN U I j).ino I).kind = 1 from by rw [rN_at]; exact HUK.out)
                generalize w7.heap.size = b1 at *
                go_wp2_with fail
                go_loopg [27] k (fun g s27 wr => ∃ (j : Nat) (Sj : BS), g + j = k ∧ s27 = .int .i64 j ∧ Hid (BrX w wr P (fun b => b = b1) Sj room (80 + k + 1 + j)) ∧ Hid (Bx3 wr b1 (.int .i64 1) (.int .i64 z1) (.int .i64 lk)) ∧ Hid ((j < k → Sj = rN U I j) ∧ (j = k → Fin U Sj I k)))
                case atStart => exact ⟨0, _, by omega, rfl, H14, B14, Lib.hid ⟨fun _ => rfl, fun e => by omega⟩⟩
                case round =>
                  clear H14 B14
                  obtain ⟨j, Sj, hg, rfl, HJ, BJ, HF⟩ := hrel
                  by_cases hjk : j < k
                  · obtain rfl := HF.out.1 hjk
                    obtain ⟨q1, q2, q3⟩ := HRN.out j hjk
                    have HK1 := Lib.hid (x_kind HJ.out (I : Int))
                    unfold RetI at HK1
                    rw [HKD.out, HRK.out] at HK1
                    have HX := Lib.hid (fun w15 (h : BrX w w15 P (fun b => b = b1) (rN U I j) room (80 + k + 1 + j)) => x_release h (by omega) (I : Int))
                    rw [q1] at HX
                    have HQ := Lib.hid (show (j + 1 < k → ((rN U I j).release (I : Int)).2 = rN U I (j + 1)) ∧ (j + 1 = k → Fin U ((rN U I j).release (I : Int)).2 I k) from ⟨q2, q3⟩)
                    generalize ((rN U I j).release (I : Int)).2 = S' at *
                    have hjk2 : (j : Int) < (k : Int) := by omega
                    clear q1 q2 q3 HF
                    go_wp2_with fail
                    refine HK1.out.mono ?_
                    rintro _ w15 ⟨rfl, hb15⟩
                    have H15 := Lib.hid (HJ.out.below hb15)
                    have B15 := Lib.hid (BJ.out.below hb15)
                    have HX15 := Lib.hid (HX.out _ H15.out)
                    clear hb15 HK1 HJ BJ HX H15
                    go_wp2_with fail
                    refine HX15.out.mono ?_
                    rintro _ w16 ⟨rfl, h16, hs16⟩
                    have H16 := Lib.hid h16
                    have B16 := Lib.hid (B15.out.same hs16 rfl)
                    clear h16 hs16 HX15 B15
                    go_wp2_with fail
                    go_roundg (gk - 1)
                    case measure => omega
                    case rel => exact ⟨j + 1, S', by omega, by go_num, H16, B16, HQ⟩
                  · obtain rfl : j = k := by omega
                    have hjj : ¬ ((j : Int) < (j : Int)) := by omega
                    have hF := HF.out.2 rfl
                    obtain ⟨c0, c1, c2⟩ := BJ.out
                    have hUl := HUL2.out
                    have hU3 := HU3.out
                    by_cases hl1 : 1 < lk
                    · have hk1 : (Sj.ino I).kind = 1 := by
                        rcases hF with ⟨h1, _⟩ | ⟨_, h1, _⟩
                        · exact h1
                        · omega
                      have HK1 := Lib.hid (x_kind HJ.out (I : Int))
                      unfold RetI at HK1
                      rw [HKD.out, hk1] at HK1
                      clear hF hk1 hUl hU3 HF
                      go_wp2_with fail
                      refine HK1.out.mono ?_
                      rintro _ w15 ⟨rfl, hb15⟩
                      have H15 := Lib.hid (HJ.out.below hb15)
                      clear hb15 HK1 HJ
                      go_wp2_with fail
                      go_ret
                      exact ⟨by simp, H15.out.bel⟩
                    · have HST := Lib.hid (x_stat HJ.out (I : Int))
                      unfold RetW statV at HST
                      by_cases hk1 : (Sj.ino I).kind = 1
                      · rw [stat_of i1 i2 (by rw [hk1]; decide)] at HST
                        dsimp only at HST
                        generalize (Sj.ino I).kind = v1 at *
                        generalize ((Sj.ino I).sizeOf : Int) = v2 at *
                        generalize (Sj.ino I).links = v3 at *
                        clear hF hk1 hUl hU3 HF
                        go_wp2_with fail
                        refine HST.out.mono ?_
                        rintro _ w15 ⟨rfl, hb15⟩
                        have H15 := Lib.hid (fun ob => (HJ.out.below hb15).below (dn.below_alloc w15 ob))
                        clear hb15 HST HJ
                        go_wp2_with fail
                        go_ret
                        exact ⟨by simp, (H15.out _).bel⟩
                      · have hz : (Sj.ino I).kind = 0 ∧ Sj.used ≤ U.used := by
                          rcases hF with ⟨h1, _⟩ | ⟨h1, _, h2⟩
                          · exact absurd h1 hk1
                          · exact ⟨h1, h2⟩
                        have hus : (Sj.used : Int) ≤ (us : Int) := by omega
                        have hst : Sj.stat (I : Int) = ((0, 0, 0), 2) := by
                          unfold BS.stat BS.isI
                          rw [at_nat, hz.1, if_neg (by simp)]
                        rw [hst] at HST
                        dsimp only at HST
                        have HK1 := Lib.hid (fun w15 (h : BrX w w15 P (fun b => b = b1) Sj room (80 + j + 1 + j)) => x_kind h (I : Int))
                        unfold RetI at HK1
                        rw [HKD.out, hz.1] at HK1
                        have HU1 := Lib.hid (fun w15 (h : BrX w w15 P (fun b => b = b1) Sj room (80 + j + 1 + j)) => x_used h)
                        generalize (Sj.used : Int) = su at *
                        clear hF hk1 hUl hU3 HF hst hz
                        go_wp2_with fail
                        refine HST.out.mono ?_
                        rintro _ w15 ⟨rfl, hb15⟩
                        have H15 := Lib.hid (fun ob => (HJ.out.below hb15).below (dn.below_alloc w15 ob))
                        have HU15 := Lib.hid (fun ob => HU1.out _ (H15.out ob))
                        have HK15 := Lib.hid (fun ob => HK1.out _ (H15.out ob))
                        clear hb15 HST HJ HU1 HK1
                        go_wp2_with fail
                        refine (HU15.out _).mono ?_
                        rintro _ w16 ⟨rfl, hw16⟩
                        subst hw16
                        go_wp2_with fail
                        refine (HK15.out _).mono ?_
                        rintro _ w17 ⟨rfl, hb17⟩
                        have H17 := Lib.hid ((H15.out _).below hb17)
                        clear hb17 HU15 HK15 H15
                        go_wp2_with fail
                        go_ret
                        exact ⟨by simp, H17.out.bel⟩
              · rw [u1, u2] at HUL
                have HST2 := Lib.hid (fun w10 (h : BrX w w10 P (fun b => wr.heap.size ≤ b ∧ b < w9.heap.size) H room (80 + k + 1)) => x_stat h d)
                unfold RetW statV at HST2
                rw [u4] at HST2
                dsimp only at HST2
                clear u1 u2 u4 HRU HU hlk hq8 hll HR8 BX8
                go_wp2_with fail
                refine HUL.out.mono ?_
                rintro _ w10 ⟨rfl, h10, hs10⟩
                have HST10 := Lib.hid (HST2.out _ h10)
                have H10 := Lib.hid h10
                clear h10 hs10 HUL HST2 H8 HUS
                go_wp2_with fail
                refine HST10.out.mono ?_
                rintro _ w11 ⟨rfl, hb11⟩
                have H11 := Lib.hid (fun ob => (H10.out.below hb11).below (dn.below_alloc w11 ob))
                clear hb11 HST10 H10
                go_wp2_with fail
                go_ret
                exact ⟨by simp, (H11.out _).bel⟩
        · generalize S.kindOf i = kk at *
          have qk : (kk != 1) = true := by simpa using hk
          clear HE hk
          go_wp2_with fail
          refine HK.out.mono ?_
          rintro _ w5 ⟨rfl, hb5⟩
          have H5 := Lib.hid (H4.out.below hb5)
          clear hb5 HK H4
          go_wp2_with fail
          go_ret
          exact ⟨rfl, H5.out.bel⟩
      · have q0 : (e0 != 0) = true := by simpa using hq
        clear HE hq
        go_wp2_with fail
        go_ret
        exact ⟨rfl, H4.out.bel⟩

set_option maxRecDepth 100000 in
theorem lifted (os : Os) (started : os.Started) (H : Type) (enc : TypeId × Value → H) :
    ReturnsInHanded {} Tryz.checked os 6 .any (Rows.branchHoldsSpec.pre6 enc Tryz.prog Tryz.f6 Rows.branchHoldsRow.domain false) (Rows.branchHoldsSpec.post enc Tryz.prog Tryz.f6 false true false false) := by
  refine returnsInHanded_of_change (C := Tryz.checked) own started (by kernel_rfl) Tryz.func6
    (ChangeSpec.witness6 (enc := enc) (C := Tryz.checked) false ⟨#[], #[.int .i64 0, .slice none 0 0, .int .i64 0, .string ByteArray.empty, .int .u8 0], []⟩ 8 (by kernel_rfl) (by kernel_rfl) (by kernel_rfl) (by kernel_rfl)) ?_
  intro W base args ds gs before hval0 hW hcnd _
  have hval : ∀ (j : Nat) t v, Tryz.f6.params[j]? = some t → args[j]? = some v → Value.okWide Tryz.prog W .any base t v := hval0
  have hW' := hW
  obtain ⟨p, q, hA0, hV, rfl, hfz, hnd⟩ := hW
  have hA : DataW.TrodAll enc Tryz.prog W 0 (fun _ => true) true Tryz.f6.params.toList args.toList ds p := hA0
  rw [Tryz.params6] at hA hval
  obtain ⟨v0, vs0, d0, ds0, p0, q0, hargs, rfl, rfl, h0, r0⟩ := trodAll_cons hA
  obtain ⟨v1, vs1, d1, ds1, p1, q1, rfl, rfl, rfl, h1, r1⟩ := trodAll_cons r0
  obtain ⟨v2, vs2, d2, ds2, p2, q2, rfl, rfl, rfl, h2, r2⟩ := trodAll_cons r1
  obtain ⟨v3, vs3, d3, ds3, p3, q3, rfl, rfl, rfl, h3, r3⟩ := trodAll_cons r2
  obtain ⟨v4, vs4, d4, ds4, p4, q4, rfl, rfl, rfl, h4, r4⟩ := trodAll_cons r3
  obtain ⟨rfl, rfl, rfl⟩ := trodAll_nil r4
  obtain rfl : args = #[v0, v1, v2, v3, v4] := by cases args; simp_all
  obtain ⟨rfl, rfl⟩ := trodVars_none hV
  have hlt := fun x hx => hW'.lt x hx
  obtain ⟨a0, rfl, rfl, rfl, w0⟩ := open_int Tryz.underlying3 (hval 0 3 v0 rfl rfl) h0
  have t1 := h1
  obtain ⟨A1, n1, c1, x1, rfl, e1, s1⟩ := open_acts (hval 1 22 v1 rfl rfl) h1
  obtain ⟨a2, rfl, rfl, rfl, w2⟩ := open_int Tryz.underlying3 (hval 2 3 v2 rfl rfl) h2
  obtain ⟨a3, rfl, rfl, rfl, w3⟩ := open_string Tryz.underlying9 (hval 3 9 v3 rfl rfl) h3
  obtain ⟨a4, rfl, rfl, rfl, w4⟩ := open_int Tryz.underlying5 (hval 4 5 v4 rfl rfl) h4
  clear hA0 hval0
  refine (walk a0 A1 n1 c1 x1 a2 a3 a4 W e1 s1 w3 w4).mono fun e W' ⟨he, hg⟩ => ?_
  subst he
  exact ⟨_, rfl, law_post (pv := []) hW' (fun _ _ _ => (trodAll_cons_mk (shut_bool Tryz.underlying4 _) trodAll_mk0)) (fun sp hsp => (trodAll_cons_mk (shut_int Tryz.underlying3 w0) (trodAll_cons_mk (arg_stays t1 hg (by simp +contextual) hlt hsp laid) (trodAll_cons_mk (shut_int Tryz.underlying3 w2) (trodAll_cons_mk (shut_string Tryz.underlying9 w3) (trodAll_cons_mk (shut_int Tryz.underlying5 w4) trodAll_mk0)))))) (fun _ _ => rfl) (by simp)
    hg (ok_one (by kernel_rfl) rfl (okWide_bool_mk Tryz.underlying4 _))⟩

theorem over : Rows.branchHoldsRow.holds Tryz.pinned (OpenSpec.ofChange Rows.branchHoldsSpec) :=
  OpenClaim.holds_of_wide 6 Tryz.f6 rfl rfl rfl rfl rfl rfl rfl ⟨rfl, rfl, rfl, rfl, rfl⟩ rfl rfl rfl rfl rfl (by kernel_rfl) Tryz.func6 (by kernel_rfl)
    (of_decide_eq_true (by kernel_rfl)) (by unfold Func.isWrapper; first | (rw [if_pos (by decide +kernel)]; kernel_rfl) | (rw [if_neg (by decide +kernel)]; exact ⟨rfl, rfl⟩))
    (fun os started H enc _ => lifted os started H enc)

/-- The statement. -/
theorem proved : Rows.BranchHoldsSaid :=
  over
end Go.Proofs.YtlelnpckbcpkkaaGreat.branchHolds
