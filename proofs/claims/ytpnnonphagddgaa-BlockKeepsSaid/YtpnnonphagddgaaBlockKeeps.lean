/- For every room, every list of acts, every place and any bytes the law BlockKeeps returns true, and what is handed in reads as it did; there are no conditions. -/
import Derived.Test.YtpnnonphagddgaaWas
import Derived.Deep.RegionWith
import Derived.ProofKit
import Derived.OpenShut
namespace Go.Proofs.Ytpnnonphagddgaa.blockKeeps
open Go.ChangeShapes Go.WideShapes Go.ChangeAt Go.RowKit
set_option linter.unusedVariables false

theorem own : ownKnob Try.prog.godebug = none := by kernel_rfl
theorem laid : laidOutB Try.prog = true := by kernel_rfl

set_option maxHeartbeats 8000000 in
set_option maxRecDepth 100000 in
theorem walk (room : Int) (A : Option Addr) (n c : Nat) (F : Nat → Act5) (off : Int) (Ad : Option Addr) (nd cd : Nat) (fd : Nat → UInt8) (w : World) (k1 : n ≤ c ∧ c ≤ maxLen) (hF : Acts w w.heap.size A n F) (hd : Src w w.heap.size Ad nd cd fd) :
    Calls Try.prog 5 #[.int .i64 room, .slice A n c, .int .i64 off, .slice Ad nd cd] w (AwakeE w) := by
  have HD0 := Lib.hid hd
  have hndm : (nd : Int) ≤ 9223372036854775807 := by have := hd.1.1; have := hd.1.2; unfold maxLen at this; omega
  clear hd
  have hnm : (n : Int) ≤ 9223372036854775807 := by have := k1.1; have := k1.2; unfold maxLen at this; omega
  clear k1
  have HF0 := Lib.hid hF
  clear hF
  go_enter Try.func5, Try.ntmps5
  go_wp2_with fail
  refine (awake_any _).mono ?_
  rintro e w1 ⟨rfl, hb1⟩
  have HB1 := Lib.hid hb1
  clear hb1
  by_cases hr : 0 ≤ room ∧ room ≤ 65536
  · obtain ⟨R, hR⟩ : ∃ R : Nat, room = (R : Int) := ⟨room.toNat, by omega⟩
    have HRM := Lib.hid (show R ≤ 65536 by omega)
    subst hR
    clear hr
    go_wp2_with fail
    refine (new_yes R w1 HRM.out).mono ?_
    rintro e w2 ⟨rfl, hw2⟩
    have HS2 := Lib.hid (one_new HRM.out hw2)
    have HB2 := Lib.hid (show Below w.heap.size w w2 by rw [hw2]; exact HB1.out.alloc HB1.out.size _)
    have HZ := Lib.hid (show w2.heap.size = w1.heap.size + 1 by rw [hw2]; simp)
    clear hw2
    by_cases hbig : 4096 < (nd : Int)
    · have hbd : decide (4096 < nd) = true := by simp; omega
      go_wp2_with fail
      go_ret
      exact ⟨rfl, HB2.out⟩
    have hbd : decide (4096 < nd) = false := by simp; omega
    have HR0 := Lib.hid (sys_zero HS2.out (fun _ => 0) (fun _ => 0) (fun _ => AB.empty))
    clear HS2
    go_wp2_with fail
    refine (sys_body HR0.out).mono ?_
    rintro e w3 ⟨rfl, h0, hb0⟩
    have HR1 := Lib.hid h0
    have Hw3 := Lib.hid (below_step HB2.out (hb0.mono HB2.out.size))
    clear h0 hb0 HR0
    go_wp2_with fail
    refine (sys_body HR1.out).mono ?_
    rintro e w4 ⟨rfl, h1, hb1⟩
    have HR2 := Lib.hid h1
    have Hw4 := Lib.hid (below_step Hw3.out (hb1.mono Hw3.out.size))
    clear h1 hb1 HR1
    go_wp2_with fail
    refine (sys_body HR2.out).mono ?_
    rintro e w5 ⟨rfl, h2, hb2⟩
    have HR3 := Lib.hid h2
    have Hw5 := Lib.hid (below_step Hw4.out (hb2.mono Hw4.out.size))
    clear h2 hb2 HR2
    go_wp2_with fail
    refine (sys_body HR3.out).mono ?_
    rintro e w6 ⟨rfl, h3, hb3⟩
    have HR4 := Lib.hid h3
    have Hw6 := Lib.hid (below_step Hw5.out (hb3.mono Hw5.out.size))
    clear h3 hb3 HR3
    have HT3 := Lib.hid (four_made (show Sys w6 w1.heap.size R 4 (B4 (w2.heap.size + 1) (w3.heap.size + 1) (w4.heap.size + 1) (w5.heap.size + 1)) (B4 w2.heap.size w3.heap.size w4.heap.size w5.heap.size) E4 from HR4.out) Hw6.out HB1.out.size
      ⟨by have := HB2.out.size; omega, by have := Hw3.out.size; omega, by have := Hw4.out.size; omega, by have := Hw5.out.size; omega⟩ ⟨HB2.out.size, Hw3.out.size, Hw4.out.size, Hw5.out.size⟩)
    go_wp2_with fail
    generalize (w6.alloc (.cells #[Pq (w2.heap.size + 1), Pq (w3.heap.size + 1), Pq (w4.heap.size + 1), Pq (w5.heap.size + 1)] 29)) = w7 at *
    clear HR4 Hw3 Hw4 Hw5
    generalize B4 (w2.heap.size + 1) (w3.heap.size + 1) (w4.heap.size + 1) (w5.heap.size + 1) = B at *
    generalize B4 w2.heap.size w3.heap.size w4.heap.size w5.heap.size = M at *
    generalize w6.heap.size = g at *
    generalize w1.heap.size = S at *
    clear HB1 HB2 HZ Hw6
    go_loopg [11] 60 (fun gg s wr => ∃ (k : Nat) (b : Nat → AB), gg + k = 60 ∧ k ≤ n ∧ s = .int .i64 (k : Int) ∧ Hid (Four w wr g S R B M b))
    case atStart => exact ⟨0, E4, by omega, by omega, rfl, HT3⟩
    case round =>
      clear HT3
      obtain ⟨k, b, hgk, hk, rfl, HT⟩ := hrel
      have hk60 : k ≤ 60 := by omega
      by_cases hgo : k < n ∧ k < 60
      · obtain ⟨hkn, hk2⟩ := hgo
        obtain ⟨ab, ao, rfl, hab, f0, f1, f2, f3, f4, hsrc⟩ := (HF0.out.below HT.out.bel) k hkn
        generalize F k = x at *
        have HSRC := Lib.hid hsrc
        have HW := Lib.hid HT.out.bel.size
        have habr : ab < wr.heap.size := Nat.lt_of_lt_of_le hab HT.out.bel.size
        have HL := Lib.hid (large_any x wr (Nat.le_trans hsrc.1.1 hsrc.1.2))
        clear hsrc hab
        cases hlb : largeB x
        · rw [hlb] at HL
          go_wp2_with fail
          refine HL.out.mono ?_
          rintro e w4 ⟨rfl, hb4⟩
          have g0 : w4.drew.cell? ⟨ab, ao + k * 5, none⟩ = some (.int .i64 x.kind) := (hb4.cell (p := ⟨ab, ao + k * 5, none⟩) habr).trans f0
          have g1 : w4.drew.cell? ⟨ab, ao + k * 5 + 1, none⟩ = some (.int .i64 x.who) := (hb4.cell (p := ⟨ab, ao + k * 5 + 1, none⟩) habr).trans f1
          have g2 : w4.drew.cell? ⟨ab, ao + k * 5 + 2, none⟩ = some (.int .i64 x.off) := (hb4.cell (p := ⟨ab, ao + k * 5 + 2, none⟩) habr).trans f2
          have g3 : w4.drew.cell? ⟨ab, ao + k * 5 + 3, none⟩ = some (.int .i64 x.num) := (hb4.cell (p := ⟨ab, ao + k * 5 + 3, none⟩) habr).trans f3
          have g4 : w4.drew.cell? ⟨ab, ao + k * 5 + 4, none⟩ = some (.slice x.A x.len x.cap) := (hb4.cell (p := ⟨ab, ao + k * 5 + 4, none⟩) habr).trans f4
          obtain ⟨kk, hkk, hwh⟩ := which x.who
          have HT4 := Lib.hid (HT.out.below hb4).drew
          have hc : w4.drew.cell? ⟨g, kk, none⟩ = some (Pq (B kk)) := HT4.out.arr kk hkk
          have hkki : (kk : Int) < 4 := by omega
          have HP := Lib.hid (four_play HT4.out hkk x (HSRC.out.below (Below.drew (hb4.mono HW.out))))
          have hab4 : ab < w4.heap.size := Nat.lt_of_lt_of_le habr hb4.size
          clear hb4 f0 f1 f2 f3 f4 habr HL hlb HT
          go_upto_region 12 with fail
          go_still_tail 13, (by kernel_rfl)
          change wpList _ _ _ _ _ w4.drew
          generalize w4.drew = w4d at *
          go_wp2_with fail
          refine HP.out.mono ?_
          rintro e w5 ⟨rfl, b', h5⟩
          have HT5 := Lib.hid h5
          clear h5 HP g0 g1 g2 g3 g4 hc HT4 hwh hab4
          go_wp2_with fail
          go_roundg (gk - 1)
          case measure => omega
          case rel => exact ⟨k + 1, _, by omega, by omega, by go_num, HT5⟩
        · rw [hlb] at HL
          go_wp2_with fail
          refine HL.out.mono ?_
          rintro e w4 ⟨rfl, hb4⟩
          have HB4 := Lib.hid (HT.out.below hb4).bel
          clear hb4
          go_wp2_with fail
          go_ret
          exact ⟨rfl, HB4.out⟩
      · have hsplit : (k < n ∧ k = 60) ∨ ¬ k < n := by omega
        clear hgo
        rcases hsplit with ⟨hkn, rfl⟩ | hkn
        all_goals
          have HG := Lib.hid (show g < wr.heap.size ∧ (∀ x, FP S 4 B M x → x < wr.heap.size) ∧ w.heap.size ≤ wr.heap.size from ⟨HT.out.glt, HT.out.F_lt, HT.out.bel.size⟩)
          have HT0 := Lib.hid (HT.out.below (below_one wr (.cells #[.slice none 0 0, .slice none 0 0, .slice none 0 0, .slice none 0 0] 58)))
          have HW0 := Lib.hid (was_new wr b)
          clear HT
          go_wp2_with fail
          generalize wr.alloc (.cells #[.slice none 0 0, .slice none 0 0, .slice none 0 0, .slice none 0 0] 58) = wv at *
          generalize wr.heap.size = hq9 at *
          go_loopg [74] 4 (fun g2 s wr => ∃ j : Nat, g2 + j = 4 ∧ s = .int .i64 (j : Int) ∧ Hid (Four w wr g S R B M b) ∧ Hid (Was wr hq9 (hq9 + 1) b j))
          case atStart => exact ⟨0, by omega, rfl, HT0, HW0⟩
          case round =>
            clear HT0 HW0
            obtain ⟨j, hgj, rfl, HJ, HA⟩ := hrel
            by_cases hj : j < 4
            · have hji : (j : Int) < 4 := by omega
              have c0 := HJ.out.arr j hj
              have HRD := Lib.hid (HJ.out.read hj)
              go_wp2_with fail
              refine HRD.out.mono ?_
              rintro e wx ⟨A1, c1, rfl, hr, hb⟩
              have HJ2 := Lib.hid (HJ.out.below hb)
              have HA2 := Lib.hid (HA.out.only (Only.of_below (F := fun _ => False) hb) (fun h => h) (fun _ h => h.elim))
              have HR2 := Lib.hid (hr.mono (lo' := hq9 + 1) HA.out.lt)
              obtain ⟨ov, hov⟩ := HA2.out.some_ j hj
              have hfz := HA2.out.fro j
              have HJ3 := Lib.hid (HJ2.out.other (set_only wx hq9 j (.slice A1 (b j).size c1)) (fun e => by have := HG.out.2.1 hq9 e; omega) (by have := HG.out.1; omega) HG.out.2.2)
              have HA3 := Lib.hid (HA2.out.put HR2.out hj (by omega))
              clear hr hb HRD c0 HJ HA HJ2 HA2 HR2
              go_wp2_with fail
              go_roundg (gk - 1)
              case measure => omega
              case rel => exact ⟨j + 1, by omega, by go_num, HJ3, HA3⟩
            · have hji : ¬ ((j : Int) < 4) := by omega
              obtain rfl : j = 4 := by omega
              have c0 := HJ.out.arr 0 (by omega)
              have HWR := Lib.hid (sys_write HJ.out.sys (k := 0) (by omega) off Ad nd cd fd ((HD0.out.below HJ.out.bel).inn HJ.out.bel.size HJ.out.lo) HD0.out.1.1 HD0.out.1.2)
              unfold SW at HWR
              go_wp2_with fail
              refine HWR.out.mono ?_
              rintro e wx ⟨p, err, rfl, hw, h2, ho2⟩
              have HJ2 := Lib.hid (HJ.out.step h2 ho2)
              have HA2 := Lib.hid (HA.out.only ho2 (fun e => by have := HG.out.2.1 hq9 e; omega) (fun x hx => by have := HG.out.2.1 x hx; omega))
              have HC := Lib.hid hw.cases
              have hb0 : updF b 0 (Go.Proofs.Ytpnnonphagddgaa.wr (b 0) off p fd) 0 = Go.Proofs.Ytpnnonphagddgaa.wr (b 0) off p fd := updF_same _ _ _
              have HOT := Lib.hid (show ∀ i, 0 < i → updF b 0 (Go.Proofs.Ytpnnonphagddgaa.wr (b 0) off p fd) i = b i from fun i hi => updF_other (by omega))
              generalize updF b 0 (Go.Proofs.Ytpnnonphagddgaa.wr (b 0) off p fd) = bb at *
              have HBB := Lib.hid hb0
              have HOK0 := Lib.hid (HJ.out.sys.bod 0 (by omega)).ok
              have HOK1 := Lib.hid (HJ2.out.sys.bod 0 (by omega)).ok
              have d0 := HJ2.out.arr 0 (by omega)
              have HRD := Lib.hid (HJ2.out.read (j := 0) (by omega))
              clear hw h2 ho2 HWR c0 HJ HA hb0
              go_wp2_with fail
              refine HRD.out.mono ?_
              rintro e wy ⟨A2, c2, rfl, hr, hb⟩
              have HJ3 := Lib.hid (HJ2.out.below hb)
              have HA3 := Lib.hid (HA2.out.only (Only.of_below (F := fun _ => False) hb) (fun h => h) (fun _ h => h.elim))
              have HR3 := Lib.hid hr
              obtain ⟨A0, c0, w0, hr0⟩ := HA3.out.row 0 (by omega)
              have HR0 := Lib.hid hr0
              clear hr hb HRD d0 HJ2 HA2 hr0
              rcases HC.out with hp | ⟨hp, he, ho0, ho1, hpl, hpo⟩
              · subst hp
                have hsame : bb 0 = b 0 := HBB.out.trans (wrB_zero _ _ _)
                have cv1 := HR3.out.conv
                have cv2 := HR0.out.conv
                rw [hsame] at cv1
                generalize strF (b 0).size (b 0).dat = str at cv1 cv2
                rw [hsame]
                clear hsame
                by_cases he : err = 0
                · subst he
                  go_wp2_with fail
                  go_ret
                  exact ⟨rfl, HJ3.out.bel⟩
                · have heb : (err != 0) = true := by simpa using he
                  have heb2 : (err == 0) = false := by simpa using he
                  have HE := Lib.hid he
                  clear he
                  go_wp2_with fail
                  go_ret
                  exact ⟨rfl, HJ3.out.bel⟩
              · subst he
                obtain ⟨s, hs⟩ : ∃ s : Nat, off = (s : Int) := ⟨off.toNat, by omega⟩
                have HSO := Lib.hid hs
                have hpb : ((p : Int) == 0) = false := by simp; omega
                have hp0 : ¬ ((p : Int) < 0) := by omega
                have hpn : ¬ ((nd : Int) < (p : Int)) := by omega
                have hpnd : decide (nd < p) = false := by simp; omega
                have HDAT := Lib.hid (show ∀ i, (bb 0).dat i = if s ≤ i ∧ i < s + p then fd (i - s) else (b 0).dat i from fun i => by
                  rw [HBB.out]; unfold Go.Proofs.Ytpnnonphagddgaa.wr wrB; rw [hs, Int.toNat_natCast]; rfl)
                have hsz : (bb 0).size = max (b 0).size (s + p) := by
                  rw [HBB.out]; unfold Go.Proofs.Ytpnnonphagddgaa.wr wrB; rw [hs, Int.toNat_natCast]; dsimp only; rw [if_neg (by omega)]
                have hz0 := HOK0.out.size
                have hz1 := HOK1.out.size
                obtain ⟨Z0, hZ0⟩ : ∃ Z0, Z0 = (b 0).size := ⟨_, rfl⟩
                obtain ⟨Z1, hZ1⟩ : ∃ Z1, Z1 = (bb 0).size := ⟨_, rfl⟩
                rw [← hZ0] at HR0 hsz hz0 w0
                rw [← hZ1] at HR3 hsz hz1 ⊢
                have HZD := Lib.hid (show ∀ i, Z0 ≤ i → (b 0).dat i = 0 from fun i hi => HOK0.out.dat i (by omega))
                have hz1i : (Z1 : Int) ≤ 65536 := by omega
                have HPL := Lib.hid (show 0 < p ∧ p ≤ nd ∧ Z1 = max Z0 (s + p) from ⟨hp, hpl, hsz⟩)
                have key : ((off + (p : Int) ≤ (Z0 : Int)) ∧ ((Z1 : Int) != (Z0 : Int)) = false) ∨ (¬ (off + (p : Int) ≤ (Z0 : Int)) ∧ ((Z1 : Int) != off + (p : Int)) = false) := by
                  by_cases h : off + (p : Int) ≤ (Z0 : Int)
                  · exact Or.inl ⟨h, by simp; omega⟩
                  · exact Or.inr ⟨h, by simp; omega⟩
                clear hs hsz hz0 hz1 hZ0 hZ1 hp hpl
                rcases key with ⟨hk1, hk2⟩ | ⟨hk1, hk2⟩
                all_goals
                  go_wp2_with fail
                  go_loopg [142] Z1 (fun g2 s wu => ∃ i : Nat, g2 + i = Z1 ∧ s = .int .i64 (i : Int) ∧ wy = wu)
                  case atStart => exact ⟨0, by omega, rfl, rfl⟩
                  case round =>
                    obtain ⟨i, hgi, rfl, rfl⟩ := hrel
                    by_cases hi : i < Z1
                    · have hii : (i : Int) < (Z1 : Int) := by omega
                      obtain ⟨g3, rfl, e3⟩ := HR3.out.at hi
                      rw [HDAT.out i] at e3
                      by_cases hr1 : s ≤ i ∧ i < s + p
                      · obtain ⟨t, ht⟩ : ∃ t, t = i - s := ⟨_, rfl⟩
                        have htn : t < nd := by have := HPL.out.2.1; omega
                        have hq : (i : Int) - off = (t : Int) := by have := HSO.out; omega
                        have htp : (t : Int) < (p : Int) := by omega
                        have htp2 : decide (t < p) = true := by simp; omega
                        rw [if_pos hr1, ← ht] at e3
                        obtain ⟨db, dof, rfl, hdb, hdc⟩ := (HD0.out.below HJ3.out.bel).2 t htn
                        unfold U8 at hdc
                        have htni : (t : Int) < (nd : Int) := by omega
                        generalize fd t = u at *
                        clear ht hr1 htn
                        by_cases hw : i < Z0
                        · obtain ⟨g0, rfl, e0⟩ := HR0.out.at hw
                          have hwi : (i : Int) < (Z0 : Int) := by omega
                          go_wp2_with fail
                          go_roundg (gk - 1)
                          case measure => omega
                          case rel => exact ⟨i + 1, by omega, by go_num, rfl⟩
                        · have hwi : ¬ ((i : Int) < (Z0 : Int)) := by omega
                          go_wp2_with fail
                          go_roundg (gk - 1)
                          case measure => omega
                          case rel => exact ⟨i + 1, by omega, by go_num, rfl⟩
                      · rw [if_neg hr1] at e3
                        have hq : ¬ (0 ≤ (i : Int) - off) ∨ (0 ≤ (i : Int) - off ∧ ¬ ((i : Int) - off < (p : Int))) := by have := HSO.out; omega
                        by_cases hw : i < Z0
                        · obtain ⟨g0, rfl, e0⟩ := HR0.out.at hw
                          have hwi : (i : Int) < (Z0 : Int) := by omega
                          generalize (b 0).dat i = u at *
                          clear hr1
                          rcases hq with hq | ⟨hq, hq2⟩
                          all_goals
                            go_wp2_with fail
                            all_goals
                              go_roundg (gk - 1)
                              case measure => omega
                              case rel => exact ⟨i + 1, by omega, by go_num, rfl⟩
                        · have hwi : ¬ ((i : Int) < (Z0 : Int)) := by omega
                          rw [HZD.out i (by omega)] at e3
                          have e3z : wy.cell? ⟨g3, i, none⟩ = some (.int .u8 0) := e3
                          clear hr1 e3
                          rcases hq with hq | ⟨hq, hq2⟩
                          all_goals
                            go_wp2_with fail
                            all_goals
                              go_roundg (gk - 1)
                              case measure => omega
                              case rel => exact ⟨i + 1, by omega, by go_num, rfl⟩
                    · have hii : ¬ ((i : Int) < (Z1 : Int)) := by omega
                      clear w0
                      go_wp2_with fail
                      go_loopg [21] 3 (fun g2 s wr => ∃ j : Nat, g2 + j = 4 ∧ 1 ≤ j ∧ s = .int .i64 (j : Int) ∧ Hid (Four w wr g S R B M bb) ∧ Hid (Was wr hq9 (hq9 + 1) b 4))
                      case atStart => exact ⟨1, by omega, by omega, rfl, HJ3, HA3⟩
                      case round =>
                        clear HJ3 HA3
                        obtain ⟨j, hgj, hj1, rfl, HJ, HA⟩ := hrel
                        by_cases hj : j < 4
                        · have hji : (j : Int) < 4 := by omega
                          have c0 := HJ.out.arr j hj
                          have HRD := Lib.hid (HJ.out.read hj)
                          rw [HOT.out j hj1] at HRD
                          go_wp2_with fail
                          refine HRD.out.mono ?_
                          rintro e wx ⟨A1, c1, rfl, hr, hb⟩
                          have HJ2 := Lib.hid (HJ.out.below hb)
                          have HA2 := Lib.hid (HA.out.only (Only.of_below (F := fun _ => False) hb) (fun h => h) (fun _ h => h.elim))
                          obtain ⟨A2, c2, hwc, hr2⟩ := HA2.out.row j hj
                          have cv1 : (convert 33 9 (.slice A1 (b j).size c1)).run Try.prog wx.drew = .ok (.string (strF (b j).size (b j).dat)) wx.drew := Row.conv (w := wx.drew) hr
                          have cv2 : (convert 33 9 (.slice A2 (b j).size c2)).run Try.prog wx.drew = .ok (.string (strF (b j).size (b j).dat)) wx.drew := Row.conv (w := wx.drew) hr2
                          have hwd : wx.drew.cell? ⟨hq9, j, none⟩ = some (.slice A2 (b j).size c2) := hwc
                          generalize strF (b j).size (b j).dat = str at cv1 cv2
                          have HJ3 := Lib.hid HJ2.out.drew
                          have HA3 := Lib.hid (HA2.out.only (Only.of_below (F := fun _ => False) (Below.refl _ _).drew) (fun h => h) (fun _ h => h.elim))
                          clear hr hr2 hb HRD c0 HJ HA hwc HJ2 HA2
                          go_wp2_with fail
                          go_region
                          go_wp2_with fail
                          go_roundg (4 - (j + 1))
                          case measure => omega
                          case rel => exact ⟨j + 1, by omega, by omega, by go_num, HJ3, HA3⟩
                        · have hji : ¬ ((j : Int) < 4) := by omega
                          go_wp2_with fail
                          go_ret
                          exact ⟨rfl, HJ.out.bel⟩
  · have hbad : room < 0 ∨ 65536 < room := by omega
    have HN := Lib.hid (new_no room w1 hbad)
    clear hr hbad
    go_wp2_with fail
    refine HN.out.mono ?_
    rintro e w2 ⟨rfl, rfl⟩
    go_wp2_with fail
    go_ret
    exact ⟨rfl, HB1.out⟩

set_option maxRecDepth 100000 in
theorem lifted (os : Os) (started : os.Started) (H : Type) (enc : TypeId × Value → H) :
    ReturnsInHanded {} Try.checked os 5 .any (Rows.blockKeepsSpec.pre6 enc Try.prog Try.f5 Rows.blockKeepsRow.domain false) (Rows.blockKeepsSpec.post enc Try.prog Try.f5 false true false false) := by
  refine returnsInHanded_of_change (C := Try.checked) own started (by kernel_rfl) Try.func5
    (ChangeSpec.witness6 (enc := enc) (C := Try.checked) false ⟨#[], #[.int .i64 0, .slice none 0 0, .int .i64 0, .slice none 0 0], []⟩ 8 (by kernel_rfl) (by kernel_rfl) (by kernel_rfl) (by kernel_rfl)) ?_
  intro W base args ds gs before hval0 hW hcnd _
  have hval : ∀ (j : Nat) t v, Try.f5.params[j]? = some t → args[j]? = some v → Value.okWide Try.prog W .any base t v := hval0
  have hW' := hW
  obtain ⟨p, q, hA0, hV, rfl, hfz, hnd⟩ := hW
  have hA : DataW.TrodAll enc Try.prog W 0 (fun _ => true) true Try.f5.params.toList args.toList ds p := hA0
  rw [Try.params5] at hA hval
  obtain ⟨v0, vs0, d0, ds0, p0, q0, hargs, rfl, rfl, h0, r0⟩ := trodAll_cons hA
  obtain ⟨v1, vs1, d1, ds1, p1, q1, rfl, rfl, rfl, h1, r1⟩ := trodAll_cons r0
  obtain ⟨v2, vs2, d2, ds2, p2, q2, rfl, rfl, rfl, h2, r2⟩ := trodAll_cons r1
  obtain ⟨v3, vs3, d3, ds3, p3, q3, rfl, rfl, rfl, h3, r3⟩ := trodAll_cons r2
  obtain ⟨rfl, rfl, rfl⟩ := trodAll_nil r3
  obtain rfl : args = #[v0, v1, v2, v3] := by cases args; simp_all
  obtain ⟨rfl, rfl⟩ := trodVars_none hV
  have hlt := fun x hx => hW'.lt x hx
  obtain ⟨a0, rfl, rfl, rfl, w0⟩ := open_int Try.underlying3 (hval 0 3 v0 rfl rfl) h0
  have t1 := h1
  obtain ⟨A1, n1, c1, x1, rfl, e1, s1⟩ := open_acts (hval 1 22 v1 rfl rfl) h1
  obtain ⟨a2, rfl, rfl, rfl, w2⟩ := open_int Try.underlying2 (hval 2 2 v2 rfl rfl) h2
  have t3 := h3
  obtain ⟨A3, n3, c3, x3, rfl, s3⟩ := open_bytes (hval 3 33 v3 rfl rfl) h3
  clear hA0 hval0
  refine (walk a0 A1 n1 c1 x1 a2 A3 n3 c3 x3 W e1 s1 s3).mono fun e W' ⟨he, hg⟩ => ?_
  subst he
  exact ⟨_, rfl, law_post (pv := []) hW' (fun _ _ _ => (trodAll_cons_mk (shut_bool Try.underlying4 _) trodAll_mk0)) (fun sp hsp => (trodAll_cons_mk (shut_int Try.underlying3 w0) (trodAll_cons_mk (arg_stays (by decide) t1 hg (by simp +contextual) hlt hsp laid) (trodAll_cons_mk (shut_int Try.underlying2 w2) (trodAll_cons_mk (arg_stays (by decide) t3 hg (by simp +contextual) hlt hsp laid) trodAll_mk0))))) (fun _ _ => rfl) (by simp)
    hg (ok_one (by kernel_rfl) rfl (okWide_bool_mk Try.underlying4 _))⟩

theorem over : Rows.blockKeepsRow.holds Try.pinned (OpenSpec.ofChange Rows.blockKeepsSpec) :=
  OpenClaim.holds_of_wide 5 Try.f5 rfl rfl rfl rfl rfl rfl rfl ⟨rfl, rfl, rfl, rfl, rfl⟩ rfl rfl rfl rfl rfl (by kernel_rfl) Try.func5 (by kernel_rfl)
    (of_decide_eq_true (by kernel_rfl)) (by unfold Func.isWrapper; first | (rw [if_pos (by decide +kernel)]; kernel_rfl) | (rw [if_neg (by decide +kernel)]; exact ⟨rfl, rfl⟩))
    (fun os started H enc _ => lifted os started H enc)

/-- The statement. -/
theorem proved : Rows.BlockKeepsSaid :=
  over
end Go.Proofs.Ytpnnonphagddgaa.blockKeeps
