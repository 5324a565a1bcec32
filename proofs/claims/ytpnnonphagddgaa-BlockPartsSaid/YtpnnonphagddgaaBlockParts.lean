/- For every place, any bytes and wherever they are parted the law BlockParts returns true, and what is handed in reads as it did; there are no conditions. -/
import Derived.Test.YtpnnonphagddgaaParts
import Derived.Deep.RegionWith
import Derived.ProofKit
import Derived.OpenShut
namespace Go.Proofs.Ytpnnonphagddgaa.blockParts
open Go.ChangeShapes Go.WideShapes Go.ChangeAt Go.RowKit
set_option linter.unusedVariables false

theorem own : ownKnob Try.prog.godebug = none := by kernel_rfl
theorem laid : laidOutB Try.prog = true := by kernel_rfl

set_option maxHeartbeats 8000000 in
set_option maxRecDepth 100000 in
theorem walk (off : Int) (A : Option Addr) (nd cd : Nat) (f : Nat → UInt8) (at16 : Int) (w : World) (hd : Src w w.heap.size A nd cd f) (hat : (Lit.int .u16 at16).wf = true) :
    Calls Try.prog 7 #[.int .i64 off, .slice A nd cd, .int .u16 at16] w (AwakeE w) := by
  have hat' := wf16 hat
  obtain ⟨ha0, ha1⟩ := hat'
  have HD0 := Lib.hid hd
  have hndm : (nd : Int) ≤ 9223372036854775807 := by have := hd.1.1; have := hd.1.2; unfold maxLen at this; omega
  have hcdm : (cd : Int) ≤ 9223372036854775807 := by have := hd.1.2; unfold maxLen at this; omega
  have hndc : nd ≤ cd := hd.1.1
  clear hd hat
  go_enter Try.func7, Try.ntmps7
  go_wp2_with fail
  refine (awake_any _).mono ?_
  rintro e w1 ⟨rfl, hb1⟩
  have HB1 := Lib.hid hb1
  clear hb1
  by_cases hbig : 4096 < (nd : Int)
  · have hbd : decide (4096 < nd) = true := by simp; omega
    go_wp2_with fail
    go_ret
    exact ⟨rfl, HB1.out⟩
  have hbd : decide (4096 < nd) = false := by simp; omega
  by_cases ho0 : off < 0
  · go_wp2_with fail
    go_ret
    exact ⟨rfl, HB1.out⟩
  by_cases ho1 : 65536 < off
  · go_wp2_with fail
    go_ret
    exact ⟨rfl, HB1.out⟩
  have ho2 : off ≤ 65536 := by omega
  have ho3 : 0 ≤ off := by omega
  obtain ⟨K, hK⟩ : ∃ K : Nat, K = min at16.toNat nd := ⟨_, rfl⟩
  have hKn : K ≤ nd := by omega
  have hKi : (K : Int) ≤ 65536 := by omega
  have key : (at16 = (K : Int) ∧ at16 ≤ (nd : Int)) ∨ (K = nd ∧ ¬ at16 ≤ (nd : Int)) := by omega
  have HKN := Lib.hid (show K ≤ nd ∧ nd ≤ cd ∧ nd ≤ 4096 from ⟨hKn, hndc, by omega⟩)
  have hKn2 : (K : Int) ≤ (nd : Int) := by omega
  have hKc2 : (K : Int) ≤ (cd : Int) := by omega
  have hnc2 : (nd : Int) ≤ (cd : Int) := by omega
  have HNEW := Lib.hid (fun (v : World) => new_yes 65536 v (Nat.le_refl _))
  clear hK hndc hKn
  rcases key with ⟨rfl, hle⟩ | ⟨rfl, hle⟩
  · by_cases hn0 : nd = 0
    · subst hn0
      obtain rfl : K = 0 := by have := HKN.out; omega
      cases A with
      | none =>
        · go_wp2_with fail
          refine (HNEW.out _).mono ?_
          rintro e w2 ⟨rfl, hw2⟩
          have HS2 := Lib.hid (one_new (Nat.le_refl _) hw2)
          have HB2 := Lib.hid (show Below w.heap.size w w2 by rw [hw2]; exact HB1.out.alloc HB1.out.size _)
          have HZ2 := Lib.hid (show w2.heap.size = w1.heap.size + 1 by rw [hw2]; simp)
          clear hw2
          go_wp2_with fail
          refine (HNEW.out _).mono ?_
          rintro e w3 ⟨rfl, hw3⟩
          have HX3 := Lib.hid (one_new (Nat.le_refl _) hw3)
          have hb3 : Below w2.heap.size w2 w3 := by rw [hw3]; exact below_one _ _
          have HS3 := Lib.hid (HS2.out.below hb3)
          have HB3 := Lib.hid (below_step HB2.out (hb3.mono HB2.out.size))
          have HZ3 := Lib.hid (show w3.heap.size = w2.heap.size + 1 by rw [hw3]; simp)
          clear hw3 hb3 HS2
          go_wp2_with fail
          refine (one_body HS3.out).mono ?_
          rintro e w4 ⟨rfl, h4, hb4⟩
          have HA4 := Lib.hid h4
          have HX4 := Lib.hid (HX3.out.below hb4)
          have HB4 := Lib.hid (below_step HB3.out (hb4.mono HB3.out.size))
          clear h4 hb4 HS3 HX3
          go_wp2_with fail
          refine (one_body HX4.out).mono ?_
          rintro e w5 ⟨rfl, h5, hb5⟩
          have HC5 := Lib.hid h5
          have HA5 := Lib.hid (HA4.out.below hb5)
          have HB5 := Lib.hid (below_step HB4.out (hb5.mono HB4.out.size))
          have HFA := Lib.hid (show ∀ x, F1 w1.heap.size (w3.heap.size + 1) w3.heap.size x → w.heap.size ≤ x from fun x hx => by
            have := HB1.out.size
            have := HB3.out.size
            rcases F1_or.1 hx with e | e | e <;> omega)
          have HFC := Lib.hid (show ∀ x, F1 w2.heap.size (w4.heap.size + 1) w4.heap.size x → w.heap.size ≤ x from fun x hx => by
            have := HB2.out.size
            have := HB4.out.size
            rcases F1_or.1 hx with e | e | e <;> omega)
          have HFD := Lib.hid (show ∀ x, F1 w1.heap.size (w3.heap.size + 1) w3.heap.size x → ¬ F1 w2.heap.size (w4.heap.size + 1) w4.heap.size x from fun x hx hy => by
            have h2 := HZ2.out
            have h3 := HZ3.out
            have h4 := HA4.out.F_lt x hx
            rcases F1_or.1 hx with e | e | e <;> rcases F1_or.1 hy with d | d | d <;> omega)
          clear h5 hb5 HA4 HX4
          generalize w1.heap.size = S at *
          generalize w2.heap.size = T at *
          generalize w3.heap.size + 1 = P at *
          generalize w3.heap.size = Q at *
          generalize w4.heap.size + 1 = P2 at *
          generalize w4.heap.size = Q2 at *
          clear HZ2 HZ3 HB1 HB2 HB3 HB4
          have HWA := Lib.hid (one_write HA5.out off none 0 cd f ((HD0.out.below HB5.out).inn HB5.out.size HFA.out) HD0.out.1.1 HD0.out.1.2)
          go_wp2_with fail
          refine HWA.out.mono ?_
          rintro e w6 ⟨p1, err1, rfl, hw6, h6, ho6⟩
          have hp1 := WR_full hw6 ho3
          subst hp1
          have HA6 := Lib.hid h6
          have HC6 := Lib.hid (show One w6 T 65536 P2 Q2 AB.empty from Sys.keep HC5.out ho6 (fun x hx hf => HFD.out x hf hx))
          have HB6 := Lib.hid (ho6.below HB5.out (Nat.le_refl _) HFA.out)
          clear hw6 h6 ho6 HWA HA5 HC5 HB5
          have hby : BytesIn w6 (F1 T P2 Q2) none 0 f := fun i hi => ((HD0.out.below HB6.out).inn (F := F1 T P2 Q2) HB6.out.size HFC.out) i (Nat.lt_of_lt_of_le hi HKN.out.1)
          have hle1 : 0 ≤ cd := Nat.le_trans HKN.out.1 HKN.out.2.1
          have HWB := Lib.hid (one_write HC6.out off none 0 cd f hby hle1 HD0.out.1.2)
          clear hby hle1
          go_wp2_with fail
          refine HWB.out.mono ?_
          rintro e w7 ⟨p2, err2, rfl, hw7, h7, ho7⟩
          have hp2 := WR_full hw7 ho3
          subst hp2
          have HC7 := Lib.hid h7
          have HA7 := Lib.hid (show One w7 S 65536 P Q (Go.Proofs.Ytpnnonphagddgaa.wr AB.empty off (full off 0) f) from Sys.keep HA6.out ho7 HFD.out)
          have HB7 := Lib.hid (ho7.below HB6.out (Nat.le_refl _) HFC.out)
          clear hw7 h7 ho7 HWB HA6 HC6 HB6
          have hby : BytesIn w7 (F1 T P2 Q2) none 0 (fun i => f (0 + i)) := fun i hi => absurd hi (Nat.not_lt_zero _)
          have hle1 : 0 ≤ cd := by have := HKN.out; omega
          have hle2 : cd ≤ maxLen := Nat.le_trans (by omega) HD0.out.1.2
          have HWC := Lib.hid (one_write HC7.out (off) none 0 cd (fun i => f (0 + i)) hby hle1 hle2)
          clear hby hle1 hle2
          go_wp2_with fail
          refine HWC.out.mono ?_
          rintro e w8 ⟨p3, err3, rfl, hw8, h8, ho8⟩
          have hp3 := WR_full hw8 (by omega)
          subst hp3
          have hEQ : Go.Proofs.Ytpnnonphagddgaa.wr (Go.Proofs.Ytpnnonphagddgaa.wr AB.empty off (full off 0) f) (off) (full (off) (0)) (fun i => f (0 + i)) = Go.Proofs.Ytpnnonphagddgaa.wr AB.empty off (full off 0) f := by have := parts_eq (len := 0) (k := 0) ho3 ho2 (Nat.le_refl _) f; simpa using this
          rw [hEQ] at h8
          have HC8 := Lib.hid h8
          have HA8 := Lib.hid (show One w8 S 65536 P Q (Go.Proofs.Ytpnnonphagddgaa.wr AB.empty off (full off 0) f) from Sys.keep HA7.out ho8 HFD.out)
          have HB8 := Lib.hid (ho8.below HB7.out (Nat.le_refl _) HFC.out)
          clear hw8 h8 ho8 HWC HA7 HC7 HB7 hEQ
          generalize Go.Proofs.Ytpnnonphagddgaa.wr AB.empty off (full off 0) f = ba at *
          have HOK := Lib.hid HA8.out.ok
          have HRA := Lib.hid (one_read HA8.out 0 65536)
          unfold ReadE at HRA
          rw [readR_all HOK.out] at HRA
          go_wp2_with fail
          refine HRA.out.mono ?_
          rintro e w9 ⟨A9, c9, rfl, hr9, hb9⟩
          have HA9 := Lib.hid (HA8.out.below hb9)
          have HC9 := Lib.hid (HC8.out.below hb9)
          have HB9 := Lib.hid (below_step HB8.out (hb9.mono HB8.out.size))
          have HR9 := Lib.hid hr9
          clear hr9 hb9 HRA HA8 HC8
          have HRC := Lib.hid (one_read HC9.out 0 65536)
          unfold ReadE at HRC
          rw [readR_all HOK.out] at HRC
          go_wp2_with fail
          refine HRC.out.mono ?_
          rintro e w10 ⟨A10, c10, rfl, hr10, hb10⟩
          have HA10 := Lib.hid (HA9.out.below hb10)
          have HC10 := Lib.hid (HC9.out.below hb10)
          have HB10 := Lib.hid (below_step HB9.out (hb10.mono HB9.out.size))
          have cv1 := (HR9.out.only (Only.of_below (F := fun _ => False) hb10) (fun _ h => h.elim)).conv
          have cv2 := hr10.conv
          generalize strF ba.size (fun j => ba.dat ((0 : Int).toNat + j)) = str at cv1 cv2
          have HCA := Lib.hid (one_chunks HA10.out)
          have HCC := Lib.hid (one_chunks HC10.out)
          have HUA := Lib.hid (one_used HA10.out)
          have HUC := Lib.hid (one_used HC10.out)
          have HHA := Lib.hid (one_holes HA10.out)
          clear hr10 hb10 HRC HR9 HA9 HC9
          go_wp2_with fail
          refine HCA.out.mono ?_
          rintro e w11 ⟨rfl, rfl⟩
          go_wp2_with fail
          refine HCC.out.mono ?_
          rintro e w11 ⟨rfl, rfl⟩
          go_wp2_with fail
          refine HUA.out.mono ?_
          rintro e w11 ⟨rfl, rfl⟩
          go_wp2_with fail
          refine HUC.out.mono ?_
          rintro e w11 ⟨rfl, rfl⟩
          obtain ⟨L, hL⟩ : ∃ L, L = holesL ((ba.size + 15) / 16) ba.th := ⟨_, rfl⟩
          have HHL := Lib.hid (show L.length ≤ 4096 by rw [hL]; have := holesL_le ((ba.size + 15) / 16) ba.th; have := HOK.out.size; omega)
          rw [← hL] at HHA
          have HL := Lib.hid hL
          clear hL cv1 cv2 HCA HCC HUA HUC
          go_wp2_with fail
          refine HHA.out.mono ?_
          rintro e w11 ⟨v, rfl, hown, hb11⟩
          obtain ⟨A11, c11, rfl⟩ := own_slice hown
          have HO11 := Lib.hid hown
          have HB11 := Lib.hid (below_step HB10.out (hb11.mono HB10.out.size))
          have HC11 := Lib.hid (HC10.out.below hb11)
          have HHC := Lib.hid (one_holes HC11.out)
          rw [← HL.out] at HHC
          clear hown hb11 HHA
          go_wp2_with fail
          refine HHC.out.mono ?_
          rintro e w12 ⟨v, rfl, hown, hb12⟩
          obtain ⟨A12, c12, rfl⟩ := own_slice hown
          have HB12 := Lib.hid (below_step HB11.out (hb12.mono HB11.out.size))
          have hown2 := HO11.out.kept (w' := w12) (row := none) ⟨hb12.os, hb12.tape, hb12.output, hb12.size, fun k hk _ => hb12.block k hk⟩ (Classical.em _)
          have HIN := Lib.hid (ints_same w12 L.length c11 c12 _ _ A11 A12 L rfl HHL.out hown2 hown)
          clear hown hb12 HHC hown2
          go_wp2_with fail
          refine HIN.out.mono ?_
          rintro e w13 ⟨rfl, hb13⟩
          have HB13 := Lib.hid (below_step HB12.out (hb13.mono HB12.out.size))
          clear hb13 HIN
          go_wp2_with fail
          go_ret
          exact ⟨rfl, HB13.out⟩
      | some a =>
        · go_wp2_with fail
          refine (HNEW.out _).mono ?_
          rintro e w2 ⟨rfl, hw2⟩
          have HS2 := Lib.hid (one_new (Nat.le_refl _) hw2)
          have HB2 := Lib.hid (show Below w.heap.size w w2 by rw [hw2]; exact HB1.out.alloc HB1.out.size _)
          have HZ2 := Lib.hid (show w2.heap.size = w1.heap.size + 1 by rw [hw2]; simp)
          clear hw2
          go_wp2_with fail
          refine (HNEW.out _).mono ?_
          rintro e w3 ⟨rfl, hw3⟩
          have HX3 := Lib.hid (one_new (Nat.le_refl _) hw3)
          have hb3 : Below w2.heap.size w2 w3 := by rw [hw3]; exact below_one _ _
          have HS3 := Lib.hid (HS2.out.below hb3)
          have HB3 := Lib.hid (below_step HB2.out (hb3.mono HB2.out.size))
          have HZ3 := Lib.hid (show w3.heap.size = w2.heap.size + 1 by rw [hw3]; simp)
          clear hw3 hb3 HS2
          go_wp2_with fail
          refine (one_body HS3.out).mono ?_
          rintro e w4 ⟨rfl, h4, hb4⟩
          have HA4 := Lib.hid h4
          have HX4 := Lib.hid (HX3.out.below hb4)
          have HB4 := Lib.hid (below_step HB3.out (hb4.mono HB3.out.size))
          clear h4 hb4 HS3 HX3
          go_wp2_with fail
          refine (one_body HX4.out).mono ?_
          rintro e w5 ⟨rfl, h5, hb5⟩
          have HC5 := Lib.hid h5
          have HA5 := Lib.hid (HA4.out.below hb5)
          have HB5 := Lib.hid (below_step HB4.out (hb5.mono HB4.out.size))
          have HFA := Lib.hid (show ∀ x, F1 w1.heap.size (w3.heap.size + 1) w3.heap.size x → w.heap.size ≤ x from fun x hx => by
            have := HB1.out.size
            have := HB3.out.size
            rcases F1_or.1 hx with e | e | e <;> omega)
          have HFC := Lib.hid (show ∀ x, F1 w2.heap.size (w4.heap.size + 1) w4.heap.size x → w.heap.size ≤ x from fun x hx => by
            have := HB2.out.size
            have := HB4.out.size
            rcases F1_or.1 hx with e | e | e <;> omega)
          have HFD := Lib.hid (show ∀ x, F1 w1.heap.size (w3.heap.size + 1) w3.heap.size x → ¬ F1 w2.heap.size (w4.heap.size + 1) w4.heap.size x from fun x hx hy => by
            have h2 := HZ2.out
            have h3 := HZ3.out
            have h4 := HA4.out.F_lt x hx
            rcases F1_or.1 hx with e | e | e <;> rcases F1_or.1 hy with d | d | d <;> omega)
          clear h5 hb5 HA4 HX4
          generalize w1.heap.size = S at *
          generalize w2.heap.size = T at *
          generalize w3.heap.size + 1 = P at *
          generalize w3.heap.size = Q at *
          generalize w4.heap.size + 1 = P2 at *
          generalize w4.heap.size = Q2 at *
          clear HZ2 HZ3 HB1 HB2 HB3 HB4
          have HWA := Lib.hid (one_write HA5.out off (some a) 0 cd f ((HD0.out.below HB5.out).inn HB5.out.size HFA.out) HD0.out.1.1 HD0.out.1.2)
          go_wp2_with fail
          refine HWA.out.mono ?_
          rintro e w6 ⟨p1, err1, rfl, hw6, h6, ho6⟩
          have hp1 := WR_full hw6 ho3
          subst hp1
          have HA6 := Lib.hid h6
          have HC6 := Lib.hid (show One w6 T 65536 P2 Q2 AB.empty from Sys.keep HC5.out ho6 (fun x hx hf => HFD.out x hf hx))
          have HB6 := Lib.hid (ho6.below HB5.out (Nat.le_refl _) HFA.out)
          clear hw6 h6 ho6 HWA HA5 HC5 HB5
          have hby : BytesIn w6 (F1 T P2 Q2) (some a) 0 f := fun i hi => ((HD0.out.below HB6.out).inn (F := F1 T P2 Q2) HB6.out.size HFC.out) i (Nat.lt_of_lt_of_le hi HKN.out.1)
          have hle1 : 0 ≤ cd := Nat.le_trans HKN.out.1 HKN.out.2.1
          have HWB := Lib.hid (one_write HC6.out off (some a) 0 cd f hby hle1 HD0.out.1.2)
          clear hby hle1
          go_wp2_with fail
          refine HWB.out.mono ?_
          rintro e w7 ⟨p2, err2, rfl, hw7, h7, ho7⟩
          have hp2 := WR_full hw7 ho3
          subst hp2
          have HC7 := Lib.hid h7
          have HA7 := Lib.hid (show One w7 S 65536 P Q (Go.Proofs.Ytpnnonphagddgaa.wr AB.empty off (full off 0) f) from Sys.keep HA6.out ho7 HFD.out)
          have HB7 := Lib.hid (ho7.below HB6.out (Nat.le_refl _) HFC.out)
          clear hw7 h7 ho7 HWB HA6 HC6 HB6
          have hby : BytesIn w7 (F1 T P2 Q2) (some a) 0 (fun i => f (0 + i)) := fun i hi => absurd hi (Nat.not_lt_zero _)
          have hle1 : 0 ≤ cd := by have := HKN.out; omega
          have hle2 : cd ≤ maxLen := Nat.le_trans (by omega) HD0.out.1.2
          have HWC := Lib.hid (one_write HC7.out (off) (some a) 0 cd (fun i => f (0 + i)) hby hle1 hle2)
          clear hby hle1 hle2
          go_wp2_with fail
          refine HWC.out.mono ?_
          rintro e w8 ⟨p3, err3, rfl, hw8, h8, ho8⟩
          have hp3 := WR_full hw8 (by omega)
          subst hp3
          have hEQ : Go.Proofs.Ytpnnonphagddgaa.wr (Go.Proofs.Ytpnnonphagddgaa.wr AB.empty off (full off 0) f) (off) (full (off) (0)) (fun i => f (0 + i)) = Go.Proofs.Ytpnnonphagddgaa.wr AB.empty off (full off 0) f := by have := parts_eq (len := 0) (k := 0) ho3 ho2 (Nat.le_refl _) f; simpa using this
          rw [hEQ] at h8
          have HC8 := Lib.hid h8
          have HA8 := Lib.hid (show One w8 S 65536 P Q (Go.Proofs.Ytpnnonphagddgaa.wr AB.empty off (full off 0) f) from Sys.keep HA7.out ho8 HFD.out)
          have HB8 := Lib.hid (ho8.below HB7.out (Nat.le_refl _) HFC.out)
          clear hw8 h8 ho8 HWC HA7 HC7 HB7 hEQ
          generalize Go.Proofs.Ytpnnonphagddgaa.wr AB.empty off (full off 0) f = ba at *
          have HOK := Lib.hid HA8.out.ok
          have HRA := Lib.hid (one_read HA8.out 0 65536)
          unfold ReadE at HRA
          rw [readR_all HOK.out] at HRA
          go_wp2_with fail
          refine HRA.out.mono ?_
          rintro e w9 ⟨A9, c9, rfl, hr9, hb9⟩
          have HA9 := Lib.hid (HA8.out.below hb9)
          have HC9 := Lib.hid (HC8.out.below hb9)
          have HB9 := Lib.hid (below_step HB8.out (hb9.mono HB8.out.size))
          have HR9 := Lib.hid hr9
          clear hr9 hb9 HRA HA8 HC8
          have HRC := Lib.hid (one_read HC9.out 0 65536)
          unfold ReadE at HRC
          rw [readR_all HOK.out] at HRC
          go_wp2_with fail
          refine HRC.out.mono ?_
          rintro e w10 ⟨A10, c10, rfl, hr10, hb10⟩
          have HA10 := Lib.hid (HA9.out.below hb10)
          have HC10 := Lib.hid (HC9.out.below hb10)
          have HB10 := Lib.hid (below_step HB9.out (hb10.mono HB9.out.size))
          have cv1 := (HR9.out.only (Only.of_below (F := fun _ => False) hb10) (fun _ h => h.elim)).conv
          have cv2 := hr10.conv
          generalize strF ba.size (fun j => ba.dat ((0 : Int).toNat + j)) = str at cv1 cv2
          have HCA := Lib.hid (one_chunks HA10.out)
          have HCC := Lib.hid (one_chunks HC10.out)
          have HUA := Lib.hid (one_used HA10.out)
          have HUC := Lib.hid (one_used HC10.out)
          have HHA := Lib.hid (one_holes HA10.out)
          clear hr10 hb10 HRC HR9 HA9 HC9
          go_wp2_with fail
          refine HCA.out.mono ?_
          rintro e w11 ⟨rfl, rfl⟩
          go_wp2_with fail
          refine HCC.out.mono ?_
          rintro e w11 ⟨rfl, rfl⟩
          go_wp2_with fail
          refine HUA.out.mono ?_
          rintro e w11 ⟨rfl, rfl⟩
          go_wp2_with fail
          refine HUC.out.mono ?_
          rintro e w11 ⟨rfl, rfl⟩
          obtain ⟨L, hL⟩ : ∃ L, L = holesL ((ba.size + 15) / 16) ba.th := ⟨_, rfl⟩
          have HHL := Lib.hid (show L.length ≤ 4096 by rw [hL]; have := holesL_le ((ba.size + 15) / 16) ba.th; have := HOK.out.size; omega)
          rw [← hL] at HHA
          have HL := Lib.hid hL
          clear hL cv1 cv2 HCA HCC HUA HUC
          go_wp2_with fail
          refine HHA.out.mono ?_
          rintro e w11 ⟨v, rfl, hown, hb11⟩
          obtain ⟨A11, c11, rfl⟩ := own_slice hown
          have HO11 := Lib.hid hown
          have HB11 := Lib.hid (below_step HB10.out (hb11.mono HB10.out.size))
          have HC11 := Lib.hid (HC10.out.below hb11)
          have HHC := Lib.hid (one_holes HC11.out)
          rw [← HL.out] at HHC
          clear hown hb11 HHA
          go_wp2_with fail
          refine HHC.out.mono ?_
          rintro e w12 ⟨v, rfl, hown, hb12⟩
          obtain ⟨A12, c12, rfl⟩ := own_slice hown
          have HB12 := Lib.hid (below_step HB11.out (hb12.mono HB11.out.size))
          have hown2 := HO11.out.kept (w' := w12) (row := none) ⟨hb12.os, hb12.tape, hb12.output, hb12.size, fun k hk _ => hb12.block k hk⟩ (Classical.em _)
          have HIN := Lib.hid (ints_same w12 L.length c11 c12 _ _ A11 A12 L rfl HHL.out hown2 hown)
          clear hown hb12 HHC hown2
          go_wp2_with fail
          refine HIN.out.mono ?_
          rintro e w13 ⟨rfl, hb13⟩
          have HB13 := Lib.hid (below_step HB12.out (hb13.mono HB12.out.size))
          clear hb13 HIN
          go_wp2_with fail
          go_ret
          exact ⟨rfl, HB13.out⟩
    by_cases hcK : cd = K
    · obtain rfl : K = nd := by have := HKN.out; omega
      obtain rfl : K = cd := hcK.symm
      obtain ⟨db, dof, rfl, -⟩ := HD0.out.2 0 (by omega)
      have hc0 : ¬ K = 0 := hn0
      · go_wp2_with fail
        refine (HNEW.out _).mono ?_
        rintro e w2 ⟨rfl, hw2⟩
        have HS2 := Lib.hid (one_new (Nat.le_refl _) hw2)
        have HB2 := Lib.hid (show Below w.heap.size w w2 by rw [hw2]; exact HB1.out.alloc HB1.out.size _)
        have HZ2 := Lib.hid (show w2.heap.size = w1.heap.size + 1 by rw [hw2]; simp)
        clear hw2
        go_wp2_with fail
        refine (HNEW.out _).mono ?_
        rintro e w3 ⟨rfl, hw3⟩
        have HX3 := Lib.hid (one_new (Nat.le_refl _) hw3)
        have hb3 : Below w2.heap.size w2 w3 := by rw [hw3]; exact below_one _ _
        have HS3 := Lib.hid (HS2.out.below hb3)
        have HB3 := Lib.hid (below_step HB2.out (hb3.mono HB2.out.size))
        have HZ3 := Lib.hid (show w3.heap.size = w2.heap.size + 1 by rw [hw3]; simp)
        clear hw3 hb3 HS2
        go_wp2_with fail
        refine (one_body HS3.out).mono ?_
        rintro e w4 ⟨rfl, h4, hb4⟩
        have HA4 := Lib.hid h4
        have HX4 := Lib.hid (HX3.out.below hb4)
        have HB4 := Lib.hid (below_step HB3.out (hb4.mono HB3.out.size))
        clear h4 hb4 HS3 HX3
        go_wp2_with fail
        refine (one_body HX4.out).mono ?_
        rintro e w5 ⟨rfl, h5, hb5⟩
        have HC5 := Lib.hid h5
        have HA5 := Lib.hid (HA4.out.below hb5)
        have HB5 := Lib.hid (below_step HB4.out (hb5.mono HB4.out.size))
        have HFA := Lib.hid (show ∀ x, F1 w1.heap.size (w3.heap.size + 1) w3.heap.size x → w.heap.size ≤ x from fun x hx => by
          have := HB1.out.size
          have := HB3.out.size
          rcases F1_or.1 hx with e | e | e <;> omega)
        have HFC := Lib.hid (show ∀ x, F1 w2.heap.size (w4.heap.size + 1) w4.heap.size x → w.heap.size ≤ x from fun x hx => by
          have := HB2.out.size
          have := HB4.out.size
          rcases F1_or.1 hx with e | e | e <;> omega)
        have HFD := Lib.hid (show ∀ x, F1 w1.heap.size (w3.heap.size + 1) w3.heap.size x → ¬ F1 w2.heap.size (w4.heap.size + 1) w4.heap.size x from fun x hx hy => by
          have h2 := HZ2.out
          have h3 := HZ3.out
          have h4 := HA4.out.F_lt x hx
          rcases F1_or.1 hx with e | e | e <;> rcases F1_or.1 hy with d | d | d <;> omega)
        clear h5 hb5 HA4 HX4
        generalize w1.heap.size = S at *
        generalize w2.heap.size = T at *
        generalize w3.heap.size + 1 = P at *
        generalize w3.heap.size = Q at *
        generalize w4.heap.size + 1 = P2 at *
        generalize w4.heap.size = Q2 at *
        clear HZ2 HZ3 HB1 HB2 HB3 HB4
        have HWA := Lib.hid (one_write HA5.out off (some ⟨db, dof, none⟩) K K f ((HD0.out.below HB5.out).inn HB5.out.size HFA.out) HD0.out.1.1 HD0.out.1.2)
        go_wp2_with fail
        refine HWA.out.mono ?_
        rintro e w6 ⟨p1, err1, rfl, hw6, h6, ho6⟩
        have hp1 := WR_full hw6 ho3
        subst hp1
        have HA6 := Lib.hid h6
        have HC6 := Lib.hid (show One w6 T 65536 P2 Q2 AB.empty from Sys.keep HC5.out ho6 (fun x hx hf => HFD.out x hf hx))
        have HB6 := Lib.hid (ho6.below HB5.out (Nat.le_refl _) HFA.out)
        clear hw6 h6 ho6 HWA HA5 HC5 HB5
        have hby : BytesIn w6 (F1 T P2 Q2) (some ⟨db, dof, none⟩) K f := fun i hi => ((HD0.out.below HB6.out).inn (F := F1 T P2 Q2) HB6.out.size HFC.out) i (Nat.lt_of_lt_of_le hi HKN.out.1)
        have hle1 : K ≤ K := Nat.le_trans HKN.out.1 HKN.out.2.1
        have HWB := Lib.hid (one_write HC6.out off (some ⟨db, dof, none⟩) K K f hby hle1 HD0.out.1.2)
        clear hby hle1
        go_wp2_with fail
        refine HWB.out.mono ?_
        rintro e w7 ⟨p2, err2, rfl, hw7, h7, ho7⟩
        have hp2 := WR_full hw7 ho3
        subst hp2
        have HC7 := Lib.hid h7
        have HA7 := Lib.hid (show One w7 S 65536 P Q (Go.Proofs.Ytpnnonphagddgaa.wr AB.empty off (full off K) f) from Sys.keep HA6.out ho7 HFD.out)
        have HB7 := Lib.hid (ho7.below HB6.out (Nat.le_refl _) HFC.out)
        clear hw7 h7 ho7 HWB HA6 HC6 HB6
        have hby : BytesIn w7 (F1 T P2 Q2) (some ⟨db, dof, none⟩) 0 (fun i => f (K + i)) := fun i hi => absurd hi (Nat.not_lt_zero _)
        have hle1 : 0 ≤ 0 := by have := HKN.out; omega
        have hle2 : 0 ≤ maxLen := Nat.le_trans (by omega) HD0.out.1.2
        have HWC := Lib.hid (one_write HC7.out (off + (K : Int)) (some ⟨db, dof, none⟩) 0 0 (fun i => f (K + i)) hby hle1 hle2)
        clear hby hle1 hle2
        go_wp2_with fail
        refine HWC.out.mono ?_
        rintro e w8 ⟨p3, err3, rfl, hw8, h8, ho8⟩
        have hp3 := WR_full hw8 (by omega)
        subst hp3
        have hEQ : Go.Proofs.Ytpnnonphagddgaa.wr (Go.Proofs.Ytpnnonphagddgaa.wr AB.empty off (full off K) f) (off + (K : Int)) (full (off + (K : Int)) (0)) (fun i => f (K + i)) = Go.Proofs.Ytpnnonphagddgaa.wr AB.empty off (full off K) f := by have := parts_eq (len := K) (k := K) ho3 ho2 (Nat.le_refl _) f; simpa using this
        rw [hEQ] at h8
        have HC8 := Lib.hid h8
        have HA8 := Lib.hid (show One w8 S 65536 P Q (Go.Proofs.Ytpnnonphagddgaa.wr AB.empty off (full off K) f) from Sys.keep HA7.out ho8 HFD.out)
        have HB8 := Lib.hid (ho8.below HB7.out (Nat.le_refl _) HFC.out)
        clear hw8 h8 ho8 HWC HA7 HC7 HB7 hEQ
        generalize Go.Proofs.Ytpnnonphagddgaa.wr AB.empty off (full off K) f = ba at *
        have HOK := Lib.hid HA8.out.ok
        have HRA := Lib.hid (one_read HA8.out 0 65536)
        unfold ReadE at HRA
        rw [readR_all HOK.out] at HRA
        go_wp2_with fail
        refine HRA.out.mono ?_
        rintro e w9 ⟨A9, c9, rfl, hr9, hb9⟩
        have HA9 := Lib.hid (HA8.out.below hb9)
        have HC9 := Lib.hid (HC8.out.below hb9)
        have HB9 := Lib.hid (below_step HB8.out (hb9.mono HB8.out.size))
        have HR9 := Lib.hid hr9
        clear hr9 hb9 HRA HA8 HC8
        have HRC := Lib.hid (one_read HC9.out 0 65536)
        unfold ReadE at HRC
        rw [readR_all HOK.out] at HRC
        go_wp2_with fail
        refine HRC.out.mono ?_
        rintro e w10 ⟨A10, c10, rfl, hr10, hb10⟩
        have HA10 := Lib.hid (HA9.out.below hb10)
        have HC10 := Lib.hid (HC9.out.below hb10)
        have HB10 := Lib.hid (below_step HB9.out (hb10.mono HB9.out.size))
        have cv1 := (HR9.out.only (Only.of_below (F := fun _ => False) hb10) (fun _ h => h.elim)).conv
        have cv2 := hr10.conv
        generalize strF ba.size (fun j => ba.dat ((0 : Int).toNat + j)) = str at cv1 cv2
        have HCA := Lib.hid (one_chunks HA10.out)
        have HCC := Lib.hid (one_chunks HC10.out)
        have HUA := Lib.hid (one_used HA10.out)
        have HUC := Lib.hid (one_used HC10.out)
        have HHA := Lib.hid (one_holes HA10.out)
        clear hr10 hb10 HRC HR9 HA9 HC9
        go_wp2_with fail
        refine HCA.out.mono ?_
        rintro e w11 ⟨rfl, rfl⟩
        go_wp2_with fail
        refine HCC.out.mono ?_
        rintro e w11 ⟨rfl, rfl⟩
        go_wp2_with fail
        refine HUA.out.mono ?_
        rintro e w11 ⟨rfl, rfl⟩
        go_wp2_with fail
        refine HUC.out.mono ?_
        rintro e w11 ⟨rfl, rfl⟩
        obtain ⟨L, hL⟩ : ∃ L, L = holesL ((ba.size + 15) / 16) ba.th := ⟨_, rfl⟩
        have HHL := Lib.hid (show L.length ≤ 4096 by rw [hL]; have := holesL_le ((ba.size + 15) / 16) ba.th; have := HOK.out.size; omega)
        rw [← hL] at HHA
        have HL := Lib.hid hL
        clear hL cv1 cv2 HCA HCC HUA HUC
        go_wp2_with fail
        refine HHA.out.mono ?_
        rintro e w11 ⟨v, rfl, hown, hb11⟩
        obtain ⟨A11, c11, rfl⟩ := own_slice hown
        have HO11 := Lib.hid hown
        have HB11 := Lib.hid (below_step HB10.out (hb11.mono HB10.out.size))
        have HC11 := Lib.hid (HC10.out.below hb11)
        have HHC := Lib.hid (one_holes HC11.out)
        rw [← HL.out] at HHC
        clear hown hb11 HHA
        go_wp2_with fail
        refine HHC.out.mono ?_
        rintro e w12 ⟨v, rfl, hown, hb12⟩
        obtain ⟨A12, c12, rfl⟩ := own_slice hown
        have HB12 := Lib.hid (below_step HB11.out (hb12.mono HB11.out.size))
        have hown2 := HO11.out.kept (w' := w12) (row := none) ⟨hb12.os, hb12.tape, hb12.output, hb12.size, fun k hk _ => hb12.block k hk⟩ (Classical.em _)
        have HIN := Lib.hid (ints_same w12 L.length c11 c12 _ _ A11 A12 L rfl HHL.out hown2 hown)
        clear hown hb12 HHC hown2
        go_wp2_with fail
        refine HIN.out.mono ?_
        rintro e w13 ⟨rfl, hb13⟩
        have HB13 := Lib.hid (below_step HB12.out (hb13.mono HB12.out.size))
        clear hb13 HIN
        go_wp2_with fail
        go_ret
        exact ⟨rfl, HB13.out⟩
    obtain ⟨db, dof, rfl, -⟩ := HD0.out.2 0 (by omega)
    have hc0 : ¬ cd = 0 := by have := HKN.out; omega
    · go_wp2_with fail
      refine (HNEW.out _).mono ?_
      rintro e w2 ⟨rfl, hw2⟩
      have HS2 := Lib.hid (one_new (Nat.le_refl _) hw2)
      have HB2 := Lib.hid (show Below w.heap.size w w2 by rw [hw2]; exact HB1.out.alloc HB1.out.size _)
      have HZ2 := Lib.hid (show w2.heap.size = w1.heap.size + 1 by rw [hw2]; simp)
      clear hw2
      go_wp2_with fail
      refine (HNEW.out _).mono ?_
      rintro e w3 ⟨rfl, hw3⟩
      have HX3 := Lib.hid (one_new (Nat.le_refl _) hw3)
      have hb3 : Below w2.heap.size w2 w3 := by rw [hw3]; exact below_one _ _
      have HS3 := Lib.hid (HS2.out.below hb3)
      have HB3 := Lib.hid (below_step HB2.out (hb3.mono HB2.out.size))
      have HZ3 := Lib.hid (show w3.heap.size = w2.heap.size + 1 by rw [hw3]; simp)
      clear hw3 hb3 HS2
      go_wp2_with fail
      refine (one_body HS3.out).mono ?_
      rintro e w4 ⟨rfl, h4, hb4⟩
      have HA4 := Lib.hid h4
      have HX4 := Lib.hid (HX3.out.below hb4)
      have HB4 := Lib.hid (below_step HB3.out (hb4.mono HB3.out.size))
      clear h4 hb4 HS3 HX3
      go_wp2_with fail
      refine (one_body HX4.out).mono ?_
      rintro e w5 ⟨rfl, h5, hb5⟩
      have HC5 := Lib.hid h5
      have HA5 := Lib.hid (HA4.out.below hb5)
      have HB5 := Lib.hid (below_step HB4.out (hb5.mono HB4.out.size))
      have HFA := Lib.hid (show ∀ x, F1 w1.heap.size (w3.heap.size + 1) w3.heap.size x → w.heap.size ≤ x from fun x hx => by
        have := HB1.out.size
        have := HB3.out.size
        rcases F1_or.1 hx with e | e | e <;> omega)
      have HFC := Lib.hid (show ∀ x, F1 w2.heap.size (w4.heap.size + 1) w4.heap.size x → w.heap.size ≤ x from fun x hx => by
        have := HB2.out.size
        have := HB4.out.size
        rcases F1_or.1 hx with e | e | e <;> omega)
      have HFD := Lib.hid (show ∀ x, F1 w1.heap.size (w3.heap.size + 1) w3.heap.size x → ¬ F1 w2.heap.size (w4.heap.size + 1) w4.heap.size x from fun x hx hy => by
        have h2 := HZ2.out
        have h3 := HZ3.out
        have h4 := HA4.out.F_lt x hx
        rcases F1_or.1 hx with e | e | e <;> rcases F1_or.1 hy with d | d | d <;> omega)
      clear h5 hb5 HA4 HX4
      generalize w1.heap.size = S at *
      generalize w2.heap.size = T at *
      generalize w3.heap.size + 1 = P at *
      generalize w3.heap.size = Q at *
      generalize w4.heap.size + 1 = P2 at *
      generalize w4.heap.size = Q2 at *
      clear HZ2 HZ3 HB1 HB2 HB3 HB4
      have HWA := Lib.hid (one_write HA5.out off (some ⟨db, dof, none⟩) nd cd f ((HD0.out.below HB5.out).inn HB5.out.size HFA.out) HD0.out.1.1 HD0.out.1.2)
      go_wp2_with fail
      refine HWA.out.mono ?_
      rintro e w6 ⟨p1, err1, rfl, hw6, h6, ho6⟩
      have hp1 := WR_full hw6 ho3
      subst hp1
      have HA6 := Lib.hid h6
      have HC6 := Lib.hid (show One w6 T 65536 P2 Q2 AB.empty from Sys.keep HC5.out ho6 (fun x hx hf => HFD.out x hf hx))
      have HB6 := Lib.hid (ho6.below HB5.out (Nat.le_refl _) HFA.out)
      clear hw6 h6 ho6 HWA HA5 HC5 HB5
      have hby : BytesIn w6 (F1 T P2 Q2) (some ⟨db, dof, none⟩) K f := fun i hi => ((HD0.out.below HB6.out).inn (F := F1 T P2 Q2) HB6.out.size HFC.out) i (Nat.lt_of_lt_of_le hi HKN.out.1)
      have hle1 : K ≤ cd := Nat.le_trans HKN.out.1 HKN.out.2.1
      have HWB := Lib.hid (one_write HC6.out off (some ⟨db, dof, none⟩) K cd f hby hle1 HD0.out.1.2)
      clear hby hle1
      go_wp2_with fail
      refine HWB.out.mono ?_
      rintro e w7 ⟨p2, err2, rfl, hw7, h7, ho7⟩
      have hp2 := WR_full hw7 ho3
      subst hp2
      have HC7 := Lib.hid h7
      have HA7 := Lib.hid (show One w7 S 65536 P Q (Go.Proofs.Ytpnnonphagddgaa.wr AB.empty off (full off nd) f) from Sys.keep HA6.out ho7 HFD.out)
      have HB7 := Lib.hid (ho7.below HB6.out (Nat.le_refl _) HFC.out)
      clear hw7 h7 ho7 HWB HA6 HC6 HB6
      have hby : BytesIn w7 (F1 T P2 Q2) (some ⟨db, dof + K, none⟩) (nd - K) (fun i => f (K + i)) := fun i hi => sub_bytes ((HD0.out.below HB7.out).inn (F := F1 T P2 Q2) HB7.out.size HFC.out) i (by omega)
      have hle1 : (nd - K) ≤ (cd - K) := by have := HKN.out; omega
      have hle2 : (cd - K) ≤ maxLen := Nat.le_trans (by omega) HD0.out.1.2
      have HWC := Lib.hid (one_write HC7.out (off + (K : Int)) (some ⟨db, dof + K, none⟩) (nd - K) (cd - K) (fun i => f (K + i)) hby hle1 hle2)
      clear hby hle1 hle2
      go_wp2_with fail
      refine HWC.out.mono ?_
      rintro e w8 ⟨p3, err3, rfl, hw8, h8, ho8⟩
      have hp3 := WR_full hw8 (by omega)
      subst hp3
      have hEQ : Go.Proofs.Ytpnnonphagddgaa.wr (Go.Proofs.Ytpnnonphagddgaa.wr AB.empty off (full off K) f) (off + (K : Int)) (full (off + (K : Int)) ((nd - K))) (fun i => f (K + i)) = Go.Proofs.Ytpnnonphagddgaa.wr AB.empty off (full off nd) f := parts_eq ho3 ho2 HKN.out.1 f
      rw [hEQ] at h8
      have HC8 := Lib.hid h8
      have HA8 := Lib.hid (show One w8 S 65536 P Q (Go.Proofs.Ytpnnonphagddgaa.wr AB.empty off (full off nd) f) from Sys.keep HA7.out ho8 HFD.out)
      have HB8 := Lib.hid (ho8.below HB7.out (Nat.le_refl _) HFC.out)
      clear hw8 h8 ho8 HWC HA7 HC7 HB7 hEQ
      generalize Go.Proofs.Ytpnnonphagddgaa.wr AB.empty off (full off nd) f = ba at *
      have HOK := Lib.hid HA8.out.ok
      have HRA := Lib.hid (one_read HA8.out 0 65536)
      unfold ReadE at HRA
      rw [readR_all HOK.out] at HRA
      go_wp2_with fail
      refine HRA.out.mono ?_
      rintro e w9 ⟨A9, c9, rfl, hr9, hb9⟩
      have HA9 := Lib.hid (HA8.out.below hb9)
      have HC9 := Lib.hid (HC8.out.below hb9)
      have HB9 := Lib.hid (below_step HB8.out (hb9.mono HB8.out.size))
      have HR9 := Lib.hid hr9
      clear hr9 hb9 HRA HA8 HC8
      have HRC := Lib.hid (one_read HC9.out 0 65536)
      unfold ReadE at HRC
      rw [readR_all HOK.out] at HRC
      go_wp2_with fail
      refine HRC.out.mono ?_
      rintro e w10 ⟨A10, c10, rfl, hr10, hb10⟩
      have HA10 := Lib.hid (HA9.out.below hb10)
      have HC10 := Lib.hid (HC9.out.below hb10)
      have HB10 := Lib.hid (below_step HB9.out (hb10.mono HB9.out.size))
      have cv1 := (HR9.out.only (Only.of_below (F := fun _ => False) hb10) (fun _ h => h.elim)).conv
      have cv2 := hr10.conv
      generalize strF ba.size (fun j => ba.dat ((0 : Int).toNat + j)) = str at cv1 cv2
      have HCA := Lib.hid (one_chunks HA10.out)
      have HCC := Lib.hid (one_chunks HC10.out)
      have HUA := Lib.hid (one_used HA10.out)
      have HUC := Lib.hid (one_used HC10.out)
      have HHA := Lib.hid (one_holes HA10.out)
      clear hr10 hb10 HRC HR9 HA9 HC9
      go_wp2_with fail
      refine HCA.out.mono ?_
      rintro e w11 ⟨rfl, rfl⟩
      go_wp2_with fail
      refine HCC.out.mono ?_
      rintro e w11 ⟨rfl, rfl⟩
      go_wp2_with fail
      refine HUA.out.mono ?_
      rintro e w11 ⟨rfl, rfl⟩
      go_wp2_with fail
      refine HUC.out.mono ?_
      rintro e w11 ⟨rfl, rfl⟩
      obtain ⟨L, hL⟩ : ∃ L, L = holesL ((ba.size + 15) / 16) ba.th := ⟨_, rfl⟩
      have HHL := Lib.hid (show L.length ≤ 4096 by rw [hL]; have := holesL_le ((ba.size + 15) / 16) ba.th; have := HOK.out.size; omega)
      rw [← hL] at HHA
      have HL := Lib.hid hL
      clear hL cv1 cv2 HCA HCC HUA HUC
      go_wp2_with fail
      refine HHA.out.mono ?_
      rintro e w11 ⟨v, rfl, hown, hb11⟩
      obtain ⟨A11, c11, rfl⟩ := own_slice hown
      have HO11 := Lib.hid hown
      have HB11 := Lib.hid (below_step HB10.out (hb11.mono HB10.out.size))
      have HC11 := Lib.hid (HC10.out.below hb11)
      have HHC := Lib.hid (one_holes HC11.out)
      rw [← HL.out] at HHC
      clear hown hb11 HHA
      go_wp2_with fail
      refine HHC.out.mono ?_
      rintro e w12 ⟨v, rfl, hown, hb12⟩
      obtain ⟨A12, c12, rfl⟩ := own_slice hown
      have HB12 := Lib.hid (below_step HB11.out (hb12.mono HB11.out.size))
      have hown2 := HO11.out.kept (w' := w12) (row := none) ⟨hb12.os, hb12.tape, hb12.output, hb12.size, fun k hk _ => hb12.block k hk⟩ (Classical.em _)
      have HIN := Lib.hid (ints_same w12 L.length c11 c12 _ _ A11 A12 L rfl HHL.out hown2 hown)
      clear hown hb12 HHC hown2
      go_wp2_with fail
      refine HIN.out.mono ?_
      rintro e w13 ⟨rfl, hb13⟩
      have HB13 := Lib.hid (below_step HB12.out (hb13.mono HB12.out.size))
      clear hb13 HIN
      go_wp2_with fail
      go_ret
      exact ⟨rfl, HB13.out⟩
  · by_cases hn0 : K = 0
    · subst hn0
      cases A with
      | none =>
        · go_wp2_with fail
          refine (HNEW.out _).mono ?_
          rintro e w2 ⟨rfl, hw2⟩
          have HS2 := Lib.hid (one_new (Nat.le_refl _) hw2)
          have HB2 := Lib.hid (show Below w.heap.size w w2 by rw [hw2]; exact HB1.out.alloc HB1.out.size _)
          have HZ2 := Lib.hid (show w2.heap.size = w1.heap.size + 1 by rw [hw2]; simp)
          clear hw2
          go_wp2_with fail
          refine (HNEW.out _).mono ?_
          rintro e w3 ⟨rfl, hw3⟩
          have HX3 := Lib.hid (one_new (Nat.le_refl _) hw3)
          have hb3 : Below w2.heap.size w2 w3 := by rw [hw3]; exact below_one _ _
          have HS3 := Lib.hid (HS2.out.below hb3)
          have HB3 := Lib.hid (below_step HB2.out (hb3.mono HB2.out.size))
          have HZ3 := Lib.hid (show w3.heap.size = w2.heap.size + 1 by rw [hw3]; simp)
          clear hw3 hb3 HS2
          go_wp2_with fail
          refine (one_body HS3.out).mono ?_
          rintro e w4 ⟨rfl, h4, hb4⟩
          have HA4 := Lib.hid h4
          have HX4 := Lib.hid (HX3.out.below hb4)
          have HB4 := Lib.hid (below_step HB3.out (hb4.mono HB3.out.size))
          clear h4 hb4 HS3 HX3
          go_wp2_with fail
          refine (one_body HX4.out).mono ?_
          rintro e w5 ⟨rfl, h5, hb5⟩
          have HC5 := Lib.hid h5
          have HA5 := Lib.hid (HA4.out.below hb5)
          have HB5 := Lib.hid (below_step HB4.out (hb5.mono HB4.out.size))
          have HFA := Lib.hid (show ∀ x, F1 w1.heap.size (w3.heap.size + 1) w3.heap.size x → w.heap.size ≤ x from fun x hx => by
            have := HB1.out.size
            have := HB3.out.size
            rcases F1_or.1 hx with e | e | e <;> omega)
          have HFC := Lib.hid (show ∀ x, F1 w2.heap.size (w4.heap.size + 1) w4.heap.size x → w.heap.size ≤ x from fun x hx => by
            have := HB2.out.size
            have := HB4.out.size
            rcases F1_or.1 hx with e | e | e <;> omega)
          have HFD := Lib.hid (show ∀ x, F1 w1.heap.size (w3.heap.size + 1) w3.heap.size x → ¬ F1 w2.heap.size (w4.heap.size + 1) w4.heap.size x from fun x hx hy => by
            have h2 := HZ2.out
            have h3 := HZ3.out
            have h4 := HA4.out.F_lt x hx
            rcases F1_or.1 hx with e | e | e <;> rcases F1_or.1 hy with d | d | d <;> omega)
          clear h5 hb5 HA4 HX4
          generalize w1.heap.size = S at *
          generalize w2.heap.size = T at *
          generalize w3.heap.size + 1 = P at *
          generalize w3.heap.size = Q at *
          generalize w4.heap.size + 1 = P2 at *
          generalize w4.heap.size = Q2 at *
          clear HZ2 HZ3 HB1 HB2 HB3 HB4
          have HWA := Lib.hid (one_write HA5.out off none 0 cd f ((HD0.out.below HB5.out).inn HB5.out.size HFA.out) HD0.out.1.1 HD0.out.1.2)
          go_wp2_with fail
          refine HWA.out.mono ?_
          rintro e w6 ⟨p1, err1, rfl, hw6, h6, ho6⟩
          have hp1 := WR_full hw6 ho3
          subst hp1
          have HA6 := Lib.hid h6
          have HC6 := Lib.hid (show One w6 T 65536 P2 Q2 AB.empty from Sys.keep HC5.out ho6 (fun x hx hf => HFD.out x hf hx))
          have HB6 := Lib.hid (ho6.below HB5.out (Nat.le_refl _) HFA.out)
          clear hw6 h6 ho6 HWA HA5 HC5 HB5
          have hby : BytesIn w6 (F1 T P2 Q2) none 0 f := fun i hi => ((HD0.out.below HB6.out).inn (F := F1 T P2 Q2) HB6.out.size HFC.out) i (Nat.lt_of_lt_of_le hi HKN.out.1)
          have hle1 : 0 ≤ cd := Nat.le_trans HKN.out.1 HKN.out.2.1
          have HWB := Lib.hid (one_write HC6.out off none 0 cd f hby hle1 HD0.out.1.2)
          clear hby hle1
          go_wp2_with fail
          refine HWB.out.mono ?_
          rintro e w7 ⟨p2, err2, rfl, hw7, h7, ho7⟩
          have hp2 := WR_full hw7 ho3
          subst hp2
          have HC7 := Lib.hid h7
          have HA7 := Lib.hid (show One w7 S 65536 P Q (Go.Proofs.Ytpnnonphagddgaa.wr AB.empty off (full off 0) f) from Sys.keep HA6.out ho7 HFD.out)
          have HB7 := Lib.hid (ho7.below HB6.out (Nat.le_refl _) HFC.out)
          clear hw7 h7 ho7 HWB HA6 HC6 HB6
          have hby : BytesIn w7 (F1 T P2 Q2) none 0 (fun i => f (0 + i)) := fun i hi => absurd hi (Nat.not_lt_zero _)
          have hle1 : 0 ≤ cd := by have := HKN.out; omega
          have hle2 : cd ≤ maxLen := Nat.le_trans (by omega) HD0.out.1.2
          have HWC := Lib.hid (one_write HC7.out (off) none 0 cd (fun i => f (0 + i)) hby hle1 hle2)
          clear hby hle1 hle2
          go_wp2_with fail
          refine HWC.out.mono ?_
          rintro e w8 ⟨p3, err3, rfl, hw8, h8, ho8⟩
          have hp3 := WR_full hw8 (by omega)
          subst hp3
          have hEQ : Go.Proofs.Ytpnnonphagddgaa.wr (Go.Proofs.Ytpnnonphagddgaa.wr AB.empty off (full off 0) f) (off) (full (off) (0)) (fun i => f (0 + i)) = Go.Proofs.Ytpnnonphagddgaa.wr AB.empty off (full off 0) f := by have := parts_eq (len := 0) (k := 0) ho3 ho2 (Nat.le_refl _) f; simpa using this
          rw [hEQ] at h8
          have HC8 := Lib.hid h8
          have HA8 := Lib.hid (show One w8 S 65536 P Q (Go.Proofs.Ytpnnonphagddgaa.wr AB.empty off (full off 0) f) from Sys.keep HA7.out ho8 HFD.out)
          have HB8 := Lib.hid (ho8.below HB7.out (Nat.le_refl _) HFC.out)
          clear hw8 h8 ho8 HWC HA7 HC7 HB7 hEQ
          generalize Go.Proofs.Ytpnnonphagddgaa.wr AB.empty off (full off 0) f = ba at *
          have HOK := Lib.hid HA8.out.ok
          have HRA := Lib.hid (one_read HA8.out 0 65536)
          unfold ReadE at HRA
          rw [readR_all HOK.out] at HRA
          go_wp2_with fail
          refine HRA.out.mono ?_
          rintro e w9 ⟨A9, c9, rfl, hr9, hb9⟩
          have HA9 := Lib.hid (HA8.out.below hb9)
          have HC9 := Lib.hid (HC8.out.below hb9)
          have HB9 := Lib.hid (below_step HB8.out (hb9.mono HB8.out.size))
          have HR9 := Lib.hid hr9
          clear hr9 hb9 HRA HA8 HC8
          have HRC := Lib.hid (one_read HC9.out 0 65536)
          unfold ReadE at HRC
          rw [readR_all HOK.out] at HRC
          go_wp2_with fail
          refine HRC.out.mono ?_
          rintro e w10 ⟨A10, c10, rfl, hr10, hb10⟩
          have HA10 := Lib.hid (HA9.out.below hb10)
          have HC10 := Lib.hid (HC9.out.below hb10)
          have HB10 := Lib.hid (below_step HB9.out (hb10.mono HB9.out.size))
          have cv1 := (HR9.out.only (Only.of_below (F := fun _ => False) hb10) (fun _ h => h.elim)).conv
          have cv2 := hr10.conv
          generalize strF ba.size (fun j => ba.dat ((0 : Int).toNat + j)) = str at cv1 cv2
          have HCA := Lib.hid (one_chunks HA10.out)
          have HCC := Lib.hid (one_chunks HC10.out)
          have HUA := Lib.hid (one_used HA10.out)
          have HUC := Lib.hid (one_used HC10.out)
          have HHA := Lib.hid (one_holes HA10.out)
          clear hr10 hb10 HRC HR9 HA9 HC9
          go_wp2_with fail
          refine HCA.out.mono ?_
          rintro e w11 ⟨rfl, rfl⟩
          go_wp2_with fail
          refine HCC.out.mono ?_
          rintro e w11 ⟨rfl, rfl⟩
          go_wp2_with fail
          refine HUA.out.mono ?_
          rintro e w11 ⟨rfl, rfl⟩
          go_wp2_with fail
          refine HUC.out.mono ?_
          rintro e w11 ⟨rfl, rfl⟩
          obtain ⟨L, hL⟩ : ∃ L, L = holesL ((ba.size + 15) / 16) ba.th := ⟨_, rfl⟩
          have HHL := Lib.hid (show L.length ≤ 4096 by rw [hL]; have := holesL_le ((ba.size + 15) / 16) ba.th; have := HOK.out.size; omega)
          rw [← hL] at HHA
          have HL := Lib.hid hL
          clear hL cv1 cv2 HCA HCC HUA HUC
          go_wp2_with fail
          refine HHA.out.mono ?_
          rintro e w11 ⟨v, rfl, hown, hb11⟩
          obtain ⟨A11, c11, rfl⟩ := own_slice hown
          have HO11 := Lib.hid hown
          have HB11 := Lib.hid (below_step HB10.out (hb11.mono HB10.out.size))
          have HC11 := Lib.hid (HC10.out.below hb11)
          have HHC := Lib.hid (one_holes HC11.out)
          rw [← HL.out] at HHC
          clear hown hb11 HHA
          go_wp2_with fail
          refine HHC.out.mono ?_
          rintro e w12 ⟨v, rfl, hown, hb12⟩
          obtain ⟨A12, c12, rfl⟩ := own_slice hown
          have HB12 := Lib.hid (below_step HB11.out (hb12.mono HB11.out.size))
          have hown2 := HO11.out.kept (w' := w12) (row := none) ⟨hb12.os, hb12.tape, hb12.output, hb12.size, fun k hk _ => hb12.block k hk⟩ (Classical.em _)
          have HIN := Lib.hid (ints_same w12 L.length c11 c12 _ _ A11 A12 L rfl HHL.out hown2 hown)
          clear hown hb12 HHC hown2
          go_wp2_with fail
          refine HIN.out.mono ?_
          rintro e w13 ⟨rfl, hb13⟩
          have HB13 := Lib.hid (below_step HB12.out (hb13.mono HB12.out.size))
          clear hb13 HIN
          go_wp2_with fail
          go_ret
          exact ⟨rfl, HB13.out⟩
      | some a =>
        · go_wp2_with fail
          refine (HNEW.out _).mono ?_
          rintro e w2 ⟨rfl, hw2⟩
          have HS2 := Lib.hid (one_new (Nat.le_refl _) hw2)
          have HB2 := Lib.hid (show Below w.heap.size w w2 by rw [hw2]; exact HB1.out.alloc HB1.out.size _)
          have HZ2 := Lib.hid (show w2.heap.size = w1.heap.size + 1 by rw [hw2]; simp)
          clear hw2
          go_wp2_with fail
          refine (HNEW.out _).mono ?_
          rintro e w3 ⟨rfl, hw3⟩
          have HX3 := Lib.hid (one_new (Nat.le_refl _) hw3)
          have hb3 : Below w2.heap.size w2 w3 := by rw [hw3]; exact below_one _ _
          have HS3 := Lib.hid (HS2.out.below hb3)
          have HB3 := Lib.hid (below_step HB2.out (hb3.mono HB2.out.size))
          have HZ3 := Lib.hid (show w3.heap.size = w2.heap.size + 1 by rw [hw3]; simp)
          clear hw3 hb3 HS2
          go_wp2_with fail
          refine (one_body HS3.out).mono ?_
          rintro e w4 ⟨rfl, h4, hb4⟩
          have HA4 := Lib.hid h4
          have HX4 := Lib.hid (HX3.out.below hb4)
          have HB4 := Lib.hid (below_step HB3.out (hb4.mono HB3.out.size))
          clear h4 hb4 HS3 HX3
          go_wp2_with fail
          refine (one_body HX4.out).mono ?_
          rintro e w5 ⟨rfl, h5, hb5⟩
          have HC5 := Lib.hid h5
          have HA5 := Lib.hid (HA4.out.below hb5)
          have HB5 := Lib.hid (below_step HB4.out (hb5.mono HB4.out.size))
          have HFA := Lib.hid (show ∀ x, F1 w1.heap.size (w3.heap.size + 1) w3.heap.size x → w.heap.size ≤ x from fun x hx => by
            have := HB1.out.size
            have := HB3.out.size
            rcases F1_or.1 hx with e | e | e <;> omega)
          have HFC := Lib.hid (show ∀ x, F1 w2.heap.size (w4.heap.size + 1) w4.heap.size x → w.heap.size ≤ x from fun x hx => by
            have := HB2.out.size
            have := HB4.out.size
            rcases F1_or.1 hx with e | e | e <;> omega)
          have HFD := Lib.hid (show ∀ x, F1 w1.heap.size (w3.heap.size + 1) w3.heap.size x → ¬ F1 w2.heap.size (w4.heap.size + 1) w4.heap.size x from fun x hx hy => by
            have h2 := HZ2.out
            have h3 := HZ3.out
            have h4 := HA4.out.F_lt x hx
            rcases F1_or.1 hx with e | e | e <;> rcases F1_or.1 hy with d | d | d <;> omega)
          clear h5 hb5 HA4 HX4
          generalize w1.heap.size = S at *
          generalize w2.heap.size = T at *
          generalize w3.heap.size + 1 = P at *
          generalize w3.heap.size = Q at *
          generalize w4.heap.size + 1 = P2 at *
          generalize w4.heap.size = Q2 at *
          clear HZ2 HZ3 HB1 HB2 HB3 HB4
          have HWA := Lib.hid (one_write HA5.out off (some a) 0 cd f ((HD0.out.below HB5.out).inn HB5.out.size HFA.out) HD0.out.1.1 HD0.out.1.2)
          go_wp2_with fail
          refine HWA.out.mono ?_
          rintro e w6 ⟨p1, err1, rfl, hw6, h6, ho6⟩
          have hp1 := WR_full hw6 ho3
          subst hp1
          have HA6 := Lib.hid h6
          have HC6 := Lib.hid (show One w6 T 65536 P2 Q2 AB.empty from Sys.keep HC5.out ho6 (fun x hx hf => HFD.out x hf hx))
          have HB6 := Lib.hid (ho6.below HB5.out (Nat.le_refl _) HFA.out)
          clear hw6 h6 ho6 HWA HA5 HC5 HB5
          have hby : BytesIn w6 (F1 T P2 Q2) (some a) 0 f := fun i hi => ((HD0.out.below HB6.out).inn (F := F1 T P2 Q2) HB6.out.size HFC.out) i (Nat.lt_of_lt_of_le hi HKN.out.1)
          have hle1 : 0 ≤ cd := Nat.le_trans HKN.out.1 HKN.out.2.1
          have HWB := Lib.hid (one_write HC6.out off (some a) 0 cd f hby hle1 HD0.out.1.2)
          clear hby hle1
          go_wp2_with fail
          refine HWB.out.mono ?_
          rintro e w7 ⟨p2, err2, rfl, hw7, h7, ho7⟩
          have hp2 := WR_full hw7 ho3
          subst hp2
          have HC7 := Lib.hid h7
          have HA7 := Lib.hid (show One w7 S 65536 P Q (Go.Proofs.Ytpnnonphagddgaa.wr AB.empty off (full off 0) f) from Sys.keep HA6.out ho7 HFD.out)
          have HB7 := Lib.hid (ho7.below HB6.out (Nat.le_refl _) HFC.out)
          clear hw7 h7 ho7 HWB HA6 HC6 HB6
          have hby : BytesIn w7 (F1 T P2 Q2) (some a) 0 (fun i => f (0 + i)) := fun i hi => absurd hi (Nat.not_lt_zero _)
          have hle1 : 0 ≤ cd := by have := HKN.out; omega
          have hle2 : cd ≤ maxLen := Nat.le_trans (by omega) HD0.out.1.2
          have HWC := Lib.hid (one_write HC7.out (off) (some a) 0 cd (fun i => f (0 + i)) hby hle1 hle2)
          clear hby hle1 hle2
          go_wp2_with fail
          refine HWC.out.mono ?_
          rintro e w8 ⟨p3, err3, rfl, hw8, h8, ho8⟩
          have hp3 := WR_full hw8 (by omega)
          subst hp3
          have hEQ : Go.Proofs.Ytpnnonphagddgaa.wr (Go.Proofs.Ytpnnonphagddgaa.wr AB.empty off (full off 0) f) (off) (full (off) (0)) (fun i => f (0 + i)) = Go.Proofs.Ytpnnonphagddgaa.wr AB.empty off (full off 0) f := by have := parts_eq (len := 0) (k := 0) ho3 ho2 (Nat.le_refl _) f; simpa using this
          rw [hEQ] at h8
          have HC8 := Lib.hid h8
          have HA8 := Lib.hid (show One w8 S 65536 P Q (Go.Proofs.Ytpnnonphagddgaa.wr AB.empty off (full off 0) f) from Sys.keep HA7.out ho8 HFD.out)
          have HB8 := Lib.hid (ho8.below HB7.out (Nat.le_refl _) HFC.out)
          clear hw8 h8 ho8 HWC HA7 HC7 HB7 hEQ
          generalize Go.Proofs.Ytpnnonphagddgaa.wr AB.empty off (full off 0) f = ba at *
          have HOK := Lib.hid HA8.out.ok
          have HRA := Lib.hid (one_read HA8.out 0 65536)
          unfold ReadE at HRA
          rw [readR_all HOK.out] at HRA
          go_wp2_with fail
          refine HRA.out.mono ?_
          rintro e w9 ⟨A9, c9, rfl, hr9, hb9⟩
          have HA9 := Lib.hid (HA8.out.below hb9)
          have HC9 := Lib.hid (HC8.out.below hb9)
          have HB9 := Lib.hid (below_step HB8.out (hb9.mono HB8.out.size))
          have HR9 := Lib.hid hr9
          clear hr9 hb9 HRA HA8 HC8
          have HRC := Lib.hid (one_read HC9.out 0 65536)
          unfold ReadE at HRC
          rw [readR_all HOK.out] at HRC
          go_wp2_with fail
          refine HRC.out.mono ?_
          rintro e w10 ⟨A10, c10, rfl, hr10, hb10⟩
          have HA10 := Lib.hid (HA9.out.below hb10)
          have HC10 := Lib.hid (HC9.out.below hb10)
          have HB10 := Lib.hid (below_step HB9.out (hb10.mono HB9.out.size))
          have cv1 := (HR9.out.only (Only.of_below (F := fun _ => False) hb10) (fun _ h => h.elim)).conv
          have cv2 := hr10.conv
          generalize strF ba.size (fun j => ba.dat ((0 : Int).toNat + j)) = str at cv1 cv2
          have HCA := Lib.hid (one_chunks HA10.out)
          have HCC := Lib.hid (one_chunks HC10.out)
          have HUA := Lib.hid (one_used HA10.out)
          have HUC := Lib.hid (one_used HC10.out)
          have HHA := Lib.hid (one_holes HA10.out)
          clear hr10 hb10 HRC HR9 HA9 HC9
          go_wp2_with fail
          refine HCA.out.mono ?_
          rintro e w11 ⟨rfl, rfl⟩
          go_wp2_with fail
          refine HCC.out.mono ?_
          rintro e w11 ⟨rfl, rfl⟩
          go_wp2_with fail
          refine HUA.out.mono ?_
          rintro e w11 ⟨rfl, rfl⟩
          go_wp2_with fail
          refine HUC.out.mono ?_
          rintro e w11 ⟨rfl, rfl⟩
          obtain ⟨L, hL⟩ : ∃ L, L = holesL ((ba.size + 15) / 16) ba.th := ⟨_, rfl⟩
          have HHL := Lib.hid (show L.length ≤ 4096 by rw [hL]; have := holesL_le ((ba.size + 15) / 16) ba.th; have := HOK.out.size; omega)
          rw [← hL] at HHA
          have HL := Lib.hid hL
          clear hL cv1 cv2 HCA HCC HUA HUC
          go_wp2_with fail
          refine HHA.out.mono ?_
          rintro e w11 ⟨v, rfl, hown, hb11⟩
          obtain ⟨A11, c11, rfl⟩ := own_slice hown
          have HO11 := Lib.hid hown
          have HB11 := Lib.hid (below_step HB10.out (hb11.mono HB10.out.size))
          have HC11 := Lib.hid (HC10.out.below hb11)
          have HHC := Lib.hid (one_holes HC11.out)
          rw [← HL.out] at HHC
          clear hown hb11 HHA
          go_wp2_with fail
          refine HHC.out.mono ?_
          rintro e w12 ⟨v, rfl, hown, hb12⟩
          obtain ⟨A12, c12, rfl⟩ := own_slice hown
          have HB12 := Lib.hid (below_step HB11.out (hb12.mono HB11.out.size))
          have hown2 := HO11.out.kept (w' := w12) (row := none) ⟨hb12.os, hb12.tape, hb12.output, hb12.size, fun k hk _ => hb12.block k hk⟩ (Classical.em _)
          have HIN := Lib.hid (ints_same w12 L.length c11 c12 _ _ A11 A12 L rfl HHL.out hown2 hown)
          clear hown hb12 HHC hown2
          go_wp2_with fail
          refine HIN.out.mono ?_
          rintro e w13 ⟨rfl, hb13⟩
          have HB13 := Lib.hid (below_step HB12.out (hb13.mono HB12.out.size))
          clear hb13 HIN
          go_wp2_with fail
          go_ret
          exact ⟨rfl, HB13.out⟩
    by_cases hcK : cd = K
    · obtain rfl : K = cd := hcK.symm
      obtain ⟨db, dof, rfl, -⟩ := HD0.out.2 0 (by omega)
      have hc0 : ¬ K = 0 := hn0
      · go_wp2_with fail
        refine (HNEW.out _).mono ?_
        rintro e w2 ⟨rfl, hw2⟩
        have HS2 := Lib.hid (one_new (Nat.le_refl _) hw2)
        have HB2 := Lib.hid (show Below w.heap.size w w2 by rw [hw2]; exact HB1.out.alloc HB1.out.size _)
        have HZ2 := Lib.hid (show w2.heap.size = w1.heap.size + 1 by rw [hw2]; simp)
        clear hw2
        go_wp2_with fail
        refine (HNEW.out _).mono ?_
        rintro e w3 ⟨rfl, hw3⟩
        have HX3 := Lib.hid (one_new (Nat.le_refl _) hw3)
        have hb3 : Below w2.heap.size w2 w3 := by rw [hw3]; exact below_one _ _
        have HS3 := Lib.hid (HS2.out.below hb3)
        have HB3 := Lib.hid (below_step HB2.out (hb3.mono HB2.out.size))
        have HZ3 := Lib.hid (show w3.heap.size = w2.heap.size + 1 by rw [hw3]; simp)
        clear hw3 hb3 HS2
        go_wp2_with fail
        refine (one_body HS3.out).mono ?_
        rintro e w4 ⟨rfl, h4, hb4⟩
        have HA4 := Lib.hid h4
        have HX4 := Lib.hid (HX3.out.below hb4)
        have HB4 := Lib.hid (below_step HB3.out (hb4.mono HB3.out.size))
        clear h4 hb4 HS3 HX3
        go_wp2_with fail
        refine (one_body HX4.out).mono ?_
        rintro e w5 ⟨rfl, h5, hb5⟩
        have HC5 := Lib.hid h5
        have HA5 := Lib.hid (HA4.out.below hb5)
        have HB5 := Lib.hid (below_step HB4.out (hb5.mono HB4.out.size))
        have HFA := Lib.hid (show ∀ x, F1 w1.heap.size (w3.heap.size + 1) w3.heap.size x → w.heap.size ≤ x from fun x hx => by
          have := HB1.out.size
          have := HB3.out.size
          rcases F1_or.1 hx with e | e | e <;> omega)
        have HFC := Lib.hid (show ∀ x, F1 w2.heap.size (w4.heap.size + 1) w4.heap.size x → w.heap.size ≤ x from fun x hx => by
          have := HB2.out.size
          have := HB4.out.size
          rcases F1_or.1 hx with e | e | e <;> omega)
        have HFD := Lib.hid (show ∀ x, F1 w1.heap.size (w3.heap.size + 1) w3.heap.size x → ¬ F1 w2.heap.size (w4.heap.size + 1) w4.heap.size x from fun x hx hy => by
          have h2 := HZ2.out
          have h3 := HZ3.out
          have h4 := HA4.out.F_lt x hx
          rcases F1_or.1 hx with e | e | e <;> rcases F1_or.1 hy with d | d | d <;> omega)
        clear h5 hb5 HA4 HX4
        generalize w1.heap.size = S at *
        generalize w2.heap.size = T at *
        generalize w3.heap.size + 1 = P at *
        generalize w3.heap.size = Q at *
        generalize w4.heap.size + 1 = P2 at *
        generalize w4.heap.size = Q2 at *
        clear HZ2 HZ3 HB1 HB2 HB3 HB4
        have HWA := Lib.hid (one_write HA5.out off (some ⟨db, dof, none⟩) K K f ((HD0.out.below HB5.out).inn HB5.out.size HFA.out) HD0.out.1.1 HD0.out.1.2)
        go_wp2_with fail
        refine HWA.out.mono ?_
        rintro e w6 ⟨p1, err1, rfl, hw6, h6, ho6⟩
        have hp1 := WR_full hw6 ho3
        subst hp1
        have HA6 := Lib.hid h6
        have HC6 := Lib.hid (show One w6 T 65536 P2 Q2 AB.empty from Sys.keep HC5.out ho6 (fun x hx hf => HFD.out x hf hx))
        have HB6 := Lib.hid (ho6.below HB5.out (Nat.le_refl _) HFA.out)
        clear hw6 h6 ho6 HWA HA5 HC5 HB5
        have hby : BytesIn w6 (F1 T P2 Q2) (some ⟨db, dof, none⟩) K f := fun i hi => ((HD0.out.below HB6.out).inn (F := F1 T P2 Q2) HB6.out.size HFC.out) i (Nat.lt_of_lt_of_le hi HKN.out.1)
        have hle1 : K ≤ K := Nat.le_trans HKN.out.1 HKN.out.2.1
        have HWB := Lib.hid (one_write HC6.out off (some ⟨db, dof, none⟩) K K f hby hle1 HD0.out.1.2)
        clear hby hle1
        go_wp2_with fail
        refine HWB.out.mono ?_
        rintro e w7 ⟨p2, err2, rfl, hw7, h7, ho7⟩
        have hp2 := WR_full hw7 ho3
        subst hp2
        have HC7 := Lib.hid h7
        have HA7 := Lib.hid (show One w7 S 65536 P Q (Go.Proofs.Ytpnnonphagddgaa.wr AB.empty off (full off K) f) from Sys.keep HA6.out ho7 HFD.out)
        have HB7 := Lib.hid (ho7.below HB6.out (Nat.le_refl _) HFC.out)
        clear hw7 h7 ho7 HWB HA6 HC6 HB6
        have hby : BytesIn w7 (F1 T P2 Q2) (some ⟨db, dof, none⟩) 0 (fun i => f (K + i)) := fun i hi => absurd hi (Nat.not_lt_zero _)
        have hle1 : 0 ≤ 0 := by have := HKN.out; omega
        have hle2 : 0 ≤ maxLen := Nat.le_trans (by omega) HD0.out.1.2
        have HWC := Lib.hid (one_write HC7.out (off + (K : Int)) (some ⟨db, dof, none⟩) 0 0 (fun i => f (K + i)) hby hle1 hle2)
        clear hby hle1 hle2
        go_wp2_with fail
        refine HWC.out.mono ?_
        rintro e w8 ⟨p3, err3, rfl, hw8, h8, ho8⟩
        have hp3 := WR_full hw8 (by omega)
        subst hp3
        have hEQ : Go.Proofs.Ytpnnonphagddgaa.wr (Go.Proofs.Ytpnnonphagddgaa.wr AB.empty off (full off K) f) (off + (K : Int)) (full (off + (K : Int)) (0)) (fun i => f (K + i)) = Go.Proofs.Ytpnnonphagddgaa.wr AB.empty off (full off K) f := by have := parts_eq (len := K) (k := K) ho3 ho2 (Nat.le_refl _) f; simpa using this
        rw [hEQ] at h8
        have HC8 := Lib.hid h8
        have HA8 := Lib.hid (show One w8 S 65536 P Q (Go.Proofs.Ytpnnonphagddgaa.wr AB.empty off (full off K) f) from Sys.keep HA7.out ho8 HFD.out)
        have HB8 := Lib.hid (ho8.below HB7.out (Nat.le_refl _) HFC.out)
        clear hw8 h8 ho8 HWC HA7 HC7 HB7 hEQ
        generalize Go.Proofs.Ytpnnonphagddgaa.wr AB.empty off (full off K) f = ba at *
        have HOK := Lib.hid HA8.out.ok
        have HRA := Lib.hid (one_read HA8.out 0 65536)
        unfold ReadE at HRA
        rw [readR_all HOK.out] at HRA
        go_wp2_with fail
        refine HRA.out.mono ?_
        rintro e w9 ⟨A9, c9, rfl, hr9, hb9⟩
        have HA9 := Lib.hid (HA8.out.below hb9)
        have HC9 := Lib.hid (HC8.out.below hb9)
        have HB9 := Lib.hid (below_step HB8.out (hb9.mono HB8.out.size))
        have HR9 := Lib.hid hr9
        clear hr9 hb9 HRA HA8 HC8
        have HRC := Lib.hid (one_read HC9.out 0 65536)
        unfold ReadE at HRC
        rw [readR_all HOK.out] at HRC
        go_wp2_with fail
        refine HRC.out.mono ?_
        rintro e w10 ⟨A10, c10, rfl, hr10, hb10⟩
        have HA10 := Lib.hid (HA9.out.below hb10)
        have HC10 := Lib.hid (HC9.out.below hb10)
        have HB10 := Lib.hid (below_step HB9.out (hb10.mono HB9.out.size))
        have cv1 := (HR9.out.only (Only.of_below (F := fun _ => False) hb10) (fun _ h => h.elim)).conv
        have cv2 := hr10.conv
        generalize strF ba.size (fun j => ba.dat ((0 : Int).toNat + j)) = str at cv1 cv2
        have HCA := Lib.hid (one_chunks HA10.out)
        have HCC := Lib.hid (one_chunks HC10.out)
        have HUA := Lib.hid (one_used HA10.out)
        have HUC := Lib.hid (one_used HC10.out)
        have HHA := Lib.hid (one_holes HA10.out)
        clear hr10 hb10 HRC HR9 HA9 HC9
        go_wp2_with fail
        refine HCA.out.mono ?_
        rintro e w11 ⟨rfl, rfl⟩
        go_wp2_with fail
        refine HCC.out.mono ?_
        rintro e w11 ⟨rfl, rfl⟩
        go_wp2_with fail
        refine HUA.out.mono ?_
        rintro e w11 ⟨rfl, rfl⟩
        go_wp2_with fail
        refine HUC.out.mono ?_
        rintro e w11 ⟨rfl, rfl⟩
        obtain ⟨L, hL⟩ : ∃ L, L = holesL ((ba.size + 15) / 16) ba.th := ⟨_, rfl⟩
        have HHL := Lib.hid (show L.length ≤ 4096 by rw [hL]; have := holesL_le ((ba.size + 15) / 16) ba.th; have := HOK.out.size; omega)
        rw [← hL] at HHA
        have HL := Lib.hid hL
        clear hL cv1 cv2 HCA HCC HUA HUC
        go_wp2_with fail
        refine HHA.out.mono ?_
        rintro e w11 ⟨v, rfl, hown, hb11⟩
        obtain ⟨A11, c11, rfl⟩ := own_slice hown
        have HO11 := Lib.hid hown
        have HB11 := Lib.hid (below_step HB10.out (hb11.mono HB10.out.size))
        have HC11 := Lib.hid (HC10.out.below hb11)
        have HHC := Lib.hid (one_holes HC11.out)
        rw [← HL.out] at HHC
        clear hown hb11 HHA
        go_wp2_with fail
        refine HHC.out.mono ?_
        rintro e w12 ⟨v, rfl, hown, hb12⟩
        obtain ⟨A12, c12, rfl⟩ := own_slice hown
        have HB12 := Lib.hid (below_step HB11.out (hb12.mono HB11.out.size))
        have hown2 := HO11.out.kept (w' := w12) (row := none) ⟨hb12.os, hb12.tape, hb12.output, hb12.size, fun k hk _ => hb12.block k hk⟩ (Classical.em _)
        have HIN := Lib.hid (ints_same w12 L.length c11 c12 _ _ A11 A12 L rfl HHL.out hown2 hown)
        clear hown hb12 HHC hown2
        go_wp2_with fail
        refine HIN.out.mono ?_
        rintro e w13 ⟨rfl, hb13⟩
        have HB13 := Lib.hid (below_step HB12.out (hb13.mono HB12.out.size))
        clear hb13 HIN
        go_wp2_with fail
        go_ret
        exact ⟨rfl, HB13.out⟩
    obtain ⟨db, dof, rfl, -⟩ := HD0.out.2 0 (by omega)
    have hc0 : ¬ cd = 0 := by have := HKN.out; omega
    · go_wp2_with fail
      refine (HNEW.out _).mono ?_
      rintro e w2 ⟨rfl, hw2⟩
      have HS2 := Lib.hid (one_new (Nat.le_refl _) hw2)
      have HB2 := Lib.hid (show Below w.heap.size w w2 by rw [hw2]; exact HB1.out.alloc HB1.out.size _)
      have HZ2 := Lib.hid (show w2.heap.size = w1.heap.size + 1 by rw [hw2]; simp)
      clear hw2
      go_wp2_with fail
      refine (HNEW.out _).mono ?_
      rintro e w3 ⟨rfl, hw3⟩
      have HX3 := Lib.hid (one_new (Nat.le_refl _) hw3)
      have hb3 : Below w2.heap.size w2 w3 := by rw [hw3]; exact below_one _ _
      have HS3 := Lib.hid (HS2.out.below hb3)
      have HB3 := Lib.hid (below_step HB2.out (hb3.mono HB2.out.size))
      have HZ3 := Lib.hid (show w3.heap.size = w2.heap.size + 1 by rw [hw3]; simp)
      clear hw3 hb3 HS2
      go_wp2_with fail
      refine (one_body HS3.out).mono ?_
      rintro e w4 ⟨rfl, h4, hb4⟩
      have HA4 := Lib.hid h4
      have HX4 := Lib.hid (HX3.out.below hb4)
      have HB4 := Lib.hid (below_step HB3.out (hb4.mono HB3.out.size))
      clear h4 hb4 HS3 HX3
      go_wp2_with fail
      refine (one_body HX4.out).mono ?_
      rintro e w5 ⟨rfl, h5, hb5⟩
      have HC5 := Lib.hid h5
      have HA5 := Lib.hid (HA4.out.below hb5)
      have HB5 := Lib.hid (below_step HB4.out (hb5.mono HB4.out.size))
      have HFA := Lib.hid (show ∀ x, F1 w1.heap.size (w3.heap.size + 1) w3.heap.size x → w.heap.size ≤ x from fun x hx => by
        have := HB1.out.size
        have := HB3.out.size
        rcases F1_or.1 hx with e | e | e <;> omega)
      have HFC := Lib.hid (show ∀ x, F1 w2.heap.size (w4.heap.size + 1) w4.heap.size x → w.heap.size ≤ x from fun x hx => by
        have := HB2.out.size
        have := HB4.out.size
        rcases F1_or.1 hx with e | e | e <;> omega)
      have HFD := Lib.hid (show ∀ x, F1 w1.heap.size (w3.heap.size + 1) w3.heap.size x → ¬ F1 w2.heap.size (w4.heap.size + 1) w4.heap.size x from fun x hx hy => by
        have h2 := HZ2.out
        have h3 := HZ3.out
        have h4 := HA4.out.F_lt x hx
        rcases F1_or.1 hx with e | e | e <;> rcases F1_or.1 hy with d | d | d <;> omega)
      clear h5 hb5 HA4 HX4
      generalize w1.heap.size = S at *
      generalize w2.heap.size = T at *
      generalize w3.heap.size + 1 = P at *
      generalize w3.heap.size = Q at *
      generalize w4.heap.size + 1 = P2 at *
      generalize w4.heap.size = Q2 at *
      clear HZ2 HZ3 HB1 HB2 HB3 HB4
      have HWA := Lib.hid (one_write HA5.out off (some ⟨db, dof, none⟩) K cd f ((HD0.out.below HB5.out).inn HB5.out.size HFA.out) HD0.out.1.1 HD0.out.1.2)
      go_wp2_with fail
      refine HWA.out.mono ?_
      rintro e w6 ⟨p1, err1, rfl, hw6, h6, ho6⟩
      have hp1 := WR_full hw6 ho3
      subst hp1
      have HA6 := Lib.hid h6
      have HC6 := Lib.hid (show One w6 T 65536 P2 Q2 AB.empty from Sys.keep HC5.out ho6 (fun x hx hf => HFD.out x hf hx))
      have HB6 := Lib.hid (ho6.below HB5.out (Nat.le_refl _) HFA.out)
      clear hw6 h6 ho6 HWA HA5 HC5 HB5
      have hby : BytesIn w6 (F1 T P2 Q2) (some ⟨db, dof, none⟩) K f := fun i hi => ((HD0.out.below HB6.out).inn (F := F1 T P2 Q2) HB6.out.size HFC.out) i (Nat.lt_of_lt_of_le hi HKN.out.1)
      have hle1 : K ≤ cd := Nat.le_trans HKN.out.1 HKN.out.2.1
      have HWB := Lib.hid (one_write HC6.out off (some ⟨db, dof, none⟩) K cd f hby hle1 HD0.out.1.2)
      clear hby hle1
      go_wp2_with fail
      refine HWB.out.mono ?_
      rintro e w7 ⟨p2, err2, rfl, hw7, h7, ho7⟩
      have hp2 := WR_full hw7 ho3
      subst hp2
      have HC7 := Lib.hid h7
      have HA7 := Lib.hid (show One w7 S 65536 P Q (Go.Proofs.Ytpnnonphagddgaa.wr AB.empty off (full off K) f) from Sys.keep HA6.out ho7 HFD.out)
      have HB7 := Lib.hid (ho7.below HB6.out (Nat.le_refl _) HFC.out)
      clear hw7 h7 ho7 HWB HA6 HC6 HB6
      have hby : BytesIn w7 (F1 T P2 Q2) (some ⟨db, dof + K, none⟩) 0 (fun i => f (K + i)) := fun i hi => absurd hi (Nat.not_lt_zero _)
      have hle1 : 0 ≤ (cd - K) := by have := HKN.out; omega
      have hle2 : (cd - K) ≤ maxLen := Nat.le_trans (by omega) HD0.out.1.2
      have HWC := Lib.hid (one_write HC7.out (off + (K : Int)) (some ⟨db, dof + K, none⟩) 0 (cd - K) (fun i => f (K + i)) hby hle1 hle2)
      clear hby hle1 hle2
      go_wp2_with fail
      refine HWC.out.mono ?_
      rintro e w8 ⟨p3, err3, rfl, hw8, h8, ho8⟩
      have hp3 := WR_full hw8 (by omega)
      subst hp3
      have hEQ : Go.Proofs.Ytpnnonphagddgaa.wr (Go.Proofs.Ytpnnonphagddgaa.wr AB.empty off (full off K) f) (off + (K : Int)) (full (off + (K : Int)) (0)) (fun i => f (K + i)) = Go.Proofs.Ytpnnonphagddgaa.wr AB.empty off (full off K) f := by have := parts_eq (len := K) (k := K) ho3 ho2 (Nat.le_refl _) f; simpa using this
      rw [hEQ] at h8
      have HC8 := Lib.hid h8
      have HA8 := Lib.hid (show One w8 S 65536 P Q (Go.Proofs.Ytpnnonphagddgaa.wr AB.empty off (full off K) f) from Sys.keep HA7.out ho8 HFD.out)
      have HB8 := Lib.hid (ho8.below HB7.out (Nat.le_refl _) HFC.out)
      clear hw8 h8 ho8 HWC HA7 HC7 HB7 hEQ
      generalize Go.Proofs.Ytpnnonphagddgaa.wr AB.empty off (full off K) f = ba at *
      have HOK := Lib.hid HA8.out.ok
      have HRA := Lib.hid (one_read HA8.out 0 65536)
      unfold ReadE at HRA
      rw [readR_all HOK.out] at HRA
      go_wp2_with fail
      refine HRA.out.mono ?_
      rintro e w9 ⟨A9, c9, rfl, hr9, hb9⟩
      have HA9 := Lib.hid (HA8.out.below hb9)
      have HC9 := Lib.hid (HC8.out.below hb9)
      have HB9 := Lib.hid (below_step HB8.out (hb9.mono HB8.out.size))
      have HR9 := Lib.hid hr9
      clear hr9 hb9 HRA HA8 HC8
      have HRC := Lib.hid (one_read HC9.out 0 65536)
      unfold ReadE at HRC
      rw [readR_all HOK.out] at HRC
      go_wp2_with fail
      refine HRC.out.mono ?_
      rintro e w10 ⟨A10, c10, rfl, hr10, hb10⟩
      have HA10 := Lib.hid (HA9.out.below hb10)
      have HC10 := Lib.hid (HC9.out.below hb10)
      have HB10 := Lib.hid (below_step HB9.out (hb10.mono HB9.out.size))
      have cv1 := (HR9.out.only (Only.of_below (F := fun _ => False) hb10) (fun _ h => h.elim)).conv
      have cv2 := hr10.conv
      generalize strF ba.size (fun j => ba.dat ((0 : Int).toNat + j)) = str at cv1 cv2
      have HCA := Lib.hid (one_chunks HA10.out)
      have HCC := Lib.hid (one_chunks HC10.out)
      have HUA := Lib.hid (one_used HA10.out)
      have HUC := Lib.hid (one_used HC10.out)
      have HHA := Lib.hid (one_holes HA10.out)
      clear hr10 hb10 HRC HR9 HA9 HC9
      go_wp2_with fail
      refine HCA.out.mono ?_
      rintro e w11 ⟨rfl, rfl⟩
      go_wp2_with fail
      refine HCC.out.mono ?_
      rintro e w11 ⟨rfl, rfl⟩
      go_wp2_with fail
      refine HUA.out.mono ?_
      rintro e w11 ⟨rfl, rfl⟩
      go_wp2_with fail
      refine HUC.out.mono ?_
      rintro e w11 ⟨rfl, rfl⟩
      obtain ⟨L, hL⟩ : ∃ L, L = holesL ((ba.size + 15) / 16) ba.th := ⟨_, rfl⟩
      have HHL := Lib.hid (show L.length ≤ 4096 by rw [hL]; have := holesL_le ((ba.size + 15) / 16) ba.th; have := HOK.out.size; omega)
      rw [← hL] at HHA
      have HL := Lib.hid hL
      clear hL cv1 cv2 HCA HCC HUA HUC
      go_wp2_with fail
      refine HHA.out.mono ?_
      rintro e w11 ⟨v, rfl, hown, hb11⟩
      obtain ⟨A11, c11, rfl⟩ := own_slice hown
      have HO11 := Lib.hid hown
      have HB11 := Lib.hid (below_step HB10.out (hb11.mono HB10.out.size))
      have HC11 := Lib.hid (HC10.out.below hb11)
      have HHC := Lib.hid (one_holes HC11.out)
      rw [← HL.out] at HHC
      clear hown hb11 HHA
      go_wp2_with fail
      refine HHC.out.mono ?_
      rintro e w12 ⟨v, rfl, hown, hb12⟩
      obtain ⟨A12, c12, rfl⟩ := own_slice hown
      have HB12 := Lib.hid (below_step HB11.out (hb12.mono HB11.out.size))
      have hown2 := HO11.out.kept (w' := w12) (row := none) ⟨hb12.os, hb12.tape, hb12.output, hb12.size, fun k hk _ => hb12.block k hk⟩ (Classical.em _)
      have HIN := Lib.hid (ints_same w12 L.length c11 c12 _ _ A11 A12 L rfl HHL.out hown2 hown)
      clear hown hb12 HHC hown2
      go_wp2_with fail
      refine HIN.out.mono ?_
      rintro e w13 ⟨rfl, hb13⟩
      have HB13 := Lib.hid (below_step HB12.out (hb13.mono HB12.out.size))
      clear hb13 HIN
      go_wp2_with fail
      go_ret
      exact ⟨rfl, HB13.out⟩

set_option maxRecDepth 100000 in
theorem lifted (os : Os) (started : os.Started) (H : Type) (enc : TypeId × Value → H) :
    ReturnsInHanded {} Try.checked os 7 .any (Rows.blockPartsSpec.pre6 enc Try.prog Try.f7 Rows.blockPartsRow.domain false) (Rows.blockPartsSpec.post enc Try.prog Try.f7 false true false false) := by
  refine returnsInHanded_of_change (C := Try.checked) own started (by kernel_rfl) Try.func7
    (ChangeSpec.witness6 (enc := enc) (C := Try.checked) false ⟨#[], #[.int .i64 0, .slice none 0 0, .int .u16 0], []⟩ 8 (by kernel_rfl) (by kernel_rfl) (by kernel_rfl) (by kernel_rfl)) ?_
  intro W base args ds gs before hval0 hW hcnd _
  have hval : ∀ (j : Nat) t v, Try.f7.params[j]? = some t → args[j]? = some v → Value.okWide Try.prog W .any base t v := hval0
  have hW' := hW
  obtain ⟨p, q, hA0, hV, rfl, hfz, hnd⟩ := hW
  have hA : DataW.TrodAll enc Try.prog W 0 (fun _ => true) true Try.f7.params.toList args.toList ds p := hA0
  rw [Try.params7] at hA hval
  obtain ⟨v0, vs0, d0, ds0, p0, q0, hargs, rfl, rfl, h0, r0⟩ := trodAll_cons hA
  obtain ⟨v1, vs1, d1, ds1, p1, q1, rfl, rfl, rfl, h1, r1⟩ := trodAll_cons r0
  obtain ⟨v2, vs2, d2, ds2, p2, q2, rfl, rfl, rfl, h2, r2⟩ := trodAll_cons r1
  obtain ⟨rfl, rfl, rfl⟩ := trodAll_nil r2
  obtain rfl : args = #[v0, v1, v2] := by cases args; simp_all
  obtain ⟨rfl, rfl⟩ := trodVars_none hV
  have hlt := fun x hx => hW'.lt x hx
  obtain ⟨a0, rfl, rfl, rfl, w0⟩ := open_int Try.underlying2 (hval 0 2 v0 rfl rfl) h0
  have t1 := h1
  obtain ⟨A1, n1, c1, x1, rfl, s1⟩ := open_bytes (hval 1 33 v1 rfl rfl) h1
  obtain ⟨a2, rfl, rfl, rfl, w2⟩ := open_int Try.underlying61 (hval 2 61 v2 rfl rfl) h2
  clear hA0 hval0
  refine (walk a0 A1 n1 c1 x1 a2 W s1 w2).mono fun e W' ⟨he, hg⟩ => ?_
  subst he
  exact ⟨_, rfl, law_post (pv := []) hW' (fun _ _ _ => (trodAll_cons_mk (shut_bool Try.underlying4 _) trodAll_mk0)) (fun sp hsp => (trodAll_cons_mk (shut_int Try.underlying2 w0) (trodAll_cons_mk (arg_stays (by decide) t1 hg (by simp +contextual) hlt hsp laid) (trodAll_cons_mk (shut_int Try.underlying61 w2) trodAll_mk0)))) (fun _ _ => rfl) (by simp)
    hg (ok_one (by kernel_rfl) rfl (okWide_bool_mk Try.underlying4 _))⟩

theorem over : Rows.blockPartsRow.holds Try.pinned (OpenSpec.ofChange Rows.blockPartsSpec) :=
  OpenClaim.holds_of_wide 7 Try.f7 rfl rfl rfl rfl rfl rfl rfl ⟨rfl, rfl, rfl, rfl, rfl⟩ rfl rfl rfl rfl rfl (by kernel_rfl) Try.func7 (by kernel_rfl)
    (of_decide_eq_true (by kernel_rfl)) (by unfold Func.isWrapper; first | (rw [if_pos (by decide +kernel)]; kernel_rfl) | (rw [if_neg (by decide +kernel)]; exact ⟨rfl, rfl⟩))
    (fun os started H enc _ => lifted os started H enc)

/-- The statement. -/
theorem proved : Rows.BlockPartsSaid :=
  over
end Go.Proofs.Ytpnnonphagddgaa.blockParts
