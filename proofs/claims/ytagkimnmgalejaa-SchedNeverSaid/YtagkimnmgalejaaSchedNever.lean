/- Tasks that each take some of eight locks by rising numbers, to read or to write, and then give them back, are never stuck, and all come to an end, whoever is picked; for any number of tasks (of which 64 are looked at), any locks and any picks. -/
import Derived.Test.YtagkimnmgalejaaRn
import Derived.Test.YtagkimnmgalejaaMo
import Derived.Test.YtagkimnmgalejaaMp
import Derived.Deep.RegionWith
import Derived.Deep.QuietTactic
import Derived.BigQuiet
import Derived.Deep.CutRange
import Derived.Deep.CutBlock
import Derived.Deep.RegionHeld3
import Derived.ProofKit
import Derived.OpenShut
import Derived.Shelf.Abstract
namespace Go.Proofs.Ytagkimnmgalejaa.schedNever
open Go.ChangeShapes Go.WideShapes Go.ChangeAt Go.RowKit
open Go.Proofs.Ytagkimnmgalejaa.sc
set_option linter.unusedVariables false

theorem own : ownKnob Try.prog.godebug = none := by kernel_rfl
theorem laid : laidOutB Try.prog = true := by kernel_rfl

def LkF (F : Nat → Nat) (t k : Nat) : Bool := bits BinOp.and IntKind.u8 ((F t : Int) / 2 ^ k) 1 == 1
set_option maxRecDepth 100000 in
set_option maxHeartbeats 16000000 in
theorem walk (A1 : Option Addr) (n1 c1 : Nat) (F1 : Nat → Nat) (A2 : Option Addr) (n2 c2 : Nat) (F2 : Nat → Nat) (A3 : Option Addr) (n3 c3 : Nat) (F3 : Nat → Nat) (w : World) (hc1 : n1 ≤ c1 ∧ c1 ≤ maxLen) (hF1 : Byts w w.heap.size A1 n1 F1) (hc2 : n2 ≤ c2 ∧ c2 ≤ maxLen) (hF2 : Byts w w.heap.size A2 n2 F2) (hc3 : n3 ≤ c3 ∧ c3 ≤ maxLen) (hF3 : Byts w w.heap.size A3 n3 F3) :
    Calls Try.prog 5 #[.slice A1 n1 c1, .slice A2 n2 c2, .slice A3 n3 c3] w (AwakeE w) := by
  have HAW := Lib.hid (awake_any w)
  have HB1 := Lib.hid hF1
  have HB2 := Lib.hid hF2
  have HB3 := Lib.hid hF3
  clear hc1 hF1 hc2 hF2 hc3 hF3
  go_enter Try.func5, Try.ntmps5
  go_wp2_with fail
  refine HAW.out.mono ?_
  rintro _ w1 ⟨rfl, hb1⟩
  have HW1 := Lib.hid hb1
  clear hb1 HAW
  go_upto_region 3 with fail
  go_cut [7] (fun v wx => ∃ N : Nat, v = .int .i64 N ∧ N ≤ n1 ∧ N ≤ 64 ∧ wx = w1)
  case first =>
    go_wp2_with fail
    go_meet
    case rel => exact ⟨min n1 64, by congr 1; omega, by omega, by omega, rfl⟩
  case rest =>
    obtain ⟨n, rfl, hn1, hn64, rfl⟩ := hcut
    have KN := Lib.hid (y_new HW1.out n hn64)
    go_wp2_with fail
    refine KN.out.mono ?_
    rintro _ w2 ⟨P, rfl, h2, hb2⟩
    obtain ⟨w3, hmk3, hr3, hb3, hs3⟩ := make_row w2 n hn64
    obtain ⟨w4, hmk4, hr4, hb4, hs4⟩ := make_row w3 n hn64
    obtain ⟨ga, hga⟩ : ∃ g, w2.heap.size = g := ⟨_, rfl⟩
    obtain ⟨gw, hgw⟩ : ∃ g, w3.heap.size = g := ⟨_, rfl⟩
    have HGG := Lib.hid (show ga ≠ gw ∧ w.heap.size ≤ ga ∧ w.heap.size ≤ gw from ⟨by omega, by rw [← hga]; exact h2.bel.size, by have := h2.bel.size; omega⟩)
    have HS4 := Lib.hid (show SY w w4 P (fun b => b = ga ∨ b = gw) (Sd.new n) from (h2.over (below_step hb3 hb4)).weaken fun b hb => .inr (by rcases hb with h | h <;> (rw [h]; omega)))
    rw [hga] at hmk3 hr3
    rw [hgw] at hmk4 hr4
    have HA4 := Lib.hid (hr3.below hb4)
    have HW4 := Lib.hid hr4
    clear h2 hb2 hr3 hb3 hs3 hr4 hb4 hs4 hga hgw KN
    go_wp2_with fail
    go_loopg [11] (40 * n) (fun gk u11 wx => ∃ (p : Nat) (s : Sd) (ax wt : Nat → Nat), u11 = .int .i64 p ∧ gk + p = 40 * n ∧ p ≤ 25 * n ∧ Hid (SY w wx P (fun b => b = ga ∨ b = gw) s) ∧ Hid (NRow wx ga n ax) ∧ Hid (NRow wx gw n wt) ∧ Hid (Nv (LkF F1) n s ax wt) ∧ Hid (sumN n (cost s ax wt) + p ≤ 25 * n ∧ s.N ≤ p))
    case atStart => exact ⟨0, Sd.new n, fun _ => 0, fun _ => 0, rfl, by omega, by omega, HS4, HA4, HW4, Lib.hid (nv_new _ n), Lib.hid ⟨by have := cost_start n; omega, Nat.le_refl _⟩⟩
    case round =>
      clear HS4 HA4 HW4 hmk3 hmk4
      obtain ⟨p, s, ax, wt, rfl, hg, hp25, HS, HA, HW, HV, HC⟩ := hrel
      by_cases hlt : p < 40 * n
      · have hlt2 : (p : Int) < 40 * (n : Int) := by omega
        go_upto_region 13 with fail
        go_cut [45] (fun v wx => ∃ b : Bool, v = .bool b ∧ (b = true → 0 < n3) ∧ wx = wr)
        case first =>
          by_cases h3 : 0 < n3
          · by_cases h4 : p < 1000
            · go_wp2_with fail
              go_meet
              case rel => exact ⟨true, by simp <;> omega, fun _ => h3, rfl⟩
            · go_wp2_with fail
              go_meet
              case rel => exact ⟨false, by simp <;> omega, fun h => (nomatch h), rfl⟩
          · go_wp2_with fail
            go_meet
            case rel => exact ⟨false, by simp, fun h => (nomatch h), rfl⟩
        case rest =>
          obtain ⟨b3, rfl, hb3, rfl⟩ := hcut
          have HB33 := Lib.hid hb3
          have HWC := Lib.hid HS.out.bel
          clear hb3
          go_upto_if 45 with (fail)
          go_cut [12] from 32 to 187 (fun v12 wx => ∃ pk : Nat, v12 = .int .i64 pk ∧ pk ≤ 2000 ∧ wx = wc)
          case first =>
            cases b3 with
            | true =>
              have hn3 := HB33.out rfl
              obtain ⟨d, hd⟩ : ∃ d, p % n3 = d := ⟨_, rfl⟩
              have hdl : d < n3 := by rw [← hd]; exact Nat.mod_lt _ hn3
              have hr : (p : Int).tmod (n3 : Int) = (d : Int) := by rw [Int.tmod_eq_emod_of_nonneg (by omega), ← hd]; exact (Int.natCast_emod p n3).symm
              have hmz : (n3 : Int) ≠ 0 := by omega
              obtain ⟨g3, o3, rfl, _, x3, h256⟩ := (HB3.out.below HWC.out) d hdl
              obtain ⟨x, hx⟩ : ∃ x, F3 d = x := ⟨_, rfl⟩
              rw [hx] at x3 h256
              clear hd hx
              go_wp2_with fail
              go_meet
              case rel => exact ⟨x, rfl, by omega, rfl⟩
            | false =>
              go_wp2_with fail
              go_meet
              case rel => exact ⟨p, rfl, by omega, rfl⟩
          case rest =>
            obtain ⟨pk, rfl, hpk, hwq⟩ := hcut
            subst hwq
            have KP := Lib.hid (y_pick HS.out pk (by omega))
            have HLE := Lib.hid HS.out.n64
            by_cases hz : (s.at_ 0).length = 0
            · rw [pick_none hz] at KP
              have hf := HV.out.free hz
              have HF1 := Lib.hid hf
              have HST := Lib.hid (stuck_free hf)
              unfold PickE at KP
              dsimp only [Option.getD_none, Option.isSome_none] at KP
              clear hz hf
              go_wp2_with fail
              refine KP.out.mono ?_
              rintro _ w5 ⟨rfl, hb5⟩
              have H5 := Lib.hid (HS.out.below hb5)
              have KS := Lib.hid (y_stuck H5.out)
              rw [HST.out] at KS
              unfold RetB at KS
              clear hb5 KP
              go_wp2_with fail
              refine KS.out.mono ?_
              rintro _ w6 ⟨rfl, hb6⟩
              have H6 := Lib.hid (H5.out.below hb6)
              have KW := Lib.hid (y_waiting H6.out)
              clear hb6 KS
              go_wp2_with fail
              refine KW.out.mono ?_
              rintro _ w7 hE
              obtain ⟨A7, c7, rfl, ho7, hb7⟩ := hE.lift (Below.refl _ _)
              rw [HF1.out]
              have HF := Lib.hid (show AwakeE w (.returned (.bool true)) w7 from ⟨rfl, below_step H6.out.bel hb7⟩)
              clear hE ho7 hb7 KW
              go_wp2_with fail
              go_ret
              exact HF.out
            · obtain ⟨m, hm⟩ : ∃ m, (s.at_ 0).length = m := ⟨_, rfl⟩
              obtain ⟨t, hpick, htm⟩ := pick_in (p := pk) hm (by omega)
              rw [hpick] at KP
              have HST := Lib.hid (stuck_not hz)
              have HTN := Lib.hid (show t < n ∧ s.T.st t = 0 from by have := at_mem.1 htm; rw [HV.out.c.num] at this; exact this)
              unfold PickE at KP
              dsimp only [Option.getD_some, Option.isSome_some] at KP
              clear hz hm hpick htm
              go_wp2_with fail
              refine KP.out.mono ?_
              rintro _ w5 ⟨rfl, hb5⟩
              have H5 := Lib.hid (HS.out.below hb5)
              have KS := Lib.hid (y_stuck H5.out)
              rw [HST.out] at KS
              unfold RetB at KS
              have HB5 := Lib.hid hb5
              clear hb5 KP
              go_wp2_with fail
              refine KS.out.mono ?_
              rintro _ w6 ⟨rfl, hb6⟩
              have HB6 := Lib.hid (below_step HB5.out hb6)
              have H6 := Lib.hid (HS.out.below HB6.out)
              have HA6 := Lib.hid (HA.out.below HB6.out)
              have HW6 := Lib.hid (HW.out.below HB6.out)
              have htn := HTN.out.1
              have xa := HA6.out.2.1 t htn
              have xw := HW6.out.2.1 t htn
              have fa := HA6.out.2.2
              have fw := HW6.out.2.2
              have HCO := Lib.hid HC.out
              have hle16 := HV.out.c.le t htn
              obtain ⟨a, ha⟩ : ∃ a, ax t = a := ⟨_, rfl⟩
              obtain ⟨v, hv⟩ : ∃ v, wt t = v := ⟨_, rfl⟩
              have HAE := Lib.hid ha
              have HVE := Lib.hid hv
              rw [ha] at xa hle16
              rw [hv] at xw
              have HNE := Lib.hid HGG.out.1
              clear hb6 KS ha hv
              by_cases hw : v = 0
              · have hv0 : ¬ (0 : Int) < (v : Int) := by omega
                have hvz : ¬ 0 < v := by omega
                obtain ⟨g1, o1, rfl, _, x1, h256⟩ := (HB1.out.below H6.out.bel) t (by omega)
                have HLK := Lib.hid (show ∀ k, LkF F1 t k = (bits BinOp.and IntKind.u8 ((F1 t : Int) / 2 ^ k) 1 == 1) from fun k => rfl)
                obtain ⟨y, hy⟩ : ∃ y, F1 t = y := ⟨_, rfl⟩
                rw [hy] at x1 h256 HLK
                have htn1 : t < n1 := by omega
                clear hy
                by_cases h8 : a < 8
                · have HV0 := Lib.hid (HVE.out.trans hw)
                  by_cases hL : LkF F1 t (ax t) = true
                  · as_aux_lemma =>
                      have HLL := Lib.hid hL
                      rw [HAE.out, HLK.out] at hL
                      have HNV := Lib.hid (fun b => HV.out.lock htn HV0.out HTN.out.2 (by rw [HAE.out]; exact h8) HLL.out b)
                      rw [HAE.out] at HNV
                      go_upto_region 25 with fail
                      go_cut [16] (fun v wx => ∃ b : Bool, v = .bool b ∧ wx = w6)
                      case first =>
                        by_cases hn2 : 0 < n2
                        · obtain ⟨d, hd⟩ : ∃ d, t % n2 = d := ⟨_, rfl⟩
                          have hdl : d < n2 := by rw [← hd]; exact Nat.mod_lt _ hn2
                          have hr : (t : Int).tmod (n2 : Int) = (d : Int) := by rw [Int.tmod_eq_emod_of_nonneg (by omega), ← hd]; exact (Int.natCast_emod t n2).symm
                          have hmz : (n2 : Int) ≠ 0 := by omega
                          obtain ⟨g2, o2, rfl, _, x2, h2256⟩ := (HB2.out.below H6.out.bel) d hdl
                          obtain ⟨z, hz⟩ : ∃ z, F2 d = z := ⟨_, rfl⟩
                          rw [hz] at x2 h2256
                          clear hd hz
                          go_wp2_with fail
                          go_meet
                          case rel => exact ⟨_, rfl, rfl⟩
                        · go_wp2_with fail
                          go_meet
                          case rel => exact ⟨_, rfl, rfl⟩
                      case rest =>
                        obtain ⟨bw, rfl, hwq⟩ := hcut
                        subst hwq
                        have KL := Lib.hid (y_lock H6.out (t := (t : Int)) (l := (a : Int)) (by have := HCO.out.1; have := HCO.out.2; omega) (wf_small (by omega) (by omega)) bw)
                        have HLN := Lib.hid (lock_N s (t : Int) (a : Int) bw)
                        have HN := Lib.hid (HNV.out bw)
                        have HCG := Lib.hid (cost_got HV.out (l := (a : Int)) (b := bw) htn HV0.out HTN.out.2 (by rw [HAE.out]; exact h8))
                        have HCW := Lib.hid (cost_wait HV.out (l := (a : Int)) (b := bw) htn HV0.out HTN.out.2 (by rw [HAE.out]; exact h8))
                        unfold YL at KL
                        obtain ⟨r, hr⟩ : ∃ r, s.lock (t : Int) (a : Int) bw = r := ⟨_, rfl⟩
                        rw [hr] at KL HLN HN HCG HCW
                        obtain ⟨r1, r2, r3⟩ := r
                        dsimp only at KL HLN HN HCG HCW
                        have hr2 := HN.out.1
                        subst hr2
                        clear hr x1 xa xw fa fw
                        cases r1 with
                        | true =>
                          as_aux_lemma =>
                            have HV9 := Lib.hid (HN.out.2.1 rfl)
                            rw [← HAE.out] at HV9
                            go_wp2_with fail
                            refine KL.out.mono ?_
                            rintro _ w7 ⟨rfl, h7, hs7⟩
                            have H7 := Lib.hid h7
                            have HA7 := Lib.hid (HA6.out.keep (h7.lt (.inl rfl)) (hs7 ga (.inl rfl)))
                            have HW7 := Lib.hid (HW6.out.keep (h7.lt (.inr rfl)) (hs7 gw (.inr rfl)))
                            clear h7 hs7 KL
                            have ya := HA7.out.2.1 t htn
                            have yf := HA7.out.2.2
                            rw [HAE.out] at ya
                            obtain ⟨w9, hw9⟩ : ∃ w9, w7.setCell ⟨ga, t, none⟩ (.int .i64 ((a + 1 : Nat) : Int)) = w9 := ⟨_, rfl⟩
                            have HA9 := Lib.hid (show NRow w9 ga n (upn ax t (ax t + 1)) from by rw [← hw9, HAE.out]; exact HA7.out.put htn (a + 1))
                            have HW9 := Lib.hid (show NRow w9 gw n wt from by rw [← hw9]; exact HW7.out.other (fun e => HNE.out e.symm) _)
                            have H9 := Lib.hid (show SY w w9 P (fun b => b = ga ∨ b = gw) r3 from by rw [← hw9]; exact H7.out.cell (.inl rfl) HGG.out.2.1 _)
                            rw [show ((a + 1 : Nat) : Int) = (a : Int) + 1 by omega] at hw9
                            have HCS := Lib.hid HCG.out
                            go_wp2_with fail
                            go_roundg (gk - 1)
                            case measure => omega
                            case rel => exact ⟨p + 1, r3, upn ax t (ax t + 1), wt, by go_num, by omega, by have := HCO.out.1; have := HCS.out; omega, H9, HA9, HW9, HV9, Lib.hid ⟨by have := HCO.out.1; have := HCS.out; omega, by have := HCO.out.2; have := HLN.out.1; omega⟩⟩
                        | false =>
                          as_aux_lemma =>
                            have HV9 := Lib.hid (HN.out.2.2 rfl)
                            rw [← HAE.out] at HV9
                            go_wp2_with fail
                            refine KL.out.mono ?_
                            rintro _ w7 ⟨rfl, h7, hs7⟩
                            have H7 := Lib.hid h7
                            have HA7 := Lib.hid (HA6.out.keep (h7.lt (.inl rfl)) (hs7 ga (.inl rfl)))
                            have HW7 := Lib.hid (HW6.out.keep (h7.lt (.inr rfl)) (hs7 gw (.inr rfl)))
                            clear h7 hs7 KL
                            have yw := HW7.out.2.1 t htn
                            have yf := HW7.out.2.2
                            obtain ⟨w9, hw9⟩ : ∃ w9, w7.setCell ⟨gw, t, none⟩ (.int .i64 ((a + 1 : Nat) : Int)) = w9 := ⟨_, rfl⟩
                            have HW9 := Lib.hid (show NRow w9 gw n (upn wt t (ax t + 1)) from by rw [← hw9, HAE.out]; exact HW7.out.put htn (a + 1))
                            have HA9 := Lib.hid (show NRow w9 ga n ax from by rw [← hw9]; exact HA7.out.other (fun e => HNE.out e) _)
                            have H9 := Lib.hid (show SY w w9 P (fun b => b = ga ∨ b = gw) r3 from by rw [← hw9]; exact H7.out.cell (.inr rfl) HGG.out.2.2 _)
                            rw [show ((a + 1 : Nat) : Int) = (a : Int) + 1 by omega] at hw9
                            go_wp2_with fail
                            go_roundg (gk - 1)
                            case measure => omega
                            case rel => exact ⟨p + 1, r3, ax, upn wt t (ax t + 1), by go_num, by omega, by have := HCO.out.1; have := HCW.out; omega, H9, HA9, HW9, HV9, Lib.hid ⟨by have := HCO.out.1; have := HCW.out; omega, by have := HCO.out.2; have := HLN.out.1; omega⟩⟩
                  · as_aux_lemma =>
                      have hLf : LkF F1 t (ax t) = false := by simpa using hL
                      have HLF := Lib.hid hLf
                      rw [HAE.out, HLK.out] at hLf
                      clear hL
                      have ya := HA6.out.2.1 t htn
                      have yf := HA6.out.2.2
                      rw [HAE.out] at ya
                      obtain ⟨w9, hw9⟩ : ∃ w9, w6.setCell ⟨ga, t, none⟩ (.int .i64 ((a + 1 : Nat) : Int)) = w9 := ⟨_, rfl⟩
                      have HA9 := Lib.hid (show NRow w9 ga n (upn ax t (ax t + 1)) from by rw [← hw9, HAE.out]; exact HA6.out.put htn (a + 1))
                      have HW9 := Lib.hid (show NRow w9 gw n wt from by rw [← hw9]; exact HW6.out.other (fun e => HNE.out e.symm) _)
                      have H9 := Lib.hid (show SY w w9 P (fun b => b = ga ∨ b = gw) s from by rw [← hw9]; exact H6.out.cell (.inl rfl) HGG.out.2.1 _)
                      rw [show ((a + 1 : Nat) : Int) = (a : Int) + 1 by omega] at hw9
                      have HV9 := Lib.hid (show Nv (LkF F1) n s (upn ax t (ax t + 1)) wt from HV.out.skip htn (HVE.out.trans hw) HTN.out.2 (by have := HAE.out; omega) (fun _ => HLF.out) (fun h => by have := HAE.out; omega))
                      have HCS := Lib.hid (cost_skip (s := s) (ax := ax) (wx := wt) htn (HVE.out.trans hw) HTN.out.2 (by have := HAE.out; omega))
                      go_wp2_with fail
                      go_roundg (gk - 1)
                      case measure => omega
                      case rel => exact ⟨p + 1, s, upn ax t (ax t + 1), wt, by go_num, by omega, by have := HCO.out.1; have := HCS.out; omega, H9, HA9, HW9, HV9, Lib.hid ⟨by have := HCO.out.1; have := HCS.out; omega, by have := HCO.out.2; omega⟩⟩
                · have HV0 := Lib.hid (HVE.out.trans hw)
                  by_cases h16 : a < 16
                  · obtain ⟨d8, hd8⟩ : ∃ d, a - 8 = d := ⟨_, rfl⟩
                    have hd9 : (a : Int) - 8 = (d8 : Int) := by omega
                    have hd88 : d8 < 8 := by omega
                    have HD8 := Lib.hid hd8
                    clear hd8
                    by_cases hL : LkF F1 t (ax t - 8) = true
                    · have HLL := Lib.hid hL
                      rw [HAE.out, HD8.out, HLK.out] at hL
                      have KU := Lib.hid (y_unlock H6.out (t := (t : Int)) (l := (d8 : Int)) (by have := HCO.out.1; have := HCO.out.2; omega) (wf_small (by omega) (by omega)))
                      have HUN := Lib.hid (unlock_N s (t : Int) (d8 : Int))
                      have HN := Lib.hid (HV.out.unlock htn HV0.out HTN.out.2 (by rw [HAE.out]; omega) (by rw [HAE.out]; exact h16) HLL.out)
                      have HCB := Lib.hid (cost_back HV.out (l := (d8 : Int)) htn HV0.out HTN.out.2 (by rw [HAE.out]; omega) (by rw [HAE.out]; exact h16))
                      have HAD := Lib.hid (show ax t - 8 = d8 from by rw [HAE.out]; exact HD8.out)
                      rw [HAD.out] at HN
                      unfold YU at KU
                      obtain ⟨r, hr⟩ : ∃ r, s.unlock (t : Int) (d8 : Int) = r := ⟨_, rfl⟩
                      rw [hr] at KU HUN HN HCB
                      obtain ⟨r1, r3⟩ := r
                      dsimp only at KU HUN HN HCB
                      have hr1 := HN.out.1
                      subst hr1
                      have HV9 := Lib.hid HN.out.2
                      clear hr
                      go_wp2_with fail
                      refine KU.out.mono ?_
                      rintro _ w7 ⟨rfl, h7, hs7⟩
                      have H7 := Lib.hid h7
                      have HA7 := Lib.hid (HA6.out.keep (h7.lt (.inl rfl)) (hs7 ga (.inl rfl)))
                      have HW7 := Lib.hid (HW6.out.keep (h7.lt (.inr rfl)) (hs7 gw (.inr rfl)))
                      clear h7 hs7 KU x1 xa xw fa fw
                      have ya := HA7.out.2.1 t htn
                      have yf := HA7.out.2.2
                      rw [HAE.out] at ya
                      obtain ⟨w9, hw9⟩ : ∃ w9, w7.setCell ⟨ga, t, none⟩ (.int .i64 ((a + 1 : Nat) : Int)) = w9 := ⟨_, rfl⟩
                      have HA9 := Lib.hid (show NRow w9 ga n (upn ax t (ax t + 1)) from by rw [← hw9, HAE.out]; exact HA7.out.put htn (a + 1))
                      have HW9 := Lib.hid (show NRow w9 gw n wt from by rw [← hw9]; exact HW7.out.other (fun e => HNE.out e.symm) _)
                      have H9 := Lib.hid (show SY w w9 P (fun b => b = ga ∨ b = gw) r3 from by rw [← hw9]; exact H7.out.cell (.inl rfl) HGG.out.2.1 _)
                      rw [show ((a + 1 : Nat) : Int) = (a : Int) + 1 by omega] at hw9
                      have HCS := Lib.hid HCB.out
                      go_wp2_with fail
                      go_roundg (gk - 1)
                      case measure => omega
                      case rel => exact ⟨p + 1, r3, upn ax t (ax t + 1), wt, by go_num, by omega, by have := HCO.out.1; have := HCS.out; omega, H9, HA9, HW9, HV9, Lib.hid ⟨by have := HCO.out.1; have := HCS.out; omega, by have := HCO.out.2; have := HUN.out.1; omega⟩⟩
                    · as_aux_lemma =>
                        have hLf : LkF F1 t (ax t - 8) = false := by simpa using hL
                        have HLF := Lib.hid hLf
                        rw [HAE.out, HD8.out, HLK.out] at hLf
                        clear hL
                        have ya := HA6.out.2.1 t htn
                        have yf := HA6.out.2.2
                        rw [HAE.out] at ya
                        obtain ⟨w9, hw9⟩ : ∃ w9, w6.setCell ⟨ga, t, none⟩ (.int .i64 ((a + 1 : Nat) : Int)) = w9 := ⟨_, rfl⟩
                        have HA9 := Lib.hid (show NRow w9 ga n (upn ax t (ax t + 1)) from by rw [← hw9, HAE.out]; exact HA6.out.put htn (a + 1))
                        have HW9 := Lib.hid (show NRow w9 gw n wt from by rw [← hw9]; exact HW6.out.other (fun e => HNE.out e.symm) _)
                        have H9 := Lib.hid (show SY w w9 P (fun b => b = ga ∨ b = gw) s from by rw [← hw9]; exact H6.out.cell (.inl rfl) HGG.out.2.1 _)
                        rw [show ((a + 1 : Nat) : Int) = (a : Int) + 1 by omega] at hw9
                        have HV9 := Lib.hid (show Nv (LkF F1) n s (upn ax t (ax t + 1)) wt from HV.out.skip htn (HVE.out.trans hw) HTN.out.2 (by have := HAE.out; omega) (fun h => by have := HAE.out; omega) (fun _ => HLF.out))
                        have HCS := Lib.hid (cost_skip (s := s) (ax := ax) (wx := wt) htn (HVE.out.trans hw) HTN.out.2 (by have := HAE.out; omega))
                        go_wp2_with fail
                        go_roundg (gk - 1)
                        case measure => omega
                        case rel => exact ⟨p + 1, s, upn ax t (ax t + 1), wt, by go_num, by omega, by have := HCO.out.1; have := HCS.out; omega, H9, HA9, HW9, HV9, Lib.hid ⟨by have := HCO.out.1; have := HCS.out; omega, by have := HCO.out.2; omega⟩⟩
                  · as_aux_lemma =>
                      have ha16 : a = 16 := by omega
                      have KD := Lib.hid (y_done H6.out (t : Int))
                      have HN := Lib.hid (HV.out.done htn HV0.out HTN.out.2 (by rw [HAE.out]; exact ha16))
                      have HDN := Lib.hid (done_N s (t : Int))
                      unfold YU at KD
                      obtain ⟨r, hr⟩ : ∃ r, s.done (t : Int) = r := ⟨_, rfl⟩
                      rw [hr] at KD HN HDN
                      obtain ⟨r1, r3⟩ := r
                      dsimp only at KD HN HDN
                      have hr1 := HN.out.1
                      subst hr1
                      have HCS := Lib.hid (cost_done (ax := ax) (wx := wt) htn HTN.out.2 (by rw [HAE.out]; exact ha16) HN.out.2.2.1 HN.out.2.2.2)
                      clear hr ha16
                      go_wp2_with fail
                      refine KD.out.mono ?_
                      rintro _ w7 ⟨rfl, h7, hs7⟩
                      have H7 := Lib.hid h7
                      have HA7 := Lib.hid (HA6.out.keep (h7.lt (.inl rfl)) (hs7 ga (.inl rfl)))
                      have HW7 := Lib.hid (HW6.out.keep (h7.lt (.inr rfl)) (hs7 gw (.inr rfl)))
                      clear h7 hs7 KD
                      go_wp2_with fail
                      go_roundg (gk - 1)
                      case measure => omega
                      case rel => exact ⟨p + 1, r3, ax, wt, by go_num, by omega, by have := HCO.out.1; have := HCS.out; omega, H7, HA7, HW7, Lib.hid HN.out.2.1, Lib.hid ⟨by have := HCO.out.1; have := HCS.out; omega, by have := HCO.out.2; have := HDN.out.1; omega⟩⟩
              · as_aux_lemma =>
                  have hv0 : 0 < v := by omega
                  have hvn : (0 : Int) < (v : Int) := by omega
                  obtain ⟨w7, hw7⟩ : ∃ w7, w6.setCell ⟨gw, t, none⟩ (.int .i64 0) = w7 := ⟨_, rfl⟩
                  have HA7 := Lib.hid (show NRow w7 ga n ax from by rw [← hw7]; exact HA6.out.other (fun e => HNE.out e) _)
                  have HW7 := Lib.hid (show NRow w7 gw n (upn wt t 0) from by rw [← hw7]; exact HW6.out.put htn 0)
                  have H7 := Lib.hid (show SY w w7 P (fun b => b = ga ∨ b = gw) s from by rw [← hw7]; exact H6.out.cell (.inr rfl) HGG.out.2.2 _)
                  have ya := HA7.out.2.1 t htn
                  have yf := HA7.out.2.2
                  rw [HAE.out] at ya
                  obtain ⟨w8, hw8⟩ : ∃ w8, w7.setCell ⟨ga, t, none⟩ (.int .i64 ((a + 1 : Nat) : Int)) = w8 := ⟨_, rfl⟩
                  have HA8 := Lib.hid (show NRow w8 ga n (upn ax t (ax t + 1)) from by rw [← hw8, HAE.out]; exact HA7.out.put htn (a + 1))
                  have HW8 := Lib.hid (show NRow w8 gw n (upn wt t 0) from by rw [← hw8]; exact HW7.out.other (fun e => HNE.out e.symm) _)
                  have H8 := Lib.hid (show SY w w8 P (fun b => b = ga ∨ b = gw) s from by rw [← hw8]; exact H7.out.cell (.inl rfl) HGG.out.2.1 _)
                  have HV8 := Lib.hid (HV.out.next htn (by rw [HVE.out]; exact hw) HTN.out.2)
                  have HCS := Lib.hid (cost_next HV.out htn (by rw [HVE.out]; exact hw) HTN.out.2)
                  rw [show ((a + 1 : Nat) : Int) = (a : Int) + 1 by omega] at hw8
                  go_wp2_with fail
                  go_roundg (gk - 1)
                  case measure => omega
                  case rel => exact ⟨p + 1, s, _, _, by go_num, by omega, by have := HCO.out.1; have := HCS.out; omega, H8, HA8, HW8, HV8, Lib.hid ⟨by have := HCO.out.1; have := HCS.out; omega, by have := HCO.out.2; omega⟩⟩
      · have hn0 : n = 0 := by omega
        subst hn0
        have hp0 : p = 0 := by omega
        subst hp0
        have KR := Lib.hid (y_ready HS.out)
        have HR0 := Lib.hid (show (s.at_ 0).length = 0 ∧ (s.at_ 1).length = 0 from by
          have h1 := at_le s 0
          have h2 := at_le s 1
          have h3 := HV.out.c.num
          omega)
        clear hlt
        go_wp2_with fail
        refine KR.out.mono ?_
        rintro _ w5 hE
        obtain ⟨A5, c5, rfl, ho5, hb5⟩ := hE.lift (Below.refl _ _)
        have H5 := Lib.hid (HS.out.below hb5)
        have KW := Lib.hid (y_waiting H5.out)
        rw [HR0.out.1]
        clear hE ho5 hb5 KR
        go_wp2_with fail
        refine KW.out.mono ?_
        rintro _ w6 hE
        obtain ⟨A6, c6, rfl, ho6, hb6⟩ := hE.lift (Below.refl _ _)
        rw [HR0.out.2]
        have HF := Lib.hid (show AwakeE w (.returned (.bool true)) w6 from ⟨rfl, below_step H5.out.bel hb6⟩)
        clear hE ho6 hb6 KW
        go_wp2_with fail
        go_ret
        exact HF.out

set_option maxRecDepth 100000 in
theorem lifted (os : Os) (started : os.Started) (H : Type) (enc : TypeId × Value → H) :
    ReturnsInHanded {} Try.checked os 5 .any (Rows.schedNeverSpec.pre6 enc Try.prog Try.f5 Rows.schedNeverRow.domain false) (Rows.schedNeverSpec.post enc Try.prog Try.f5 false true false false) := by
  refine returnsInHanded_of_change (C := Try.checked) own started (by kernel_rfl) Try.func5
    (ChangeSpec.witness6 (enc := enc) (C := Try.checked) false ⟨#[], #[.slice none 0 0, .slice none 0 0, .slice none 0 0], []⟩ 8 (by kernel_rfl) (by kernel_rfl) (by kernel_rfl) (by kernel_rfl)) ?_
  intro W base args ds gs before hval0 hW hcnd _
  have hval : ∀ (j : Nat) t v, Try.f5.params[j]? = some t → args[j]? = some v → Value.okWide Try.prog W .any base t v := hval0
  have hW' := hW
  obtain ⟨p, q, hA0, hV, rfl, hfz, hnd⟩ := hW
  have hA : DataW.TrodAll enc Try.prog W 0 (fun _ => true) true Try.f5.params.toList args.toList ds p := hA0
  rw [Try.params5] at hA hval
  obtain ⟨v0, vs0, d0, ds0, p0, q0, hargs, rfl, rfl, h0, r0⟩ := trodAll_cons hA
  obtain ⟨v1, vs1, d1, ds1, p1, q1, rfl, rfl, rfl, h1, r1⟩ := trodAll_cons r0
  obtain ⟨v2, vs2, d2, ds2, p2, q2, rfl, rfl, rfl, h2, r2⟩ := trodAll_cons r1
  obtain ⟨rfl, rfl, rfl⟩ := trodAll_nil r2
  obtain rfl : args = #[v0, v1, v2] := by cases args; simp_all
  obtain ⟨rfl, rfl⟩ := trodVars_none hV
  have hlt := fun x hx => hW'.lt x hx
  have t0 := h0
  obtain ⟨A0, n0, c0, x0, rfl, e0, s0⟩ := open_bytes (hval 0 40 v0 rfl rfl) h0
  have t1 := h1
  obtain ⟨A1, n1, c1, x1, rfl, e1, s1⟩ := open_bytes (hval 1 40 v1 rfl rfl) h1
  have t2 := h2
  obtain ⟨A2, n2, c2, x2, rfl, e2, s2⟩ := open_bytes (hval 2 40 v2 rfl rfl) h2
  clear hA0 hval0
  refine (walk A0 n0 c0 x0 A1 n1 c1 x1 A2 n2 c2 x2 W e0 s0 e1 s1 e2 s2).mono fun e W' ⟨he, hg⟩ => ?_
  subst he
  exact ⟨_, rfl, law_post (pv := []) hW' (fun _ _ _ => (trodAll_cons_mk (shut_bool Try.underlying4 _) trodAll_mk0)) (fun sp hsp => (trodAll_cons_mk (arg_stays (by decide) t0 hg (by simp +contextual) hlt hsp laid) (trodAll_cons_mk (arg_stays (by decide) t1 hg (by simp +contextual) hlt hsp laid) (trodAll_cons_mk (arg_stays (by decide) t2 hg (by simp +contextual) hlt hsp laid) trodAll_mk0)))) (fun _ _ => rfl) (by simp)
    hg (ok_one (by kernel_rfl) rfl (okWide_bool_mk Try.underlying4 _))⟩

theorem over : Rows.schedNeverRow.holds Try.pinned (OpenSpec.ofChange Rows.schedNeverSpec) :=
  OpenClaim.holds_of_wide 5 Try.f5 rfl rfl rfl rfl rfl rfl rfl ⟨rfl, rfl, rfl, rfl, rfl⟩ rfl rfl rfl rfl rfl (by kernel_rfl) Try.func5 (by kernel_rfl)
    (of_decide_eq_true (by kernel_rfl)) (by unfold Func.isWrapper; first | (rw [if_pos (by decide +kernel)]; kernel_rfl) | (rw [if_neg (by decide +kernel)]; exact ⟨rfl, rfl⟩))
    (fun os started H enc _ => lifted os started H enc)

/-- The statement. -/
theorem proved : Rows.SchedNeverSaid :=
  over
end Go.Proofs.Ytagkimnmgalejaa.schedNever
