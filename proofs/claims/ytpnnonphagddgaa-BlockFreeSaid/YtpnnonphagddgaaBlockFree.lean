/- For every room, every list of acts, every place and any bytes the law BlockFree returns true, and what is handed in reads as it did; there are no conditions. -/
import Derived.Test.YtpnnonphagddgaaLaw1
import Derived.Deep.RegionWith
import Derived.ProofKit
import Derived.OpenShut
namespace Go.Proofs.Ytpnnonphagddgaa.blockFree
open Go.ChangeShapes Go.WideShapes Go.ChangeAt Go.RowKit
set_option linter.unusedVariables false

theorem own : ownKnob Try.prog.godebug = none := by kernel_rfl
theorem laid : laidOutB Try.prog = true := by kernel_rfl

theorem cut0 {b : AB} : (cut b 0).size = 0 ∧ (cut b 0).n = 0 ∧ holesL (((cut b 0).size + 15) / 16) (cut b 0).th = [] := by
  have h1 : cut b 0 = cutB b 0 := by unfold cut; rw [if_pos (by omega)]; rfl
  rw [h1]
  refine ⟨rfl, ?_, by show (List.range ((0 + 15) / 16)).filter _ = []; simp⟩
  have := cnt_le (N := 4096) (f := (cutB b 0).th) (g := fun _ => false) (fun k hk => by unfold cutB at hk; simp at hk)
  rw [cnt_none] at this
  exact Nat.le_zero.1 this

set_option maxHeartbeats 8000000 in
set_option maxRecDepth 100000 in
theorem walk (room : Int) (A : Option Addr) (n c : Nat) (F : Nat → Act5) (off : Int) (Ad : Option Addr) (nd cd : Nat) (fd : Nat → UInt8) (w : World) (k1 : n ≤ c ∧ c ≤ maxLen) (hF : Acts w w.heap.size A n F) (hd : Src w w.heap.size Ad nd cd fd) :
    Calls Try.prog 9 #[.int .i64 room, .slice A n c, .int .i64 off, .slice Ad nd cd] w (AwakeE w) := by
  have HD0 := Lib.hid hd
  have hndm : (nd : Int) ≤ 9223372036854775807 := by have := hd.1.1; have := hd.1.2; unfold maxLen at this; omega
  clear hd
  have hnm : (n : Int) ≤ 9223372036854775807 := by have := k1.1; have := k1.2; unfold maxLen at this; omega
  clear k1
  have HF0 := Lib.hid hF
  clear hF
  go_enter Try.func9, Try.ntmps9
  go_wp2_with fail
  refine (awake_any _).mono ?_
  rintro e w1 ⟨rfl, hb1⟩
  have HB1 := Lib.hid hb1
  clear hb1
  by_cases hr : 0 ≤ room ∧ room ≤ 65536
  · obtain ⟨R, hR⟩ : ∃ R : Nat, room = (R : Int) := ⟨room.toNat, by omega⟩
    have HRM := Lib.hid (show R ≤ 65536 by omega)
    subst hR
    clear hr
    go_wp2_with fail
    refine (new_yes R w1 HRM.out).mono ?_
    rintro e w2 ⟨rfl, hw2⟩
    have HS2 := Lib.hid (one_new HRM.out hw2)
    have HB2 := Lib.hid (show Below w.heap.size w w2 by rw [hw2]; exact HB1.out.alloc HB1.out.size _)
    have HZ := Lib.hid (show w2.heap.size = w1.heap.size + 1 by rw [hw2]; simp)
    clear hw2
    have HNT := Lib.hid (new_yes R w2 HRM.out)
    go_wp2_with fail
    refine HNT.out.mono ?_
    rintro e w2b ⟨rfl, hw2⟩
    have HX0 := Lib.hid (one_new HRM.out hw2)
    have hb2 : Below w2.heap.size w2 w2b := by rw [hw2]; exact below_one _ _
    have HS2b := Lib.hid (HS2.out.below hb2)
    have HB2b := Lib.hid (below_step HB2.out (hb2.mono HB2.out.size))
    have HZ2 := Lib.hid (show w2b.heap.size = w2.heap.size + 1 by rw [hw2]; simp)
    clear hw2 hb2 HNT HS2
    by_cases hbig : 4096 < (nd : Int)
    · have hbd : decide (4096 < nd) = true := by simp; omega
      go_wp2_with fail
      go_ret
      exact ⟨rfl, HB2b.out⟩
    have hbd : decide (4096 < nd) = false := by simp; omega
    go_wp2_with fail
    refine (one_body HS2b.out).mono ?_
    rintro e w3 ⟨rfl, h3, hb3⟩
    have HF := Lib.hid (show ∀ x, F1 w1.heap.size (w2b.heap.size + 1) w2b.heap.size x → w.heap.size ≤ x from fun x hx => by
      have := HB1.out.size
      have := HB2b.out.size
      rcases F1_or.1 hx with e | e | e <;> omega)
    have HTF := Lib.hid (show w.heap.size ≤ w2.heap.size ∧ ¬ F1 w1.heap.size (w2b.heap.size + 1) w2b.heap.size w2.heap.size from ⟨HB2.out.size, fun hx => by
      have := HZ.out
      have := HZ2.out
      rcases F1_or.1 hx with e | e | e <;> omega⟩)
    have HB3 := Lib.hid (below_step HB2b.out (hb3.mono HB2b.out.size))
    have HT3 := Lib.hid h3
    have HX3 := Lib.hid (HX0.out.below hb3)
    clear h3 hb3 HS2b HX0
    generalize w1.heap.size = S at *
    generalize w2.heap.size = T at *
    generalize w2b.heap.size + 1 = P at *
    generalize w2b.heap.size = Q at *
    clear HZ HZ2 HB1 HB2 HB2b
    have HXB := Lib.hid (show ∀ v v', Sys v T R 0 (fun _ => 0) (fun _ => 0) (fun _ => AB.empty) → Below v.heap.size v v' → Sys v' T R 0 (fun _ => 0) (fun _ => 0) (fun _ => AB.empty) from fun v v' h hb => h.below hb)
    have HXO := Lib.hid (show ∀ v v', Sys v T R 0 (fun _ => 0) (fun _ => 0) (fun _ => AB.empty) → Only (F1 S P Q) v v' → Sys v' T R 0 (fun _ => 0) (fun _ => 0) (fun _ => AB.empty) from fun v v' h ho => h.keep ho (fun x hx => by
      rcases hx with rfl | ⟨k, hk, _⟩
      · exact HTF.out.2
      · exact absurd hk (Nat.not_lt_zero _)))
    go_wp2_with fail
    go_loopg [12] 60 (fun g s wr => ∃ (k : Nat) (b : AB), g + k = 60 ∧ k ≤ n ∧ s = .int .i64 (k : Int) ∧ Hid (One wr S R P Q b) ∧ Hid (Below w.heap.size w wr) ∧ Hid (Sys wr T R 0 (fun _ => 0) (fun _ => 0) (fun _ => AB.empty)))
    case atStart => exact ⟨0, AB.empty, by omega, by omega, rfl, HT3, HB3, HX3⟩
    case round =>
      clear HT3 HB3 HX3
      obtain ⟨k, b, hgk, hk, rfl, HT, HBL, HX⟩ := hrel
      have hk60 : k ≤ 60 := by omega
      by_cases hgo : k < n ∧ k < 60
      · obtain ⟨hkn, hk2⟩ := hgo
        obtain ⟨ab, ao, rfl, hab, f0, f1, f2, f3, f4, hsrc⟩ := (HF0.out.below HBL.out) k hkn
        generalize F k = x at *
        have HSRC := Lib.hid hsrc
        have HW := Lib.hid HBL.out.size
        have HAB := Lib.hid hab
        have habr : ab < wr.heap.size := Nat.lt_of_lt_of_le hab HBL.out.size
        have HL := Lib.hid (large_any x wr (Nat.le_trans hsrc.1.1 hsrc.1.2))
        clear hsrc hab
        cases hlb : largeB x
        · rw [hlb] at HL
          go_wp2_with fail
          refine HL.out.mono ?_
          rintro e w4 ⟨rfl, hb4⟩
          have g0 := (hb4.cell (p := ⟨ab, ao + k * 5, none⟩) habr).trans f0
          have g1 := (hb4.cell (p := ⟨ab, ao + k * 5 + 1, none⟩) habr).trans f1
          have g2 := (hb4.cell (p := ⟨ab, ao + k * 5 + 2, none⟩) habr).trans f2
          have g3 := (hb4.cell (p := ⟨ab, ao + k * 5 + 3, none⟩) habr).trans f3
          have g4 := (hb4.cell (p := ⟨ab, ao + k * 5 + 4, none⟩) habr).trans f4
          have HB4 := Lib.hid (below_step HBL.out (hb4.mono HW.out))
          have HP := Lib.hid (one_play (HT.out.below hb4) x HB4.out.size HF.out (HSRC.out.below (hb4.mono HW.out)))
          have hab4 : ab < w4.heap.size := Nat.lt_of_lt_of_le habr hb4.size
          have HX4 := Lib.hid (HXB.out _ _ HX.out hb4)
          clear hb4 HX f0 f1 f2 f3 f4 habr HL hlb HT HBL
          go_wp2_with fail
          refine HP.out.mono ?_
          rintro e w5 ⟨rfl, b', h5, ho5⟩
          have HT5 := Lib.hid h5
          have HB5 := Lib.hid (ho5.below HB4.out (Nat.le_refl _) HF.out)
          have HX5 := Lib.hid (HXO.out _ _ HX4.out ho5)
          clear h5 ho5 HX4 HP g0 g1 g2 g3 g4
          go_wp2_with fail
          go_roundg (gk - 1)
          case measure => omega
          case rel => exact ⟨k + 1, b', by omega, by omega, by go_num, HT5, HB5, HX5⟩
        · rw [hlb] at HL
          go_wp2_with fail
          refine HL.out.mono ?_
          rintro e w4 ⟨rfl, hb4⟩
          have HB4 := Lib.hid (below_step HBL.out (hb4.mono HW.out))
          clear hb4
          go_wp2_with fail
          go_ret
          exact ⟨rfl, HB4.out⟩
      · have hsplit : (k < n ∧ k = 60) ∨ ¬ k < n := by omega
        clear hgo
        have HW := Lib.hid HBL.out.size
        rcases hsplit with ⟨hkn, rfl⟩ | hkn
        all_goals
          have HFR := Lib.hid (one_free HT.out)
          go_wp2_with fail
          refine HFR.out.mono ?_
          rintro e w5 ⟨rfl, h5, ho5⟩
          have HT5 := Lib.hid h5
          have HX5 := Lib.hid (HXO.out _ _ HX.out ho5)
          have HB5 := Lib.hid (ho5.below HBL.out (Nat.le_refl _) HF.out)
          have HC0 := Lib.hid (@cut0 b)
          clear h5 ho5 HFR HT HX HBL HW
          generalize cut b 0 = b0 at *
          have HU := Lib.hid (one_used HT5.out)
          have HSZ := Lib.hid (one_size HT5.out)
          have HCH := Lib.hid (one_chunks HT5.out)
          have HHO := Lib.hid (one_holes HT5.out)
          rw [HC0.out.2.1] at HU HCH
          rw [HC0.out.2.2] at HHO
          rw [HC0.out.1] at HSZ
          go_wp2_with fail
          refine HU.out.mono ?_
          rintro e w6 ⟨rfl, rfl⟩
          go_wp2_with fail
          refine HSZ.out.mono ?_
          rintro e w6 ⟨rfl, rfl⟩
          go_wp2_with fail
          refine HCH.out.mono ?_
          rintro e w6 ⟨rfl, rfl⟩
          go_wp2_with fail
          refine HHO.out.mono ?_
          rintro e w6 ⟨v, rfl, hown, hb6⟩
          obtain ⟨A6, c6, rfl⟩ := own_slice hown
          have HT6 := Lib.hid (HT5.out.below hb6)
          have HX6 := Lib.hid (HXB.out _ _ HX5.out hb6)
          have HB6 := Lib.hid (below_step HB5.out (hb6.mono HB5.out.size))
          clear hown hb6 HU HSZ HCH HHO HT5 HX5 HB5
          have HBO := Lib.hid (sys_body HT6.out)
          go_wp2_with fail
          refine HBO.out.mono ?_
          rintro e w7 ⟨rfl, h7, hb7⟩
          have HS7 := Lib.hid h7
          have HX7 := Lib.hid (HXB.out _ _ HX6.out hb7)
          have HB7 := Lib.hid (below_step HB6.out (hb7.mono HB6.out.size))
          have HSB := Lib.hid (show w6.heap.size < w7.heap.size from (h7.bod 1 (by omega)).ltM |> fun h => by rw [updF_same] at h; exact h)
          have HFS := Lib.hid (show ∀ x, FP S (1 + 1) (updF (fun _ => P) 1 (w6.heap.size + 1)) (updF (fun _ => Q) 1 w6.heap.size) x → w.heap.size ≤ x ∧ x ≠ T from fun x hx => by
            have h6 := HB6.out.size
            have hT := HX6.out.ltS
            rcases FP_more x hx with h | h | h
            · exact ⟨HF.out x h, fun e => HTF.out.2 (e ▸ h)⟩
            · omega
            · omega)
          clear h7 hb7 HBO HT6 HX6 HB6
          have HBO := Lib.hid (one_body HX7.out)
          go_wp2_with fail
          refine HBO.out.mono ?_
          rintro e w8 ⟨rfl, h8, hb8⟩
          have HT8 := Lib.hid h8
          have HS8 := Lib.hid (HS7.out.below hb8)
          have HB8 := Lib.hid (below_step HB7.out (hb8.mono HB7.out.size))
          have HFT := Lib.hid (show ∀ x, F1 T (w7.heap.size + 1) w7.heap.size x → w.heap.size ≤ x ∧ ¬ FP S (1 + 1) (updF (fun _ => P) 1 (w6.heap.size + 1)) (updF (fun _ => Q) 1 w6.heap.size) x from fun x hx => by
            have h7 := HB7.out.size
            have hlt : ∀ y, FP S (1 + 1) (updF (fun _ => P) 1 (w6.heap.size + 1)) (updF (fun _ => Q) 1 w6.heap.size) y → y < w7.heap.size := by
              rintro y (rfl | ⟨k, hk, h | h⟩)
              · exact HS7.out.ltS
              · rw [h]; exact (HS7.out.bod k hk).ltB
              · rw [h]; exact (HS7.out.bod k hk).ltM
            rcases F1_or.1 hx with e | e | e
            · exact ⟨by rw [e]; exact HTF.out.1, fun h => (HFS.out x h).2 e⟩
            · exact ⟨by omega, fun h => by have := hlt x h; omega⟩
            · exact ⟨by omega, fun h => by have := hlt x h; omega⟩)
          clear h8 hb8 HBO HX7 HS7
          generalize w6.heap.size + 1 = P2 at *
          generalize w6.heap.size = Q2 at *
          generalize w7.heap.size + 1 = P3 at *
          generalize w7.heap.size = Q3 at *
          have hPp : updF (fun _ => P) 1 P2 1 = P2 := updF_same _ _ _
          have hBb : updF (fun _ => b0) 1 AB.empty 1 = AB.empty := updF_same _ _ _
          have hTt : tot 2 (updF (fun _ => b0) 1 AB.empty) = 0 := by
            show 0 + (updF (fun _ => b0) 1 AB.empty 0).n + (updF (fun _ => b0) 1 AB.empty 1).n = 0
            rw [hBb, updF_other (by omega), HC0.out.2.1, ex_n0]
          have HWS := Lib.hid (sys_write HS8.out (k := 1) (by omega) off Ad nd cd fd ((HD0.out.below HB8.out).inn HB8.out.size (fun x hx => (HFS.out x hx).1)) HD0.out.1.1 HD0.out.1.2)
          unfold SW at HWS
          rw [hPp, hBb, hTt] at HWS
          have HPP := Lib.hid (And.intro hPp (And.intro hBb hTt))
          clear hPp hBb hTt
          go_wp2_with fail
          refine HWS.out.mono ?_
          rintro e w9 ⟨p, err, rfl, hw9, h9, ho9⟩
          have HS9 := Lib.hid h9
          have HT9 := Lib.hid (Sys.keep HT8.out ho9 (fun x hx => (HFT.out x hx).2))
          have HB9 := Lib.hid (ho9.below HB8.out (Nat.le_refl _) (fun x hx => (HFS.out x hx).1))
          have HWR1 := Lib.hid hw9
          clear hw9 h9 ho9 HWS HS8 HT8
          have HWT := Lib.hid (one_write (show One w9 T R P3 Q3 AB.empty from HT9.out) off Ad nd cd fd ((HD0.out.below HB9.out).inn HB9.out.size (fun x hx => (HFT.out x hx).1)) HD0.out.1.1 HD0.out.1.2)
          rw [ex_n0] at HWT
          go_wp2_with fail
          refine HWT.out.mono ?_
          rintro e w10 ⟨p2, err2, rfl, hw10, h10, ho10⟩
          obtain ⟨rfl, rfl⟩ := WR.eq HWR1.out hw10
          have HT10 := Lib.hid h10
          have HS10 := Lib.hid (Sys.keep HS9.out ho10 (fun x hx hf => (HFT.out x hf).2 hx))
          have HB10 := Lib.hid (ho10.below HB9.out (Nat.le_refl _) (fun x hx => (HFT.out x hx).1))
          clear hw10 h10 ho10 HWT HS9 HT9
          have hBb2 : updF (updF (fun _ => b0) 1 AB.empty) 1 (Go.Proofs.Ytpnnonphagddgaa.wr AB.empty off p fd) 1 = Go.Proofs.Ytpnnonphagddgaa.wr AB.empty off p fd := updF_same _ _ _
          have hTt2 : tot 2 (updF (updF (fun _ => b0) 1 AB.empty) 1 (Go.Proofs.Ytpnnonphagddgaa.wr AB.empty off p fd)) = (Go.Proofs.Ytpnnonphagddgaa.wr AB.empty off p fd).n := by
            show 0 + (updF (updF (fun _ => b0) 1 AB.empty) 1 (Go.Proofs.Ytpnnonphagddgaa.wr AB.empty off p fd) 0).n + (updF (updF (fun _ => b0) 1 AB.empty) 1 (Go.Proofs.Ytpnnonphagddgaa.wr AB.empty off p fd) 1).n = _
            rw [hBb2, updF_other (by omega), updF_other (by omega), HC0.out.2.1]
            omega
          generalize Go.Proofs.Ytpnnonphagddgaa.wr AB.empty off p fd = bw at *
          have HOK := Lib.hid (show bw.Ok from One.ok HT10.out)
          have HRS := Lib.hid (sys_read HS10.out (k := 1) (by omega) 0 65536)
          rw [HPP.out.1, hBb2] at HRS
          unfold ReadE at HRS
          rw [readR_all HOK.out] at HRS
          have HTT := Lib.hid hTt2
          clear hBb2 hTt2
          go_wp2_with fail
          refine HRS.out.mono ?_
          rintro e w11 ⟨A11, c11, rfl, hr11, hb11⟩
          have HT11 := Lib.hid (One.below HT10.out hb11)
          have HS11 := Lib.hid (HS10.out.below hb11)
          have HB11 := Lib.hid (below_step HB10.out (hb11.mono HB10.out.size))
          have HR11 := Lib.hid hr11
          have HL10 := Lib.hid hb11.size
          clear hr11 hb11 HRS HT10
          have HRT := Lib.hid (one_read HT11.out 0 65536)
          unfold ReadE at HRT
          rw [readR_all HOK.out] at HRT
          go_wp2_with fail
          refine HRT.out.mono ?_
          rintro e w12 ⟨A12, c12, rfl, hr12, hb12⟩
          have hv1 := (HR11.out.only (Only.of_below (F := fun _ => False) hb12) (fun _ h => h.elim)).conv
          have hv2 := hr12.conv
          have HT12 := Lib.hid (One.below HT11.out hb12)
          have HS12 := Lib.hid (HS11.out.below hb12)
          have HB12 := Lib.hid (below_step HB11.out (hb12.mono HB11.out.size))
          have HUS := Lib.hid (show Calls Try.prog 22 #[Pq S] w12 (fun e w' => e = .returned (.int .i64 (bw.n : Int)) ∧ w12 = w') from by
            have := sys_used HS12.out
            rw [HTT.out] at this
            exact this)
          have HUT := Lib.hid (one_used HT12.out)
          clear hr12 hb12 HRT
          go_wp2_with fail
          refine HUS.out.mono ?_
          rintro e w13 ⟨rfl, rfl⟩
          go_wp2_with fail
          refine HUT.out.mono ?_
          rintro e w13 ⟨rfl, rfl⟩
          go_wp2_with fail
          go_ret
          exact ⟨rfl, HB12.out⟩
  · have hbad : room < 0 ∨ 65536 < room := by omega
    have HN := Lib.hid (new_no room w1 hbad)
    clear hr hbad
    go_wp2_with fail
    refine HN.out.mono ?_
    rintro e w2 ⟨rfl, rfl⟩
    go_wp2_with fail
    refine HN.out.mono ?_
    rintro e w2 ⟨rfl, rfl⟩
    go_wp2_with fail
    go_ret
    exact ⟨rfl, HB1.out⟩

set_option maxRecDepth 100000 in
theorem lifted (os : Os) (started : os.Started) (H : Type) (enc : TypeId × Value → H) :
    ReturnsInHanded {} Try.checked os 9 .any (Rows.blockFreeSpec.pre6 enc Try.prog Try.f9 Rows.blockFreeRow.domain false) (Rows.blockFreeSpec.post enc Try.prog Try.f9 false true false false) := by
  refine returnsInHanded_of_change (C := Try.checked) own started (by kernel_rfl) Try.func9
    (ChangeSpec.witness6 (enc := enc) (C := Try.checked) false ⟨#[], #[.int .i64 0, .slice none 0 0, .int .i64 0, .slice none 0 0], []⟩ 8 (by kernel_rfl) (by kernel_rfl) (by kernel_rfl) (by kernel_rfl)) ?_
  intro W base args ds gs before hval0 hW hcnd _
  have hval : ∀ (j : Nat) t v, Try.f9.params[j]? = some t → args[j]? = some v → Value.okWide Try.prog W .any base t v := hval0
  have hW' := hW
  obtain ⟨p, q, hA0, hV, rfl, hfz, hnd⟩ := hW
  have hA : DataW.TrodAll enc Try.prog W 0 (fun _ => true) true Try.f9.params.toList args.toList ds p := hA0
  rw [Try.params9] at hA hval
  obtain ⟨v0, vs0, d0, ds0, p0, q0, hargs, rfl, rfl, h0, r0⟩ := trodAll_cons hA
  obtain ⟨v1, vs1, d1, ds1, p1, q1, rfl, rfl, rfl, h1, r1⟩ := trodAll_cons r0
  obtain ⟨v2, vs2, d2, ds2, p2, q2, rfl, rfl, rfl, h2, r2⟩ := trodAll_cons r1
  obtain ⟨v3, vs3, d3, ds3, p3, q3, rfl, rfl, rfl, h3, r3⟩ := trodAll_cons r2
  obtain ⟨rfl, rfl, rfl⟩ := trodAll_nil r3
  obtain rfl : args = #[v0, v1, v2, v3] := by cases args; simp_all
  obtain ⟨rfl, rfl⟩ := trodVars_none hV
  have hlt := fun x hx => hW'.lt x hx
  obtain ⟨a0, rfl, rfl, rfl, w0⟩ := open_int Try.underlying3 (hval 0 3 v0 rfl rfl) h0
  have t1 := h1
  obtain ⟨A1, n1, c1, x1, rfl, e1, s1⟩ := open_acts (hval 1 22 v1 rfl rfl) h1
  obtain ⟨a2, rfl, rfl, rfl, w2⟩ := open_int Try.underlying2 (hval 2 2 v2 rfl rfl) h2
  have t3 := h3
  obtain ⟨A3, n3, c3, x3, rfl, s3⟩ := open_bytes (hval 3 33 v3 rfl rfl) h3
  clear hA0 hval0
  refine (walk a0 A1 n1 c1 x1 a2 A3 n3 c3 x3 W e1 s1 s3).mono fun e W' ⟨he, hg⟩ => ?_
  subst he
  exact ⟨_, rfl, law_post (pv := []) hW' (fun _ _ _ => (trodAll_cons_mk (shut_bool Try.underlying4 _) trodAll_mk0)) (fun sp hsp => (trodAll_cons_mk (shut_int Try.underlying3 w0) (trodAll_cons_mk (arg_stays (by decide) t1 hg (by simp +contextual) hlt hsp laid) (trodAll_cons_mk (shut_int Try.underlying2 w2) (trodAll_cons_mk (arg_stays (by decide) t3 hg (by simp +contextual) hlt hsp laid) trodAll_mk0))))) (fun _ _ => rfl) (by simp)
    hg (ok_one (by kernel_rfl) rfl (okWide_bool_mk Try.underlying4 _))⟩

theorem over : Rows.blockFreeRow.holds Try.pinned (OpenSpec.ofChange Rows.blockFreeSpec) :=
  OpenClaim.holds_of_wide 9 Try.f9 rfl rfl rfl rfl rfl rfl rfl ⟨rfl, rfl, rfl, rfl, rfl⟩ rfl rfl rfl rfl rfl (by kernel_rfl) Try.func9 (by kernel_rfl)
    (of_decide_eq_true (by kernel_rfl)) (by unfold Func.isWrapper; first | (rw [if_pos (by decide +kernel)]; kernel_rfl) | (rw [if_neg (by decide +kernel)]; exact ⟨rfl, rfl⟩))
    (fun os started H enc _ => lifted os started H enc)

/-- The statement. -/
theorem proved : Rows.BlockFreeSaid :=
  over
end Go.Proofs.Ytpnnonphagddgaa.blockFree
