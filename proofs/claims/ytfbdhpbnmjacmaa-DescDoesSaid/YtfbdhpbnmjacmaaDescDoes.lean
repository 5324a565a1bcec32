/- For every list of acts the law DescDoes returns true, and what is handed in reads as it did; there are no conditions. -/
import Derived.Test.YtfbdhpbnmjacmaaDl
import Derived.Deep.RegionWith
import Derived.Deep.QuietTactic
import Derived.BigQuiet
import Derived.ProofKit
import Derived.OpenShut
import Derived.ShutString
namespace Go.Proofs.Ytfbdhpbnmjacmaa.descDoes
open Go.ChangeShapes Go.WideShapes Go.ChangeAt Go.RowKit
open Go.ChangeMaps (open_string shut_string)
open Go.Proofs.Ytfbdhpbnmjacmaa.ds
set_option linter.unusedVariables false

theorem own : ownKnob Try.prog.godebug = none := by kernel_rfl
theorem laid : laidOutB Try.prog = true := by kernel_rfl

set_option maxHeartbeats 16000000 in
set_option maxRecDepth 100000 in
theorem walk (A : Option Addr) (n c : Nat) (F : Nat → Act7) (w : World) (k1 : n ≤ c ∧ c ≤ maxLen) (hF : Acts w w.heap.size A n F ∧ Ads w n F) :
    Calls Try.prog 3 #[.slice A n c] w (AwakeE w) := by
  have hnm : n ≤ 9223372036854775807 := by have := k1.1; have := k1.2; unfold maxLen at this; omega
  have HA := Lib.hid hF.1
  have HD := Lib.hid hF.2
  obtain ⟨ZZ, hZZ⟩ : ∃ Z, Z = Z33.toArray := ⟨_, rfl⟩
  have hz33 := z33
  rw [← hZZ] at hz33
  have HZZ := Lib.hid hZZ
  clear hZZ k1 hF
  go_enter Try.func3, Try.ntmps3
  go_wp2_with fail
  refine (awake_any _).mono ?_
  rintro e w1 ⟨rfl, hb1⟩
  have HN := Lib.hid (y_new hb1)
  clear hb1
  go_wp2_with fail
  refine HN.out.mono ?_
  rintro e w2 ⟨rfl, h2, -⟩
  generalize w1.heap.size = P at *
  have H2 := Lib.hid (st_new h2.forget 33)
  rw [← HZZ.out] at H2
  obtain ⟨D, hD⟩ : ∃ D, w2.heap.size = D := ⟨_, rfl⟩
  rw [hD] at H2
  clear h2 HN
  go_wp2_with fail
  clear hD hz33 HZZ
  go_loopg [5] 120 (fun g s wr => ∃ (k : Nat) (T : Tb), g + k = 120 ∧ k ≤ n ∧ s = .int .i64 k ∧ Hid (ST w wr P D No T T))
  case atStart => exact ⟨0, em, by omega, by omega, rfl, H2⟩
  case round =>
    clear H2
    obtain ⟨k, T, hgk, hk, rfl, HT⟩ := hrel
    by_cases hgo : k < n ∧ k < 120
    · obtain ⟨hkn, hk2⟩ := hgo
      obtain ⟨gK, rfl⟩ : ∃ g, g = gk := ⟨_, rfl⟩
      obtain ⟨b, off, rfl, hbl, f0, f1, f2, f3, f4, f5, f6, f7⟩ := (HA.out.below HT.out.bel) k hkn
      have HDW := Lib.hid (HD.out k hkn)
      have HDA0 := Lib.hid ((HD.out.below HT.out.bel) k hkn)
      generalize F k = x at *
      obtain ⟨xk, xf, xA, xn, xc, d0, d1, d2, d3, xs, d5⟩ := x
      dsimp only at f0 f1 f2 f3 f4 f5 f6 f7 HDA0 HDW
      have HN := Lib.hid (show xn = xs.length from HDA0.out.len)
      obtain ⟨w3, hw3⟩ : ∃ w3, wr.alloc (.cells #[.int .i64 xk, .int .i64 xf, .int .i64 d0, .int .i64 d1, .int .i64 d2, .bool d3, .slice xA xn xc, .int .i64 d5] 35) = w3 := ⟨_, rfl⟩
      obtain ⟨hr8, hb3, hs3⟩ := box8 _ _ _ _ _ _ _ _ _ _ _ hw3.symm
      obtain ⟨R8, hR8⟩ : ∃ R, wr.heap.size = R := ⟨_, rfl⟩
      rw [hR8] at hr8 hs3
      have HRR := Lib.hid hR8
      have HB3 := Lib.hid hb3
      have HR8 := Lib.hid hr8
      have HS3 := Lib.hid hs3
      have HE3 := Lib.hid (HT.out.below hb3).bel
      obtain ⟨c0, c1, c6, hrow⟩ := range8 hr8
      have HROW := Lib.hid hrow
      have HDA3 := Lib.hid (HDA0.out.below hb3)
      have HW3 := Lib.hid hw3
      clear hr8 hb3 hs3 hw3 hR8 hrow
      go_upto_region 9 with fail
      rw [HW3.out, HRR.out]
      by_cases hn : 100 < xn
      · have hni : (100 : Int) < (xn : Int) := by omega
        clear hn
        go_wp2_with fail
        go_ret
        exact ⟨rfl, HE3.out⟩
      have hni : ¬ (100 : Int) < (xn : Int) := by omega
      have hn1 : xn ≤ 1000 := by omega
      have HNI := Lib.hid hn1
      have HOW := Lib.hid (own_any xA xn xc w3.heap.size ⟨d0, d1, d2, d3, xs, d5⟩ w3 HN.out (by omega) (Nat.le_refl _) HDA3.out.st)
      unfold CopE DV at HOW
      dsimp only at HOW
      rw [← HN.out] at HOW
      clear hn hn1
      go_wp2_with (first | refine wpList_load_mid (by rfl) 30 (.tmp 51) (by rfl) R8 2 (by rfl) _ _ HROW.out Try.underlying30 (by rfl) (by kernel_rfl) ?_)
      refine HOW.out.mono ?_
      rintro _ w4 ⟨A1, c1', rfl, hown1, hb4⟩
      obtain ⟨w5, hw5⟩ : ∃ w5, w4.alloc (.cells #[.int .i64 d0, .int .i64 d1, .int .i64 d2, .bool d3, .slice A1 xn c1', .int .i64 d5] 30) = w5 := ⟨_, rfl⟩
      have hb5 : Below w4.heap.size w4 w5 := by rw [← hw5]; exact below_alloc _ _
      have hs5 : w5.heap.size = w4.heap.size + 1 := by rw [← hw5, World.size_alloc]
      have hr7 : w5.heap[w4.heap.size]? = some (.cells #[.int .i64 d0, .int .i64 d1, .int .i64 d2, .bool d3, .slice A1 xn c1', .int .i64 d5] 30 (0, 0)) := by rw [← hw5]; exact heap_alloc_new w4 _
      obtain ⟨R7, hR7⟩ : ∃ R, w4.heap.size = R := ⟨_, rfl⟩
      rw [hR7] at hr7 hs5
      have HT5 := Lib.hid (HT.out.over (below_step (below_step HB3.out hb4) hb5))
      have HDA5 := Lib.hid (HDA3.out.below (below_step hb4 hb5))
      have HOA5 := Lib.hid (show DA w5 A1 xn c1' ⟨d0, d1, d2, d3, xs, d5⟩ from by have := (da_own (d := ⟨d0, d1, d2, d3, xs, d5⟩) hown1).below hb5; rwa [← HN.out] at this)
      have HNC5 := Lib.hid (show NC w5 A1 xn (R8 + 1) R7 from by
        have := own_nc hown1
        rw [← HN.out, hR7] at this
        have h2 : NC w4 A1 xn (R8 + 1) R7 := fun hq => by obtain ⟨g, a, b, d⟩ := this hq; exact ⟨g, a, by rw [HS3.out] at b; exact b, d⟩
        exact h2.keep fun b _ hb => hb5.block b (by omega))
      have HR85 := Lib.hid (((below_step hb4 hb5).block R8 (by rw [HS3.out]; omega)).trans HR8.out)
      have HR75 := Lib.hid hr7
      have HLT := Lib.hid (show w.heap.size ≤ R8 ∧ R8 < R7 ∧ w5.heap.size = R7 + 1 from ⟨by have := HT.out.bel.size; rw [HRR.out] at this; exact this, by have := hb4.size; rw [HS3.out, hR7] at this; omega, hs5⟩)
      have HW5 := Lib.hid hw5
      have HRQ := Lib.hid hR7
      have HX := Lib.hid (fun b => (show R8 ≤ b ∧ b < R7 + 1 → Ov No wr w5 b from fun h => .inr (by rw [HRR.out, HLT.out.2.2]; exact h)))
      generalize Ov No wr w5 = X at *
      clear hown1 hb4 hw5 hr7 hb5 hs5 hR7 HOW HT HDA0 HDA3 HE3
      go_upto_region 12 with fail
      rw [HW5.out, HRQ.out]
      obtain ⟨p0, p1, -, hp8⟩ := range8 HR85.out
      have HP8 := Lib.hid hp8
      have HP7 := Lib.hid (show w5.rangeAt R7 0 [.int .i64 d0, .int .i64 d1, .int .i64 d2, .bool d3, .slice A1 xn c1', .int .i64 d5] from fun j v hv => by rw [Nat.zero_add, cell_row HR75.out]; simpa using hv)
      clear hp8 f0 f1 f2 f3 f4 f5 f6 f7 c0 c1 c6
      go_upto_block 2 with fail
      go_cut [8, 9, 10, 11, 12, 13, 14, 15] from 32 to 179 (fun v8 v9 v10 v11 v12 v13 v14 v15 wx => ∃ T2 : Tb, Hid (ST w wx P D X T2 T2) ∧ Hid (Same X w5 wx))
      case first =>
        by_cases e0 : xk = 0
        · subst e0
          have HO := Lib.hid (s_open HT5.out HOA5.out HNI.out)
          obtain ⟨⟨lv, le⟩, hlv⟩ : ∃ r, lowV T = r := ⟨_, rfl⟩
          rw [hlv] at HO
          unfold DV at HO
          dsimp only at HO
          have HLV := Lib.hid hlv
          clear hlv
          go_wp2_with (first | refine wpList_load_mid (by rfl) 30 (.tmp 7) (by rfl) R7 0 (by rfl) _ _ HP7.out Try.underlying30 (by rfl) (by kernel_rfl) ?_)
          refine HO.out.mono ?_
          rintro _ w6 ⟨rfl, h6, hs6⟩
          have HO2 := Lib.hid (t_open h6 (HDW.out.below h6.bel) HNI.out)
          rw [HLV.out] at HO2
          unfold DV at HO2
          dsimp only at HO2
          have hp6 := (range8 ((hs6 R8 (HX.out R8 ⟨Nat.le_refl _, by have := HLT.out; omega⟩)).trans HR85.out)).2.2.2
          have HP6 := Lib.hid hp6
          have HS6 := Lib.hid hs6
          clear h6 hs6 HO hp6
          go_wp2_with (first | refine wpList_load_mid (by rfl) 30 (.tmp 66) (by rfl) R8 2 (by rfl) _ _ HP6.out Try.underlying30 (by rfl) (by kernel_rfl) ?_)
          refine HO2.out.mono ?_
          rintro _ w7 ⟨rfl, h7, hs7⟩
          have HR := Lib.hid (show ∃ T2 : Tb, Hid (ST w w7 P D X T2 T2) ∧ Hid (Same X w5 w7) from ⟨_, Lib.hid h7, Lib.hid (HS6.out.trans hs7)⟩)
          clear h7 hs7 HO2
          go_wp2_with fail
          go_meet
          case rel => exact HR.out
        by_cases e1 : xk = 1
        · subst e1
          obtain ⟨⟨x, r⟩, hgv⟩ : ∃ r, getV T xf = r := ⟨_, rfl⟩
          have HO := Lib.hid (s_close HT5.out xf)
          rw [hgv] at HO
          have HGV := Lib.hid hgv
          unfold DV at HO
          dsimp only at HO
          clear hgv
          go_wp2_with fail
          refine HO.out.mono ?_
          rintro _ w6 ⟨A6, c6, rfl, ho6, h6, hs6⟩
          obtain ⟨w7, hw7⟩ : ∃ w7, w6.alloc (.cells #[.int .i64 x.ino, .int .i64 x.flag, .int .i64 x.off, .bool x.isd, .slice A6 x.ns.length c6, .int .i64 x.pos] 30) = w7 := ⟨_, rfl⟩
          have hb7 : Below w6.heap.size w6 w7 := by rw [← hw7]; exact below_alloc _ _
          have hr7 : w7.heap[w6.heap.size]? = some (.cells #[.int .i64 x.ino, .int .i64 x.flag, .int .i64 x.off, .bool x.isd, .slice A6 x.ns.length c6, .int .i64 x.pos] 30 (0, 0)) := by rw [← hw7]; exact heap_alloc_new w6 _
          have hsz7 : w7.heap.size = w6.heap.size + 1 := by rw [← hw7, World.size_alloc]
          obtain ⟨G6, hG6⟩ : ∃ G, w6.heap.size = G := ⟨_, rfl⟩
          have HO2 := Lib.hid (t_close (h6.over hb7) xf)
          rw [HGV.out] at HO2
          unfold DV at HO2
          dsimp only at HO2
          have hs7 : Same X w5 w7 := hs6.trans (fun b hb => hb7.block b (by have := HT5.out.lt hb; have := h6.lt (.inl hb); omega))
          have q1 := (range8 ((hs7 R8 (HX.out R8 ⟨Nat.le_refl _, by have := HLT.out; omega⟩)).trans HR85.out)).2.1
          rw [hG6] at hr7 hsz7
          have HHR := Lib.hid hr7
          have HHS := Lib.hid hs7
          have HHO := Lib.hid ho6
          have HHB := Lib.hid hb7
          have HHW := Lib.hid hw7
          have HHG := Lib.hid hG6
          have HHZ := Lib.hid hsz7
          clear h6 hs6 HO hb7 hr7 hs7 ho6 hw7 hG6 hsz7
          go_upto_region 20 with fail
          rw [HHW.out, HHG.out]
          go_wp2_with fail
          refine HO2.out.mono ?_
          rintro _ w8 ⟨A8, c8, rfl, ho8, h8, hs8⟩
          obtain ⟨w9, hw9⟩ : ∃ w9, w8.alloc (.cells #[.int .i64 x.ino, .int .i64 x.flag, .int .i64 x.off, .bool x.isd, .slice A8 x.ns.length c8, .int .i64 x.pos] 30) = w9 := ⟨_, rfl⟩
          have hb9 : Below w8.heap.size w8 w9 := by rw [← hw9]; exact below_alloc _ _
          have hr9 : w9.heap[w8.heap.size]? = some (.cells #[.int .i64 x.ino, .int .i64 x.flag, .int .i64 x.off, .bool x.isd, .slice A8 x.ns.length c8, .int .i64 x.pos] 30 (0, 0)) := by rw [← hw9]; exact heap_alloc_new w8 _
          obtain ⟨G8, hG8⟩ : ∃ G, w8.heap.size = G := ⟨_, rfl⟩
          have h78 : w7.heap.size ≤ w8.heap.size := by have := h8.lt (b := G6) (.inr ⟨by rw [HHG.out]; exact Nat.le_refl _, by rw [HHZ.out]; omega⟩); rw [HHZ.out]; omega
          have hda6 : DA w9 A6 x.ns.length c6 x := da_keep HHO.out (Nat.le_trans HHB.out.size (Nat.le_trans h78 hb9.size)) (fun b b1 b2 => (hb9.block b (h8.lt (.inl (.inr ⟨b1, b2⟩)))).trans ((hs8 b (.inl (.inr ⟨b1, b2⟩))).trans (HHB.out.block b b2)))
          have hda8 : DA w9 A8 x.ns.length c8 x := (da_own ho8).below hb9
          have HPA := Lib.hid (row_range6 ((hb9.block G6 (h8.lt (.inr ⟨by rw [HHG.out]; exact Nat.le_refl _, by rw [HHZ.out]; omega⟩))).trans ((hs8 G6 (.inr ⟨by rw [HHG.out]; exact Nat.le_refl _, by rw [HHZ.out]; omega⟩)).trans HHR.out)))
          rw [hG8] at hr9
          have HPB := Lib.hid (row_range6 hr9)
          have HSY := Lib.hid (same_yes hda6 hda8 (by have := st_le HT5.out xf; rw [HGV.out] at this; dsimp only at this; omega))
          unfold DV YesE at HSY
          have HT9 := Lib.hid ((h8.over hb9).weaken (Y := X) fun b hb => .inl (.inl (.inl hb)))
          have HS9 := Lib.hid (HHS.out.trans (Same.trans (fun b hb => hs8 b (.inl (.inl hb))) (fun b hb => hb9.block b (h8.lt (.inl (.inl hb))))))
          have HW9 := Lib.hid hw9
          have HG8 := Lib.hid hG8
          clear ho8 h8 hs8 hw9 hb9 hr9 hG8 hda6 hda8 HO2 h78
          go_upto_region 21 with fail
          rw [HW9.out, HG8.out]
          go_wp2_with (first | refine wpList_load_mid (by rfl) 30 (.tmp 12) (by rfl) G6 0 (by rfl) _ _ HPA.out Try.underlying30 (by rfl) (by kernel_rfl) ?_ | refine wpList_load_mid (by rfl) 30 (.tmp 14) (by rfl) G8 0 (by rfl) _ _ HPB.out Try.underlying30 (by rfl) (by kernel_rfl) ?_)
          refine HSY.out.mono ?_
          rintro _ w10 ⟨rfl, hb10⟩
          have HR := Lib.hid (show ∃ T2 : Tb, Hid (ST w w10 P D X T2 T2) ∧ Hid (Same X w5 w10) from ⟨_, Lib.hid (HT9.out.below hb10), Lib.hid (HS9.out.trans (HT9.out.same hb10))⟩)
          clear hb10 HSY
          go_wp2_with fail
          go_meet
          case rel => exact HR.out
        by_cases e2 : xk = 2
        · subst e2
          have HO := Lib.hid (fun W (hW : Below w5.heap.size w5 W) => s_set (HT5.out.below hW) (HOA5.out.below hW) HNI.out xf)
          have HO2 := Lib.hid (fun W (hW : ST w W P D X (setT T xf ⟨d0, d1, d2, d3, xs, d5⟩) T) => t_set hW (HDW.out.below hW.bel) HNI.out xf)
          obtain ⟨ev, hev⟩ : ∃ r, errV T xf = r := ⟨_, rfl⟩
          rw [hev] at HO HO2
          unfold DV at HO HO2
          dsimp only at HO HO2
          have HQ := Lib.hid (fun W (hW : Same X w5 W) => (show W.cell? ⟨R8, 1, none⟩ = some (.int .i64 xf) ∧ W.cell? ⟨R8, 2, none⟩ = some (.int .i64 d0) ∧ W.cell? ⟨R8, 3, none⟩ = some (.int .i64 d1) ∧ W.cell? ⟨R8, 4, none⟩ = some (.int .i64 d2) ∧ W.cell? ⟨R8, 5, none⟩ = some (.bool d3) ∧ W.cell? ⟨R8, 6, none⟩ = some (.slice xA xn xc) ∧ W.cell? ⟨R8, 7, none⟩ = some (.int .i64 d5) ∧ W.cell? ⟨R7, 0, none⟩ = some (.int .i64 d0) ∧ W.cell? ⟨R7, 1, none⟩ = some (.int .i64 d1) ∧ W.cell? ⟨R7, 2, none⟩ = some (.int .i64 d2) ∧ W.cell? ⟨R7, 3, none⟩ = some (.bool d3) ∧ W.cell? ⟨R7, 4, none⟩ = some (.slice A1 xn c1') ∧ W.cell? ⟨R7, 5, none⟩ = some (.int .i64 d5) from by
            have b8 := (hW R8 (HX.out R8 ⟨Nat.le_refl _, by have := HLT.out; omega⟩)).trans HR85.out
            have b7 := (hW R7 (HX.out R7 ⟨by have := HLT.out; omega, by omega⟩)).trans HR75.out
            refine ⟨?_, ?_, ?_, ?_, ?_, ?_, ?_, ?_, ?_, ?_, ?_, ?_, ?_⟩
            iterate 7 (first | (rw [cell_row b8]; rfl))
            iterate 6 (first | (rw [cell_row b7]; rfl))))
          obtain ⟨pp0, pp1, pp2, pp3, pp4, pp5, pp6, pp7, pp8, pp9, pp10, pp11, pp12⟩ := HQ.out w5 (fun b hb => rfl)
          obtain ⟨pd0, pd1, pd2, pd3, pd4, pd5, pd6, pd7, pd8, pd9, pd10, pd11, pd12⟩ := HQ.out w5.drew (fun b hb => rfl)
          clear hev p0 p1
          go_upto_region 24 with fail
          go_region_held3 (fun w' => w'.cell? ⟨R8, 1, none⟩ = some (.int .i64 xf) ∧ w'.cell? ⟨R8, 2, none⟩ = some (.int .i64 d0) ∧ w'.cell? ⟨R8, 3, none⟩ = some (.int .i64 d1) ∧ w'.cell? ⟨R8, 4, none⟩ = some (.int .i64 d2) ∧ w'.cell? ⟨R8, 5, none⟩ = some (.bool d3) ∧ w'.cell? ⟨R8, 6, none⟩ = some (.slice xA xn xc) ∧ w'.cell? ⟨R8, 7, none⟩ = some (.int .i64 d5) ∧ w'.cell? ⟨R7, 0, none⟩ = some (.int .i64 d0) ∧ w'.cell? ⟨R7, 1, none⟩ = some (.int .i64 d1) ∧ w'.cell? ⟨R7, 2, none⟩ = some (.int .i64 d2) ∧ w'.cell? ⟨R7, 3, none⟩ = some (.bool d3) ∧ w'.cell? ⟨R7, 4, none⟩ = some (.slice A1 xn c1') ∧ w'.cell? ⟨R7, 5, none⟩ = some (.int .i64 d5))
            (first | with_reducible exact ⟨pp0, pp1, pp2, pp3, pp4, pp5, pp6, pp7, pp8, pp9, pp10, pp11, pp12⟩ | with_reducible exact ⟨pd0, pd1, pd2, pd3, pd4, pd5, pd6, pd7, pd8, pd9, pd10, pd11, pd12⟩ | with_reducible exact ⟨j0, j1, j2, j3, j4, j5, j6, j7, j8, j9, j10, j11, j12⟩ | with_reducible exact ⟨jj0, jj1, jj2, jj3, jj4, jj5, jj6, jj7, jj8, jj9, jj10, jj11, jj12⟩)
            (first
             | (go_at_call 16; ((with_reducible refine (HO.out _ (Below.refl _ _).drew).mono ?_); rintro _ w6 ⟨rfl, h6, hs6⟩; have HS6 := Lib.hid (show Same X w5 w6 from fun b hb => hs6 b hb); have HT6 := Lib.hid h6; obtain ⟨j0, j1, j2, j3, j4, j5, j6, j7, j8, j9, j10, j11, j12⟩ := HQ.out w6 HS6.out; clear h6 hs6))
             | (go_at_call 17; ((with_reducible refine (HO2.out _ HT6.out).mono ?_); rintro _ w7 ⟨rfl, h7, hs7⟩; have HR := Lib.hid (show ∃ T2 : Tb, Hid (ST w w7 P D X T2 T2) ∧ Hid (Same X w5 w7) from ⟨_, Lib.hid h7, Lib.hid (HS6.out.trans hs7)⟩); obtain ⟨jj0, jj1, jj2, jj3, jj4, jj5, jj6, jj7, jj8, jj9, jj10, jj11, jj12⟩ := HQ.out w7 (HS6.out.trans hs7); clear h7 hs7)))
          all_goals
            go_wp2_with fail
            go_meet
            case rel => exact HR.out
        have q0 : (xk == 0) = false := by simpa using e0
        have q1 : (xk == 1) = false := by simpa using e1
        have q2 : (xk == 2) = false := by simpa using e2
        clear e0 e1 e2
        go_wp2_with fail
        go_meet
        case rel => exact ⟨_, HT5, Lib.hid fun b hb => rfl⟩
      case rest =>
        obtain ⟨T2, HTC, HSC⟩ := hcut
        have hr8 := (HSC.out R8 (HX.out R8 ⟨Nat.le_refl _, by have := HLT.out; omega⟩)).trans HR85.out
        have hr7 := (HSC.out R7 (HX.out R7 ⟨by have := HLT.out; omega, by omega⟩)).trans HR75.out
        have HNC := Lib.hid (HNC5.out.keep fun b b1 b2 => HSC.out b (HX.out b ⟨by omega, by omega⟩))
        have HL8 := Lib.hid hr8
        have HL7 := Lib.hid hr7
        have g4 := (row_range6 hr7) 4 _ rfl
        clear HT5 HDA5 HOA5 HNC5 HR85 HR75 HSC HP8 HP7 HW5 p0 p1 hr8 hr7 HDW
        go_upto_region 27 with fail
        clear g4
        go_loopg [121] xn (fun g s wr => ∃ i : Nat, g + i = xn ∧ i ≤ xn ∧ s = .int .i64 i ∧ Hid (ST w wr P D X T2 T2) ∧ Hid (NC wr A1 xn (R8 + 1) R7) ∧ Hid (wr.heap[R8]? = some (.cells #[.int .i64 xk, .int .i64 xf, .int .i64 d0, .int .i64 d1, .int .i64 d2, .bool d3, .slice xA xn xc, .int .i64 d5] 35 (0, 0))) ∧ Hid (wr.heap[R7]? = some (.cells #[.int .i64 d0, .int .i64 d1, .int .i64 d2, .bool d3, .slice A1 xn c1', .int .i64 d5] 30 (0, 0))))
        case atStart => exact ⟨0, by omega, by omega, rfl, HTC, HNC, HL8, HL7⟩
        case round =>
          clear HTC HNC HL8 HL7
          obtain ⟨i, hgi, hi, rfl, HTC, HNC, HL8, HL7⟩ := hrel
          by_cases hlt : i < xn
          · obtain ⟨g, rfl, hg1, hg2, hg3, hg4⟩ := HNC.out (by omega)
            obtain ⟨v, hv⟩ := hg3 i hlt
            have hf := hg4 i
            have ho := only_at wr g i (.string ⟨#[120]⟩)
            have HT3 := Lib.hid (HTC.out.turn ho fun b hb => ⟨HX.out b ⟨by omega, by omega⟩, by have := HLT.out; omega⟩)
            have HN3 := Lib.hid (HNC.out.set (g := g) (i := i) (v := .string ⟨#[120]⟩))
            have HL83 := Lib.hid ((ho.block R8 (row_lt HL8.out) (by omega)).trans HL8.out)
            have HL73 := Lib.hid ((ho.block R7 (row_lt HL7.out) (by omega)).trans HL7.out)
            have g4 := (row_range6 HL7.out) 4 _ rfl
            clear hg3 hg4 ho
            go_wp2_with fail
            go_roundg (gk - 1)
            case measure => omega
            case rel => exact ⟨i + 1, by omega, by omega, by go_num, HT3, HN3, HL83, HL73⟩
          · obtain ⟨⟨x, r⟩, hgv⟩ : ∃ r, getV T2 xf = r := ⟨_, rfl⟩
            have HO := Lib.hid (s_get HTC.out xf)
            have HO2 := Lib.hid (fun W (hW : Below wr.heap.size wr W) => t_get (HTC.out.below hW) xf)
            rw [hgv] at HO HO2
            have HXL := Lib.hid (show x.ns.length ≤ 1000 from by have := st_le HTC.out xf; rw [hgv] at this; exact this)
            unfold GetE DV at HO HO2
            dsimp only at HO HO2
            have q1 := (range8 HL8.out).2.1
            clear hgv
            go_wp2_with fail
            refine HO.out.mono ?_
            rintro _ w6 ⟨A6, c6, rfl, ho6, hb6⟩
            obtain ⟨w7, hw7⟩ : ∃ w7, w6.alloc (.cells #[.int .i64 x.ino, .int .i64 x.flag, .int .i64 x.off, .bool x.isd, .slice A6 x.ns.length c6, .int .i64 x.pos] 30) = w7 := ⟨_, rfl⟩
            have hb7 : Below w6.heap.size w6 w7 := by rw [← hw7]; exact below_alloc _ _
            have hr7 : w7.heap[w6.heap.size]? = some (.cells #[.int .i64 x.ino, .int .i64 x.flag, .int .i64 x.off, .bool x.isd, .slice A6 x.ns.length c6, .int .i64 x.pos] 30 (0, 0)) := by rw [← hw7]; exact heap_alloc_new w6 _
            have hsz7 : w7.heap.size = w6.heap.size + 1 := by rw [← hw7, World.size_alloc]
            obtain ⟨G6, hG6⟩ : ∃ G, w6.heap.size = G := ⟨_, rfl⟩
            rw [hG6] at hr7 hsz7
            have hb17 : Below wr.heap.size wr w7 := below_step hb6 hb7
            have HO3 := Lib.hid (HO2.out w7 hb17)
            have q2 : w7.cell? ⟨R8, 1, none⟩ = some (.int .i64 xf) := (hb17.cell (p := ⟨R8, 1, none⟩) (row_lt HL8.out)).trans q1
            have HNA := Lib.hid (show NC w7 A6 x.ns.length wr.heap.size G6 from by have := own_nc ho6; rw [hG6] at this; exact this.keep fun b _ h2 => hb7.block b (by omega))
            have HDA := Lib.hid ((da_own ho6).below hb7)
            have HB17 := Lib.hid hb17
            have HR7 := Lib.hid hr7
            have HW7 := Lib.hid hw7
            have HG6 := Lib.hid hG6
            have HZ7 := Lib.hid hsz7
            have HWG := Lib.hid (show wr.heap.size ≤ G6 from by rw [← hG6]; exact hb6.size)
            clear HO ho6 hb6 hw7 hb7 hr7 hsz7 hG6 hb17 HO2 q1
            go_upto_region 32 with fail
            rw [HW7.out, HG6.out]
            go_wp2_with fail
            refine HO3.out.mono ?_
            rintro _ w8 ⟨A8, c8, rfl, ho8, hb8⟩
            obtain ⟨w9, hw9⟩ : ∃ w9, w8.alloc (.cells #[.int .i64 x.ino, .int .i64 x.flag, .int .i64 x.off, .bool x.isd, .slice A8 x.ns.length c8, .int .i64 x.pos] 30) = w9 := ⟨_, rfl⟩
            have hb9 : Below w8.heap.size w8 w9 := by rw [← hw9]; exact below_alloc _ _
            have hr9 : w9.heap[w8.heap.size]? = some (.cells #[.int .i64 x.ino, .int .i64 x.flag, .int .i64 x.off, .bool x.isd, .slice A8 x.ns.length c8, .int .i64 x.pos] 30 (0, 0)) := by rw [← hw9]; exact heap_alloc_new w8 _
            obtain ⟨G8, hG8⟩ : ∃ G, w8.heap.size = G := ⟨_, rfl⟩
            rw [hG8] at hr9
            have hb79 := below_step hb8 hb9
            have hrA := (hb79.block G6 (by rw [HZ7.out]; omega)).trans HR7.out
            have HPA := Lib.hid (row_range6 hrA)
            have HPB := Lib.hid (row_range6 hr9)
            have HSY := Lib.hid (same_yes (HDA.out.below hb79) ((da_own ho8).below hb9) (by have := HXL.out; omega))
            unfold DV YesE at HSY
            have HT9 := Lib.hid (HTC.out.over (below_step HB17.out hb79))
            have HNA9 := Lib.hid (HNA.out.keep fun b _ h2 => hb79.block b (by rw [HZ7.out]; omega))
            have HRA9 := Lib.hid hrA
            have HL89 := Lib.hid (((below_step HB17.out hb79).block R8 (row_lt HL8.out)).trans HL8.out)
            have HW9 := Lib.hid hw9
            have HG8 := Lib.hid hG8
            have HS9 := Lib.hid (show G6 < w9.heap.size from row_lt hrA)
            clear ho8 hb8 hw9 hb9 hr9 hG8 hb79 hrA HO3 q2
            go_upto_region 33 with fail
            rw [HW9.out, HG8.out]
            go_cut [168] from 32 to 179 (fun v wx => v = .bool false ∧ Hid (Below w9.heap.size w9 wx))
            case first =>
              have HAL := Lib.hid (fun W (hW : Below w9.heap.size w9 W) => s_all (HT9.out.below hW))
              have HAR := Lib.hid (fun W (hW : Below w9.heap.size w9 W) => t_all (HT9.out.below hW))
              have HFU := Lib.hid (fun W (hW : Below w9.heap.size w9 W) => s_full (HT9.out.below hW))
              have HFI := Lib.hid (full_iff (T := T2))
              rw [← all_len] at HFI
              have hql := all_le T2 32
              obtain ⟨L, hL⟩ : ∃ L, allT T2 32 = L := ⟨_, rfl⟩
              rw [hL] at HAL HAR HFI hql
              obtain ⟨fb, hfb⟩ : ∃ fb, full T2 = fb := ⟨_, rfl⟩
              rw [hfb] at HFU HFI
              unfold IntsE at HAL HAR
              unfold StE at HFU
              obtain ⟨q, hq⟩ : ∃ q, L.length = q := ⟨_, rfl⟩
              rw [hq] at HAL HAR HFI hql
              have HLQ := Lib.hid hq
              clear hL hfb hq HTC HT9 HNA9 HNA HDA HB17
              go_wp2_with (first | refine wpList_load_mid (by rfl) 30 (.tmp 17) (by rfl) G6 0 (by rfl) _ _ HPA.out Try.underlying30 (by rfl) (by kernel_rfl) ?_ | refine wpList_load_mid (by rfl) 30 (.tmp 19) (by rfl) G8 0 (by rfl) _ _ HPB.out Try.underlying30 (by rfl) (by kernel_rfl) ?_)
              refine HSY.out.mono ?_
              rintro _ w10 ⟨rfl, hb10⟩
              have HB10 := Lib.hid hb10
              clear hb10 HSY
              go_wp2_with fail
              refine (HAL.out _ HB10.out).mono ?_
              rintro _ w11 ⟨v11, rfl, own11, hb11⟩
              obtain ⟨A11, c11, rfl⟩ := own_slice own11
              have HI11 := Lib.hid (own_ia own11)
              have HB11 := Lib.hid (below_step HB10.out hb11)
              clear own11 hb11 HAL
              go_wp2_with fail
              refine (HAR.out _ HB11.out).mono ?_
              rintro _ w12 ⟨v12, rfl, own12, hb12⟩
              obtain ⟨A12, c12, rfl⟩ := own_slice own12
              have HIY := Lib.hid (ints_yes2 (c := c11) (c' := c12) HLQ.out.symm (HI11.out.below hb12) (own_ia own12) (by omega))
              unfold YesE at HIY
              have HB12 := Lib.hid (below_step HB11.out hb12)
              clear own12 hb12 HI11
              go_wp2_with fail
              refine HIY.out.mono ?_
              rintro _ w13 ⟨rfl, hb13⟩
              have HB13 := Lib.hid (below_step HB12.out hb13)
              clear hb13 HIY
              go_wp2_with fail
              refine (HFU.out _ HB13.out).mono ?_
              rintro _ w14 ⟨rfl, rfl⟩
              go_wp2_with fail
              refine (HAR.out _ HB13.out).mono ?_
              rintro _ w15 ⟨v15, rfl, own15, hb15⟩
              obtain ⟨A15, c15, rfl⟩ := own_slice own15
              have HB15 := Lib.hid (below_step HB13.out hb15)
              clear own15 hb15 HAR HFU
              by_cases hq : q = 32
              · subst hq
                obtain rfl : fb = true := by rw [HFI.out]; rfl
                clear HFI
                go_wp2_with fail
                go_meet
                case rel => exact ⟨rfl, HB15⟩
              · obtain rfl : fb = false := by rw [HFI.out]; exact decide_eq_false hq
                have hqb : ((q : Int) == 32) = false := by simp; omega
                have hqc : ¬ (q : Int) = 32 := by omega
                clear HFI hq
                go_wp2_with fail
                go_meet
                case rel => exact ⟨rfl, HB15⟩
            case rest =>
              obtain ⟨rfl, HBC⟩ := hcut
              obtain ⟨m, hm⟩ : ∃ m, x.ns.length = m := ⟨_, rfl⟩
              have HTC2 := Lib.hid ((HT9.out.below HBC.out))
              have HNC2 := Lib.hid (HNA9.out.keep fun b _ h2 => HBC.out.block b (by have := HS9.out; omega))
              have hrC := (HBC.out.block G6 HS9.out).trans HRA9.out
              rw [hm] at HNC2 hrC
              have HRC := Lib.hid hrC
              have HX2 := Lib.hid (fun b => (show wr.heap.size ≤ b ∧ b < G6 → Ov X wr w9 b ∧ w.heap.size ≤ b from fun h => ⟨.inr ⟨h.1, by have := HS9.out; omega⟩, by have := HTC.out.bel.size; omega⟩))
              have HLW := Lib.hid (show wr.heap.size ≤ G6 from HWG.out)
              generalize Ov X wr w9 = X2 at *
              generalize wr.heap.size = lo at *
              have g4 := (row_range6 hrC) 4 _ rfl
              have hmX : m ≤ 1000 := by rw [← hm]; exact HXL.out
              clear hrC hm HT9 HNA9 HBC HRA9 HTC HNC HSY HPA HPB HDA HNA HR7 HB17
              go_upto_region 36 with fail
              clear g4
              go_loopg [172] m (fun g s wr => ∃ i : Nat, g + i = m ∧ i ≤ m ∧ s = .int .i64 i ∧ Hid (ST w wr P D X2 T2 T2) ∧ Hid (NC wr A6 m lo G6) ∧ Hid (wr.heap[G6]? = some (.cells #[.int .i64 x.ino, .int .i64 x.flag, .int .i64 x.off, .bool x.isd, .slice A6 m c6, .int .i64 x.pos] 30 (0, 0))))
              case atStart => exact ⟨0, by omega, by omega, rfl, HTC2, HNC2, HRC⟩
              case round =>
                clear HTC2 HNC2 HRC
                obtain ⟨j, hgj, hj, rfl, HTC, HNC, HRC⟩ := hrel
                by_cases hlt2 : j < m
                · obtain ⟨g, rfl, hg1, hg2, hg3, hg4⟩ := HNC.out (by omega)
                  obtain ⟨v, hv⟩ := hg3 j hlt2
                  have hf := hg4 j
                  have ho := only_at wr g j (.string ⟨#[121]⟩)
                  have HT3 := Lib.hid (HTC.out.turn ho fun b hb => HX2.out b ⟨by omega, by omega⟩)
                  have HN3 := Lib.hid (HNC.out.set (g := g) (i := j) (v := .string ⟨#[121]⟩))
                  have HR3 := Lib.hid ((ho.block G6 (row_lt HRC.out) (by omega)).trans HRC.out)
                  have g4 := (row_range6 HRC.out) 4 _ rfl
                  clear hg3 hg4 ho
                  go_wp2_with fail
                  go_roundg (gk - 1)
                  case measure => omega
                  case rel => exact ⟨j + 1, by omega, by omega, by go_num, HT3, HN3, HR3⟩
                · go_wp2_with fail
                  go_roundg (gK - 1)
                  case measure => omega
                  case rel => exact ⟨k + 1, T2, by omega, by omega, by go_num, Lib.hid HTC.out.forget⟩
    · have hsplit : (k < n ∧ k = 120) ∨ ¬ k < n := by omega
      clear hgo HA HD
      rcases hsplit with ⟨hkn, rfl⟩ | hkn
      all_goals
        go_upto_region 41 with fail
        go_loopg [22] 34 (fun g s wr => ∃ i : Nat, g + i = 34 ∧ i ≤ 34 ∧ s = .int .i64 ((i : Int) - 1) ∧ Hid (ST w wr P D No T T))
        case atStart => exact ⟨0, by omega, by omega, by go_num, HT⟩
        case round =>
          clear HT
          obtain ⟨i, hgi, hi, rfl, HT⟩ := hrel
          by_cases hlt : i < 34
          · obtain ⟨fd, hfd⟩ : ∃ fd : Int, (i : Int) - 1 = fd := ⟨_, rfl⟩
            have hfl : fd ≤ 32 := by omega
            obtain ⟨⟨x, r⟩, hgv⟩ : ∃ r, getV T fd = r := ⟨_, rfl⟩
            have HO := Lib.hid (s_get HT.out fd)
            have HO2 := Lib.hid (fun W (hW : Below wr.heap.size wr W) => t_get (HT.out.below hW) fd)
            rw [hgv] at HO HO2
            have HXL := Lib.hid (show x.ns.length ≤ 1000 from by have := st_le HT.out fd; rw [hgv] at this; exact this)
            unfold GetE DV at HO HO2
            dsimp only at HO HO2
            have HFD := Lib.hid hfd
            rw [hfd]
            clear hgv hfd
            go_wp2_with fail
            refine HO.out.mono ?_
            rintro _ w6 ⟨A6, c6, rfl, ho6, hb6⟩
            obtain ⟨w7, hw7⟩ : ∃ w7, w6.alloc (.cells #[.int .i64 x.ino, .int .i64 x.flag, .int .i64 x.off, .bool x.isd, .slice A6 x.ns.length c6, .int .i64 x.pos] 30) = w7 := ⟨_, rfl⟩
            have hb7 : Below w6.heap.size w6 w7 := by rw [← hw7]; exact below_alloc _ _
            have hr7 : w7.heap[w6.heap.size]? = some (.cells #[.int .i64 x.ino, .int .i64 x.flag, .int .i64 x.off, .bool x.isd, .slice A6 x.ns.length c6, .int .i64 x.pos] 30 (0, 0)) := by rw [← hw7]; exact heap_alloc_new w6 _
            have hsz7 : w7.heap.size = w6.heap.size + 1 := by rw [← hw7, World.size_alloc]
            obtain ⟨G6, hG6⟩ : ∃ G, w6.heap.size = G := ⟨_, rfl⟩
            rw [hG6] at hr7 hsz7
            have hb17 : Below wr.heap.size wr w7 := below_step hb6 hb7
            have HO3 := Lib.hid (HO2.out w7 hb17)
            have HDA := Lib.hid ((da_own ho6).below hb7)
            have HB17 := Lib.hid hb17
            have HR7 := Lib.hid hr7
            have HW7 := Lib.hid hw7
            have HG6 := Lib.hid hG6
            have HZ7 := Lib.hid hsz7
            clear HO ho6 hb6 hw7 hb7 hr7 hsz7 hG6 hb17 HO2
            go_upto_region 44 with fail
            rw [HW7.out, HG6.out]
            go_wp2_with fail
            refine HO3.out.mono ?_
            rintro _ w8 ⟨A8, c8, rfl, ho8, hb8⟩
            obtain ⟨w9, hw9⟩ : ∃ w9, w8.alloc (.cells #[.int .i64 x.ino, .int .i64 x.flag, .int .i64 x.off, .bool x.isd, .slice A8 x.ns.length c8, .int .i64 x.pos] 30) = w9 := ⟨_, rfl⟩
            have hb9 : Below w8.heap.size w8 w9 := by rw [← hw9]; exact below_alloc _ _
            have hr9 : w9.heap[w8.heap.size]? = some (.cells #[.int .i64 x.ino, .int .i64 x.flag, .int .i64 x.off, .bool x.isd, .slice A8 x.ns.length c8, .int .i64 x.pos] 30 (0, 0)) := by rw [← hw9]; exact heap_alloc_new w8 _
            obtain ⟨G8, hG8⟩ : ∃ G, w8.heap.size = G := ⟨_, rfl⟩
            rw [hG8] at hr9
            have hb79 := below_step hb8 hb9
            have hrA := (hb79.block G6 (by rw [HZ7.out]; omega)).trans HR7.out
            have HPA := Lib.hid (row_range6 hrA)
            have HPB := Lib.hid (row_range6 hr9)
            have HSY := Lib.hid (same_yes (HDA.out.below hb79) ((da_own ho8).below hb9) (by have := HXL.out; omega))
            unfold DV YesE at HSY
            have HT9 := Lib.hid (HT.out.below (below_step HB17.out hb79))
            have HW9 := Lib.hid hw9
            have HG8 := Lib.hid hG8
            clear ho8 hb8 hw9 hb9 hr9 hG8 hb79 hrA HT
            go_upto_region 45 with fail
            rw [HW9.out, HG8.out]
            go_wp2_with (first | refine wpList_load_mid (by rfl) 30 (.tmp 23) (by rfl) G6 0 (by rfl) _ _ HPA.out Try.underlying30 (by rfl) (by kernel_rfl) ?_ | refine wpList_load_mid (by rfl) 30 (.tmp 25) (by rfl) G8 0 (by rfl) _ _ HPB.out Try.underlying30 (by rfl) (by kernel_rfl) ?_)
            refine HSY.out.mono ?_
            rintro _ w10 ⟨rfl, hb10⟩
            have HT10 := Lib.hid (HT9.out.below hb10)
            clear hb10 HSY
            go_wp2_with fail
            go_roundg (gk - 1)
            case measure => omega
            case rel => exact ⟨i + 1, by omega, by omega, by have := HFD.out; rw [show wrap64 (fd + 1) = fd + 1 from by unfold wrap64; omega]; exact congrArg (Value.int .i64) (by omega), HT10⟩
          · have hi34 : i = 34 := by omega
            subst hi34
            have HE := Lib.hid HT.out.bel
            clear HT
            go_wp2_with fail
            go_ret
            exact ⟨rfl, HE.out⟩

set_option maxRecDepth 100000 in
theorem lifted (os : Os) (started : os.Started) (H : Type) (enc : TypeId × Value → H) :
    ReturnsInHanded {} Try.checked os 3 .any (Rows.descDoesSpec.pre6 enc Try.prog Try.f3 Rows.descDoesRow.domain false) (Rows.descDoesSpec.post enc Try.prog Try.f3 false true false false) := by
  refine returnsInHanded_of_change (C := Try.checked) own started (by kernel_rfl) Try.func3
    (ChangeSpec.witness6 (enc := enc) (C := Try.checked) false ⟨#[], #[.slice none 0 0], []⟩ 8 (by kernel_rfl) (by kernel_rfl) (by kernel_rfl) (by kernel_rfl)) ?_
  intro W base args ds gs before hval0 hW hcnd _
  have hval : ∀ (j : Nat) t v, Try.f3.params[j]? = some t → args[j]? = some v → Value.okWide Try.prog W .any base t v := hval0
  have hW' := hW
  obtain ⟨p, q, hA0, hV, rfl, hfz, hnd⟩ := hW
  have hA : DataW.TrodAll enc Try.prog W 0 (fun _ => true) true Try.f3.params.toList args.toList ds p := hA0
  rw [Try.params3] at hA hval
  obtain ⟨v0, vs0, d0, ds0, p0, q0, hargs, rfl, rfl, h0, r0⟩ := trodAll_cons hA
  obtain ⟨rfl, rfl, rfl⟩ := trodAll_nil r0
  obtain rfl : args = #[v0] := by cases args; simp_all
  obtain ⟨rfl, rfl⟩ := trodVars_none hV
  have hlt := fun x hx => hW'.lt x hx
  have t0 := h0
  obtain ⟨A0, n0, c0, x0, rfl, e0, s0⟩ := open_acts (hval 0 22 v0 rfl rfl) h0
  clear hA0 hval0
  refine (walk A0 n0 c0 x0 W e0 s0).mono fun e W' ⟨he, hg⟩ => ?_
  subst he
  exact ⟨_, rfl, law_post (pv := []) hW' (fun _ _ _ => (trodAll_cons_mk (shut_bool Try.underlying4 _) trodAll_mk0)) (fun sp hsp => (trodAll_cons_mk (arg_stays (by decide) t0 hg (by simp +contextual) hlt hsp laid) trodAll_mk0)) (fun _ _ => rfl) (by simp)
    hg (ok_one (by kernel_rfl) rfl (okWide_bool_mk Try.underlying4 _))⟩

theorem over : Rows.descDoesRow.holds Try.pinned (OpenSpec.ofChange Rows.descDoesSpec) :=
  OpenClaim.holds_of_wide 3 Try.f3 rfl rfl rfl rfl rfl rfl rfl ⟨rfl, rfl, rfl, rfl, rfl⟩ rfl rfl rfl rfl rfl (by kernel_rfl) Try.func3 (by kernel_rfl)
    (of_decide_eq_true (by kernel_rfl)) (by unfold Func.isWrapper; first | (rw [if_pos (by decide +kernel)]; kernel_rfl) | (rw [if_neg (by decide +kernel)]; exact ⟨rfl, rfl⟩))
    (fun os started H enc _ => lifted os started H enc)

/-- The statement. -/
theorem proved : Rows.DescDoesSaid :=
  over
end Go.Proofs.Ytfbdhpbnmjacmaa.descDoes
