/- 'one': an inode of the branch's is the document's. -/
import Derived.Test.YtlelnpckbcpkkaaGreatDF
import Derived.Test.YtlelnpckbcpkkaaGreatZt
import Derived.Test.YtlelnpckbcpkkaaGreatZm
namespace Go.Proofs.YtlelnpckbcpkkaaGreat.cb
open Go.RowKit Go.Shelf
open Go.Proofs.YtlelnpckbcpkkaaGreat.br
open Go.Proofs.YtlelnpckbcpkkaaGreat.dn (En Ao RetB)
open Go.Proofs.YtlelnpckbcpkkaaGreat.bl (AB Only StoC Pq)
set_option linter.unusedVariables false
set_option linter.unusedSimpArgs false

theorem ReadsQ.step {w w' : World} {A : Option Addr} {L : List En} (h : ReadsQ w w.heap.size A L) (hb : Below w.heap.size w w') : ReadsQ w' w'.heap.size A L := fun i x hx => by
  obtain ⟨G, e, hG, h0, h1⟩ := h.below hb i x hx
  exact ⟨G, e, Nat.lt_of_lt_of_le hG hb.size, h0, h1⟩
theorem Bxs.lt {B : Nat} {a b c : Int} {w : World} (h : Bxs B a b c w) : B < w.heap.size := by
  rcases Nat.lt_or_ge B w.heap.size with h1 | h1
  · exact h1
  · unfold Bxs at h; rw [Array.getElem?_eq_none h1] at h; cases h
theorem Bxs.below {B : Nat} {a b c : Int} {w w' : World} (h : Bxs B a b c w) (hb : Below w.heap.size w w') : Bxs B a b c w' := (hb.block B h.lt).trans h
section
variable {w0 w : World} {P D lo RS room T : Nat} {pl : Nat → Pd} {tag : Nat → Nat} {X : Nat → Prop} {S : BS}
theorem all_len {S : BS} {room : Nat} (hG : br.Good S room) (i : Int) : (S.all i).1.length ≤ 1000000 := by
  unfold BS.all
  split
  · simp
  · have := hG.1.dirLen i.toNat
    show (S.ino i.toNat).dir.length ≤ 1000000
    omega
set_option maxRecDepth 100000 in
set_option maxHeartbeats 2000000 in
theorem one_any (h : BrX w0 w P X S room T) (hd : DB w D lo RS pl tag S room) (i : Int) : Calls Tryz.prog 18 #[Pq P, Pq D, .int .i64 i] w (RetB w true) := by
  have HG := h.good
  have hN := all_len HG i
  have HS1 := Lib.hid (x_stat h i)
  have HS2 := Lib.hid (fun w2 (hb : Below w.heap.size w w2) => q_stat (hd.below hb) HG i)
  have HT1 := Lib.hid (fun w2 (hb : Below w.heap.size w w2) => x_target (h.below hb) i)
  have HT2 := Lib.hid (fun w2 (hb : Below w.heap.size w w2) => q_target (hd.below hb) i)
  have HA1 := Lib.hid (fun w2 (hb : Below w.heap.size w w2) => x_all (h.below hb) i)
  have HA2 := Lib.hid (fun w2 (hb : Below w.heap.size w w2) => q_all (hd.below hb) HG i)
  have HI := Lib.hid (fun w2 (hb : Below w.heap.size w w2) => q_is (hd.below hb) i)
  have HK1 := Lib.hid (fun w2 (hb : Below w.heap.size w w2) => x_kind (h.below hb) i)
  have HK2 := Lib.hid (fun w2 (hb : Below w.heap.size w w2) => q_kind (hd.below hb) i)
  have HP1 := Lib.hid (fun w2 (hb : Below w.heap.size w w2) => x_parent (h.below hb) i)
  have HP2 := Lib.hid (fun w2 (hb : Below w.heap.size w w2) => q_parent (hd.below hb) i)
  have HM1 := Lib.hid (fun w2 (hb : Below w.heap.size w w2) => x_marks (h.below hb) i)
  have HC := Lib.hid (fun I (hI : I ≤ 200) w2 (hb : Below w.heap.size w w2) => ((hd.below hb).ino I hI).c3)
  unfold RetW statV at HS1 HS2
  unfold RetQ at HT2 HI HK2 HP2
  unfold AllQ at HA2
  unfold RetI at HK1 HP1 HM1
  generalize S.kindOf i = kk at *
  generalize S.parentOf i = pp at *
  generalize (S.stat i).1.1 = a at *
  generalize (S.stat i).1.2.1 = b at *
  generalize (S.stat i).1.2.2 = c at *
  generalize (S.stat i).2 = se at *
  generalize S.targetOf i = tt at *
  generalize S.all i = al at *
  obtain ⟨t1, t2⟩ := tt
  obtain ⟨L, ae⟩ := al
  dsimp only at HT1 HT2 HA1 HA2 hN
  have e61 : ∀ W, (binOp .eql 61 (.agg #[.int .i64 a, .int .i64 (b : Int), .int .i64 c]) (.agg #[.int .i64 a, .int .i64 (b : Int), .int .i64 c])).run Tryz.prog W = .ok (.bool true) W := fun W => by rw [run_eql61]; simp
  have g61 := guard61
  have HSM := Lib.hid (fun W A B c d (h1 : ReadsQ W W.heap.size A L) (h2 : ReadsQ W W.heap.size B L) => (by
    have := same_any A B L.length L.length c d L L W rfl rfl hN hN h1 h2
    rwa [decide_eq_true rfl] at this : Calls Tryz.prog 65 #[.slice A L.length c, .slice B L.length d] W (RetB W true)))
  unfold RetB at HSM ⊢
  generalize L.length = n at *
  clear hN HG
  rcases isI_cases S i with hI | ⟨I, rfl, i1, i2, hn, hI⟩
  · rw [hI] at HI
    rw [show S.marksOf i = 0 by unfold BS.marksOf; rw [hI]; rfl] at HM1
    have HC0 := Lib.hid hI
    clear hI HC
    clear h hd HC0
    go_enter Tryz.func18, Tryz.ntmps18
    go_wp2_with fail
    refine HS1.out.mono ?_
    rintro _ w2 ⟨rfl, hb2⟩
    obtain ⟨w3, hw3⟩ : ∃ w3, w2.alloc (.cells #[.int .i64 a, .int .i64 (b : Int), .int .i64 c] 61) = w3 := ⟨_, rfl⟩
    have hx3 : Bxs w2.heap.size a b c w3 := by rw [← hw3]; exact Bxs.new w2 a b c
    have hb3 : Below w.heap.size w w3 := by rw [← hw3]; exact dn.below_step hb2 (dn.below_alloc w2 _)
    have HX3 := Lib.hid hx3
    have HB3 := Lib.hid hb3
    have HS3 := Lib.hid (HS2.out w3 hb3)
    clear hb2 hb3 hx3 HS1 HS2
    go_wp2_with fail
    refine HS3.out.mono ?_
    rintro _ w4 ⟨rfl, hb4⟩
    obtain ⟨w5, hw5⟩ : ∃ w5, w4.alloc (.cells #[.int .i64 a, .int .i64 (b : Int), .int .i64 c] 61) = w5 := ⟨_, rfl⟩
    have hb45 : Below w4.heap.size w4 w5 := by rw [← hw5]; exact dn.below_alloc w4 _
    have hx5 : Bxs w2.heap.size a b c w5 := (HX3.out.below hb4).below hb45
    have hy5 : Bxs w4.heap.size a b c w5 := by rw [← hw5]; exact Bxs.new w4 a b c
    have hb5 : Below w.heap.size w w5 := dn.below_step (dn.below_step HB3.out hb4) hb45
    have HX5 := Lib.hid hx5
    have HY5 := Lib.hid hy5
    have HB5 := Lib.hid hb5
    have HT5 := Lib.hid (HT1.out w5 hb5)
    clear hb4 hb45 hx5 hy5 hb5 HS3 HX3 HB3 HT1
    generalize w2.heap.size = B1 at *
    clear hw3
    go_wp2_with fail
    generalize w4.heap.size = B2 at *
    clear hw5
    refine HT5.out.mono ?_
    rintro _ w6 ⟨rfl, rfl⟩
    have HT6 := Lib.hid (HT2.out _ HB5.out)
    clear HT5 HT2
    go_wp2_with fail
    refine HT6.out.mono ?_
    rintro _ w7 ⟨rfl, rfl⟩
    have HA7 := Lib.hid (HA1.out _ HB5.out)
    clear HT6 HA1
    go_wp2_with fail
    refine HA7.out.mono ?_
    rintro _ w8 ⟨o8, c8, rfl, -, -, hsl8, hb8⟩
    have HR8 := Lib.hid (ReadsQ.of_sl hsl8)
    have HB8 := Lib.hid (dn.below_step HB5.out hb8)
    have HX8 := Lib.hid (HX5.out.below hb8)
    have HY8 := Lib.hid (HY5.out.below hb8)
    have HA8 := Lib.hid (HA2.out _ HB8.out)
    generalize Ao o8 = A8 at *
    clear hsl8 hb8 HX5 HY5 HB5 HA7 HA2
    go_wp2_with fail
    refine HA8.out.mono ?_
    rintro _ w9 ⟨o9, c9, rfl, hsl9, hb9⟩
    have HR9 := Lib.hid (ReadsQ.of_sl hsl9)
    have HR89 := Lib.hid (HR8.out.step hb9)
    have HB9 := Lib.hid (dn.below_step HB8.out hb9)
    have hx9 := HX8.out.below hb9
    have hy9 := HY8.out.below hb9
    have x0 := hx9.c0
    have x1 := hx9.c1
    have x2 := hx9.c2
    have y0 := hy9.c0
    have y1 := hy9.c1
    have y2 := hy9.c2
    have HI9 := Lib.hid (HI.out _ HB9.out)
    generalize Ao o9 = A9 at *
    have HSM9 := Lib.hid (HSM.out _ _ _ c8 c9 HR89.out HR9.out)
    clear hsl9 hb9 HX8 HY8 HB8 HA8 HR8 HR9 HR89 hx9 hy9 HI HSM
    go_wp2_with fail
    refine HI9.out.mono ?_
    rintro _ wA ⟨rfl, rfl⟩
    go_wp2_with fail
    refine HSM9.out.mono ?_
    rintro _ wB ⟨rfl, hbB⟩
    have HBB := Lib.hid (dn.below_step HB9.out hbB)
    have HKB := Lib.hid (HK1.out _ HBB.out)
    clear HB9 hbB HSM9 HI9 x0 x1 x2 y0 y1 y2 HK1
    go_wp2_with fail
    refine HKB.out.mono ?_
    rintro _ wC ⟨rfl, hbC⟩
    have HBC := Lib.hid (dn.below_step HBB.out hbC)
    have HKC := Lib.hid (HK2.out _ HBC.out)
    clear HBB hbC HKB HK2
    go_wp2_with fail
    refine HKC.out.mono ?_
    rintro _ wD ⟨rfl, rfl⟩
    have HPC := Lib.hid (HP1.out _ HBC.out)
    clear HKC HP1
    go_wp2_with fail
    refine HPC.out.mono ?_
    rintro _ wE ⟨rfl, hbE⟩
    have HBE := Lib.hid (dn.below_step HBC.out hbE)
    have HPE := Lib.hid (HP2.out _ HBE.out)
    clear HBC hbE HPC HP2
    go_wp2_with fail
    refine HPE.out.mono ?_
    rintro _ wF ⟨rfl, rfl⟩
    have HMF := Lib.hid (HM1.out _ HBE.out)
    clear HPE HM1
    go_wp2_with fail
    refine HMF.out.mono ?_
    rintro _ wG ⟨rfl, hbG⟩
    have hb := dn.below_step HBE.out hbG
    clear HBE HMF hbG
    go_wp2_with fail
    go_ret
    exact ⟨rfl, hb⟩
  · rw [hI] at HI
    rw [show S.marksOf (I : Int) = (S.ino I).marks by unfold BS.marksOf; rw [hI, at_nat]; rfl] at HM1
    have HC0 := Lib.hid hI
    have HC1 := Lib.hid (HC.out I i2)
    generalize (S.ino I).marks = mm at *
    have hI0 : (0 : Int) ≤ (I : Int) := by omega
    have hI1 : (I : Int) < 201 := by omega
    clear hI HC hn
    clear h hd HC0
    go_enter Tryz.func18, Tryz.ntmps18
    go_wp2_with fail
    refine HS1.out.mono ?_
    rintro _ w2 ⟨rfl, hb2⟩
    obtain ⟨w3, hw3⟩ : ∃ w3, w2.alloc (.cells #[.int .i64 a, .int .i64 (b : Int), .int .i64 c] 61) = w3 := ⟨_, rfl⟩
    have hx3 : Bxs w2.heap.size a b c w3 := by rw [← hw3]; exact Bxs.new w2 a b c
    have hb3 : Below w.heap.size w w3 := by rw [← hw3]; exact dn.below_step hb2 (dn.below_alloc w2 _)
    have HX3 := Lib.hid hx3
    have HB3 := Lib.hid hb3
    have HS3 := Lib.hid (HS2.out w3 hb3)
    clear hb2 hb3 hx3 HS1 HS2
    go_wp2_with fail
    refine HS3.out.mono ?_
    rintro _ w4 ⟨rfl, hb4⟩
    obtain ⟨w5, hw5⟩ : ∃ w5, w4.alloc (.cells #[.int .i64 a, .int .i64 (b : Int), .int .i64 c] 61) = w5 := ⟨_, rfl⟩
    have hb45 : Below w4.heap.size w4 w5 := by rw [← hw5]; exact dn.below_alloc w4 _
    have hx5 : Bxs w2.heap.size a b c w5 := (HX3.out.below hb4).below hb45
    have hy5 : Bxs w4.heap.size a b c w5 := by rw [← hw5]; exact Bxs.new w4 a b c
    have hb5 : Below w.heap.size w w5 := dn.below_step (dn.below_step HB3.out hb4) hb45
    have HX5 := Lib.hid hx5
    have HY5 := Lib.hid hy5
    have HB5 := Lib.hid hb5
    have HT5 := Lib.hid (HT1.out w5 hb5)
    clear hb4 hb45 hx5 hy5 hb5 HS3 HX3 HB3 HT1
    generalize w2.heap.size = B1 at *
    clear hw3
    go_wp2_with fail
    generalize w4.heap.size = B2 at *
    clear hw5
    refine HT5.out.mono ?_
    rintro _ w6 ⟨rfl, rfl⟩
    have HT6 := Lib.hid (HT2.out _ HB5.out)
    clear HT5 HT2
    go_wp2_with fail
    refine HT6.out.mono ?_
    rintro _ w7 ⟨rfl, rfl⟩
    have HA7 := Lib.hid (HA1.out _ HB5.out)
    clear HT6 HA1
    go_wp2_with fail
    refine HA7.out.mono ?_
    rintro _ w8 ⟨o8, c8, rfl, -, -, hsl8, hb8⟩
    have HR8 := Lib.hid (ReadsQ.of_sl hsl8)
    have HB8 := Lib.hid (dn.below_step HB5.out hb8)
    have HX8 := Lib.hid (HX5.out.below hb8)
    have HY8 := Lib.hid (HY5.out.below hb8)
    have HA8 := Lib.hid (HA2.out _ HB8.out)
    generalize Ao o8 = A8 at *
    clear hsl8 hb8 HX5 HY5 HB5 HA7 HA2
    go_wp2_with fail
    refine HA8.out.mono ?_
    rintro _ w9 ⟨o9, c9, rfl, hsl9, hb9⟩
    have HR9 := Lib.hid (ReadsQ.of_sl hsl9)
    have HR89 := Lib.hid (HR8.out.step hb9)
    have HB9 := Lib.hid (dn.below_step HB8.out hb9)
    have hx9 := HX8.out.below hb9
    have hy9 := HY8.out.below hb9
    have x0 := hx9.c0
    have x1 := hx9.c1
    have x2 := hx9.c2
    have y0 := hy9.c0
    have y1 := hy9.c1
    have y2 := hy9.c2
    have HI9 := Lib.hid (HI.out _ HB9.out)
    generalize Ao o9 = A9 at *
    have HSM9 := Lib.hid (HSM.out _ _ _ c8 c9 HR89.out HR9.out)
    clear hsl9 hb9 HX8 HY8 HB8 HA8 HR8 HR9 HR89 hx9 hy9 HI HSM
    have c3 := HC1.out _ HB9.out
    clear HC1
    go_wp2_with fail
    refine HI9.out.mono ?_
    rintro _ wA ⟨rfl, rfl⟩
    go_wp2_with fail
    refine HSM9.out.mono ?_
    rintro _ wB ⟨rfl, hbB⟩
    have HBB := Lib.hid (dn.below_step HB9.out hbB)
    have HKB := Lib.hid (HK1.out _ HBB.out)
    clear HB9 hbB HSM9 HI9 x0 x1 x2 y0 y1 y2 HK1
    go_wp2_with fail
    refine HKB.out.mono ?_
    rintro _ wC ⟨rfl, hbC⟩
    have HBC := Lib.hid (dn.below_step HBB.out hbC)
    have HKC := Lib.hid (HK2.out _ HBC.out)
    clear HBB hbC HKB HK2
    go_wp2_with fail
    refine HKC.out.mono ?_
    rintro _ wD ⟨rfl, rfl⟩
    have HPC := Lib.hid (HP1.out _ HBC.out)
    clear HKC HP1
    go_wp2_with fail
    refine HPC.out.mono ?_
    rintro _ wE ⟨rfl, hbE⟩
    have HBE := Lib.hid (dn.below_step HBC.out hbE)
    have HPE := Lib.hid (HP2.out _ HBE.out)
    clear HBC hbE HPC HP2
    go_wp2_with fail
    refine HPE.out.mono ?_
    rintro _ wF ⟨rfl, rfl⟩
    have HMF := Lib.hid (HM1.out _ HBE.out)
    clear HPE HM1
    go_wp2_with fail
    refine HMF.out.mono ?_
    rintro _ wG ⟨rfl, hbG⟩
    have hb := dn.below_step HBE.out hbG
    clear HBE HMF hbG
    go_wp2_with fail
    go_ret
    exact ⟨rfl, hb⟩
end
end Go.Proofs.YtlelnpckbcpkkaaGreat.cb
