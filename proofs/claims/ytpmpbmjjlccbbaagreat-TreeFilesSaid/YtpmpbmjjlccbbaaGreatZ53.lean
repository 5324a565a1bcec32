/- Part 53 of what is known of the program's functions and of the document's words: contracts, and the mathematics beneath them. -/
import Derived.Test.YtpmpbmjjlccbbaaGreatProg
import Derived.Test.YtpmpbmjjlccbbaaGreatZ38
import Derived.Test.YtpmpbmjjlccbbaaGreatZ52
set_option linter.unusedVariables false
set_option linter.unusedSimpArgs false
set_option maxRecDepth 100000
set_option maxHeartbeats 8000000
namespace Go.Proofs.YtpmpbmjjlccbbaaGreat.tr
open Go.RowKit
open br (BS Inv Ino fresh)
open cb (BrX RetW RetI)
open bl (Pq)
open wk (walkT pe pn pd e0 r0 dot1 dot2)
open ds (em De Tb DA DV DL GetE StE IntsE lowV openT getV errV setT closeT full allT dz)
open pa (Bs Sv Strs Own own_form info9 own_base)
def AwakeE (w:World) (e:Ending) (w':World):Prop:=e=.returned (.bool true)∧Below w.heap.size w w'
theorem awake_any (w:World):Calls Tryz.prog 11 #[] w (AwakeE w):=by
 have HN:=Lib.hid (cb.x_new 100 (by decide) (Below.refl w.heap.size w))
 have HN0:=Lib.hid (fun W=>t_new0 W)
 go_enter Tryz.func11,Tryz.ntmps11
 go_wp2_with fail
 refine HN.out.mono ?_
 rintro _ w1 ⟨B,rfl,h1,-,-⟩
 have HT:=Lib.hid (t_new h1)
 clear h1 HN
 go_wp2_with fail
 refine HT.out.mono ?_
 rintro _ w2 ⟨P,Q,rfl,h2,-⟩
 have H2:=Lib.hid (h2.weaken (Y:=fun _=>False) fun _ h=>h.elim)
 clear h2 HT
 go_wp2_with fail
 refine (HN0.out _).mono ?_
 rintro _ w3 ⟨rfl,rfl⟩
 have HD2:=Lib.hid (hd_fresh 100)
 have HL2:=Lib.hid (show Lim (⟨fresh,em⟩:Sy).T from lim_em)
 obtain ⟨X0,hX0⟩:∃ X0:Nat→Prop,X0=fun _=>False:=⟨_,rfl⟩
 rw [← hX0] at H2
 clear hX0 HN0
 have HC1:=Lib.hid (d1 H2.out (by omega) HD2.out HL2.out rfl)
 go_wp2_with fail
 refine HC1.out.mono ?_
 rintro _ u1 ⟨rfl,⟨s1,s2⟩,s3,s4⟩
 clear HC1
 go_upto_region 5 with fail
 obtain ⟨v1,G1,hv1,hG1,t1,t2,t3,t4⟩:=box_on s1 (.int .i64 0) (.int .i64 0) (.string ⟨#[]⟩) (.int .i64 0) (.int .i64 0) (.int .i64 0)
 obtain ⟨X1,hX1⟩:∃ X':Nat→Prop,X'=Ov X0 u1 v1:=⟨_,rfl⟩
 rw [← hX1] at t1 t3 t4
 have H3:=Lib.hid t1
 have HD3:=Lib.hid s3
 have HL3:=Lib.hid s4
 have HP1:=Lib.hid t3
 have HB1:=Lib.hid t2
 clear s1 s2 s3 s4 t1 t2 t3 t4 hX1
 rw [hv1,hG1]
 clear hv1 hG1
 have HC2:=Lib.hid (d2 H3.out (by omega) HD3.out HL3.out rfl)
 go_wp2_with fail
 refine HC2.out.mono ?_
 rintro _ u2 ⟨rfl,⟨s1,s2⟩,s3,s4⟩
 clear HC2
 go_upto_region 6 with fail
 obtain ⟨v2,G2,hv2,hG2,t1,t2,t3,t4⟩:=box_on s1 (.int .i64 0) (.int .i64 0) (.string ⟨#[]⟩) (.int .i64 0) (.int .i64 0) (.int .i64 0)
 obtain ⟨X2,hX2⟩:∃ X':Nat→Prop,X'=Ov X1 u2 v2:=⟨_,rfl⟩
 rw [← hX2] at t1 t3 t4
 have H4:=Lib.hid t1
 have HD4:=Lib.hid s3
 have HL4:=Lib.hid s4
 have HP2:=Lib.hid t3
 have HB2:=Lib.hid t2
 have HB1:=Lib.hid (HB1.out.same ((t4 G1 HP1.out).2.trans (s2 G1 HP1.out)) (t1.lt (t4 G1 HP1.out).1))
 have HP1:=Lib.hid (t4 G1 HP1.out).1
 clear s1 s2 s3 s4 t1 t2 t3 t4 hX2
 rw [hv2,hG2]
 clear hv2 hG2
 have HC3:=Lib.hid (d3 H4.out (by omega) HD4.out HL4.out rfl)
 go_wp2_with fail
 refine HC3.out.mono ?_
 rintro _ u3 ⟨rfl,⟨s1,s2⟩,s3,s4⟩
 clear HC3
 go_upto_region 7 with fail
 obtain ⟨v3,G3,hv3,hG3,t1,t2,t3,t4⟩:=box_on s1 (.int .i64 0) (.int .i64 2) (.string ⟨#[]⟩) (.int .i64 0) (.int .i64 0) (.int .i64 0)
 obtain ⟨X3,hX3⟩:∃ X':Nat→Prop,X'=Ov X2 u3 v3:=⟨_,rfl⟩
 rw [← hX3] at t1 t3 t4
 have H5:=Lib.hid t1
 have HD5:=Lib.hid s3
 have HL5:=Lib.hid s4
 have HP3:=Lib.hid t3
 have HB3:=Lib.hid t2
 have HB1:=Lib.hid (HB1.out.same ((t4 G1 HP1.out).2.trans (s2 G1 HP1.out)) (t1.lt (t4 G1 HP1.out).1))
 have HP1:=Lib.hid (t4 G1 HP1.out).1
 have HB2:=Lib.hid (HB2.out.same ((t4 G2 HP2.out).2.trans (s2 G2 HP2.out)) (t1.lt (t4 G2 HP2.out).1))
 have HP2:=Lib.hid (t4 G2 HP2.out).1
 clear s1 s2 s3 s4 t1 t2 t3 t4 hX3
 rw [hv3,hG3]
 clear hv3 hG3
 have HC4:=Lib.hid (d4 H5.out (by omega) HD5.out HL5.out rfl)
 go_wp2_with fail
 refine HC4.out.mono ?_
 rintro _ u4 ⟨rfl,⟨s1,s2⟩,s3,s4⟩
 clear HC4
 go_upto_region 8 with fail
 obtain ⟨v4,G4,hv4,hG4,t1,t2,t3,t4⟩:=box_on s1 (.int .i64 0) (.int .i64 1) (.string ⟨#[105]⟩) (.int .i64 0) (.int .i64 0) (.int .i64 0)
 obtain ⟨X4,hX4⟩:∃ X':Nat→Prop,X'=Ov X3 u4 v4:=⟨_,rfl⟩
 rw [← hX4] at t1 t3 t4
 have H6:=Lib.hid t1
 have HD6:=Lib.hid s3
 have HL6:=Lib.hid s4
 have HP4:=Lib.hid t3
 have HB4:=Lib.hid t2
 have HB1:=Lib.hid (HB1.out.same ((t4 G1 HP1.out).2.trans (s2 G1 HP1.out)) (t1.lt (t4 G1 HP1.out).1))
 have HP1:=Lib.hid (t4 G1 HP1.out).1
 have HB2:=Lib.hid (HB2.out.same ((t4 G2 HP2.out).2.trans (s2 G2 HP2.out)) (t1.lt (t4 G2 HP2.out).1))
 have HP2:=Lib.hid (t4 G2 HP2.out).1
 have HB3:=Lib.hid (HB3.out.same ((t4 G3 HP3.out).2.trans (s2 G3 HP3.out)) (t1.lt (t4 G3 HP3.out).1))
 have HP3:=Lib.hid (t4 G3 HP3.out).1
 clear s1 s2 s3 s4 t1 t2 t3 t4 hX4
 rw [hv4,hG4]
 clear hv4 hG4
 have HC5:=Lib.hid (d5 H6.out (by omega) HD6.out HL6.out rfl)
 go_wp2_with fail
 refine HC5.out.mono ?_
 rintro _ u5 ⟨rfl,⟨s1,s2⟩,s3,s4⟩
 clear HC5
 go_upto_region 9 with fail
 obtain ⟨v5,G5,hv5,hG5,t1,t2,t3,t4⟩:=box_on s1 (.int .i64 0) (.int .i64 0) (.string ⟨#[]⟩) (.int .i64 0) (.int .i64 0) (.int .i64 0)
 obtain ⟨X5,hX5⟩:∃ X':Nat→Prop,X'=Ov X4 u5 v5:=⟨_,rfl⟩
 rw [← hX5] at t1 t3 t4
 have H7:=Lib.hid t1
 have HD7:=Lib.hid s3
 have HL7:=Lib.hid s4
 have HP5:=Lib.hid t3
 have HB5:=Lib.hid t2
 have HB1:=Lib.hid (HB1.out.same ((t4 G1 HP1.out).2.trans (s2 G1 HP1.out)) (t1.lt (t4 G1 HP1.out).1))
 have HP1:=Lib.hid (t4 G1 HP1.out).1
 have HB2:=Lib.hid (HB2.out.same ((t4 G2 HP2.out).2.trans (s2 G2 HP2.out)) (t1.lt (t4 G2 HP2.out).1))
 have HP2:=Lib.hid (t4 G2 HP2.out).1
 have HB3:=Lib.hid (HB3.out.same ((t4 G3 HP3.out).2.trans (s2 G3 HP3.out)) (t1.lt (t4 G3 HP3.out).1))
 have HP3:=Lib.hid (t4 G3 HP3.out).1
 have HB4:=Lib.hid (HB4.out.same ((t4 G4 HP4.out).2.trans (s2 G4 HP4.out)) (t1.lt (t4 G4 HP4.out).1))
 have HP4:=Lib.hid (t4 G4 HP4.out).1
 clear s1 s2 s3 s4 t1 t2 t3 t4 hX5
 rw [hv5,hG5]
 clear hv5 hG5
 have HC6:=Lib.hid (d6 H7.out (by omega) HD7.out HL7.out rfl)
 go_wp2_with fail
 refine HC6.out.mono ?_
 rintro _ u6 ⟨rfl,⟨s1,s2⟩,s3,s4⟩
 clear HC6
 go_upto_region 10 with fail
 obtain ⟨v6,G6,hv6,hG6,t1,t2,t3,t4⟩:=box_on s1 (.int .i64 0) (.int .i64 0) (.string ⟨#[]⟩) (.int .i64 0) (.int .i64 0) (.int .i64 0)
 obtain ⟨X6,hX6⟩:∃ X':Nat→Prop,X'=Ov X5 u6 v6:=⟨_,rfl⟩
 rw [← hX6] at t1 t3 t4
 have H8:=Lib.hid t1
 have HD8:=Lib.hid s3
 have HL8:=Lib.hid s4
 have HP6:=Lib.hid t3
 have HB6:=Lib.hid t2
 have HB1:=Lib.hid (HB1.out.same ((t4 G1 HP1.out).2.trans (s2 G1 HP1.out)) (t1.lt (t4 G1 HP1.out).1))
 have HP1:=Lib.hid (t4 G1 HP1.out).1
 have HB2:=Lib.hid (HB2.out.same ((t4 G2 HP2.out).2.trans (s2 G2 HP2.out)) (t1.lt (t4 G2 HP2.out).1))
 have HP2:=Lib.hid (t4 G2 HP2.out).1
 have HB3:=Lib.hid (HB3.out.same ((t4 G3 HP3.out).2.trans (s2 G3 HP3.out)) (t1.lt (t4 G3 HP3.out).1))
 have HP3:=Lib.hid (t4 G3 HP3.out).1
 have HB4:=Lib.hid (HB4.out.same ((t4 G4 HP4.out).2.trans (s2 G4 HP4.out)) (t1.lt (t4 G4 HP4.out).1))
 have HP4:=Lib.hid (t4 G4 HP4.out).1
 have HB5:=Lib.hid (HB5.out.same ((t4 G5 HP5.out).2.trans (s2 G5 HP5.out)) (t1.lt (t4 G5 HP5.out).1))
 have HP5:=Lib.hid (t4 G5 HP5.out).1
 clear s1 s2 s3 s4 t1 t2 t3 t4 hX6
 rw [hv6,hG6]
 clear hv6 hG6
 have HC7:=Lib.hid (d7 H8.out (by omega) HD8.out HL8.out rfl)
 go_wp2_with fail
 refine HC7.out.mono ?_
 rintro _ u7 ⟨rfl,⟨s1,s2⟩,s3,s4⟩
 clear HC7
 go_upto_region 11 with fail
 obtain ⟨v7,G7,hv7,hG7,t1,t2,t3,t4⟩:=box_on s1 (.int .i64 2) (.int .i64 0) (.string ⟨#[]⟩) (.int .i64 0) (.int .i64 0) (.int .i64 0)
 obtain ⟨X7,hX7⟩:∃ X':Nat→Prop,X'=Ov X6 u7 v7:=⟨_,rfl⟩
 rw [← hX7] at t1 t3 t4
 have H9:=Lib.hid t1
 have HD9:=Lib.hid s3
 have HL9:=Lib.hid s4
 have HP7:=Lib.hid t3
 have HB7:=Lib.hid t2
 have HB1:=Lib.hid (HB1.out.same ((t4 G1 HP1.out).2.trans (s2 G1 HP1.out)) (t1.lt (t4 G1 HP1.out).1))
 have HP1:=Lib.hid (t4 G1 HP1.out).1
 have HB2:=Lib.hid (HB2.out.same ((t4 G2 HP2.out).2.trans (s2 G2 HP2.out)) (t1.lt (t4 G2 HP2.out).1))
 have HP2:=Lib.hid (t4 G2 HP2.out).1
 have HB3:=Lib.hid (HB3.out.same ((t4 G3 HP3.out).2.trans (s2 G3 HP3.out)) (t1.lt (t4 G3 HP3.out).1))
 have HP3:=Lib.hid (t4 G3 HP3.out).1
 have HB4:=Lib.hid (HB4.out.same ((t4 G4 HP4.out).2.trans (s2 G4 HP4.out)) (t1.lt (t4 G4 HP4.out).1))
 have HP4:=Lib.hid (t4 G4 HP4.out).1
 have HB5:=Lib.hid (HB5.out.same ((t4 G5 HP5.out).2.trans (s2 G5 HP5.out)) (t1.lt (t4 G5 HP5.out).1))
 have HP5:=Lib.hid (t4 G5 HP5.out).1
 have HB6:=Lib.hid (HB6.out.same ((t4 G6 HP6.out).2.trans (s2 G6 HP6.out)) (t1.lt (t4 G6 HP6.out).1))
 have HP6:=Lib.hid (t4 G6 HP6.out).1
 clear s1 s2 s3 s4 t1 t2 t3 t4 hX7
 rw [hv7,hG7]
 clear hv7 hG7
 have HO:=Lib.hid (t_open H9.out)
 unfold IntsE at HO
 go_wp2_with fail
 refine HO.out.mono ?_
 rintro _ w10 ⟨v,rfl,ho,hb⟩
 obtain ⟨A,c,rfl⟩:=ds.own_slice ho
 rw [a7]
 have HA:=Lib.hid (H9.out.below hb)
 have HB1:=Lib.hid (HB1.out.below hb)
 have HB2:=Lib.hid (HB2.out.below hb)
 have HB3:=Lib.hid (HB3.out.below hb)
 have HB4:=Lib.hid (HB4.out.below hb)
 have HB5:=Lib.hid (HB5.out.below hb)
 have HB6:=Lib.hid (HB6.out.below hb)
 have HB7:=Lib.hid (HB7.out.below hb)
 have HC8:=Lib.hid (d8 HA.out (by omega) HD9.out HL9.out rfl)
 clear ho hb HO
 go_wp2_with fail
 refine HC8.out.mono ?_
 rintro _ u8 ⟨rfl,⟨s1,s2⟩,s3,s4⟩
 have HB1:=Lib.hid (HB1.out.same (s2 G1 HP1.out) (s1.lt HP1.out))
 have b1_0:=fun ob=>(HB1.out.below (bel_alloc u8 ob)).c 0 _ rfl
 have HB2:=Lib.hid (HB2.out.same (s2 G2 HP2.out) (s1.lt HP2.out))
 have b2_0:=fun ob=>(HB2.out.below (bel_alloc u8 ob)).c 0 _ rfl
 have b2_1:=fun ob=>(HB2.out.below (bel_alloc u8 ob)).c 1 _ rfl
 have HB3:=Lib.hid (HB3.out.same (s2 G3 HP3.out) (s1.lt HP3.out))
 have b3_1:=fun ob=>(HB3.out.below (bel_alloc u8 ob)).c 1 _ rfl
 have HB4:=Lib.hid (HB4.out.same (s2 G4 HP4.out) (s1.lt HP4.out))
 have b4_2:=fun ob=>(HB4.out.below (bel_alloc u8 ob)).c 2 _ rfl
 have HB5:=Lib.hid (HB5.out.same (s2 G5 HP5.out) (s1.lt HP5.out))
 have b5_0:=fun ob=>(HB5.out.below (bel_alloc u8 ob)).c 0 _ rfl
 have HB6:=Lib.hid (HB6.out.same (s2 G6 HP6.out) (s1.lt HP6.out))
 have b6_0:=fun ob=>(HB6.out.below (bel_alloc u8 ob)).c 0 _ rfl
 have HB7:=Lib.hid (HB7.out.same (s2 G7 HP7.out) (s1.lt HP7.out))
 have b7_0:=fun ob=>(HB7.out.below (bel_alloc u8 ob)).c 0 _ rfl
 have HX:=Lib.hid (fun ob=>s1.below (bel_alloc u8 ob))
 have HBR:=Lib.hid (fun ob=>t_branch (HX.out ob))
 have HIN:=Lib.hid (fun ob=>(show Calls Tryz.prog 23 #[Pq B] (u8.alloc ob) (fun e w'=>e=.returned (.int .i64 1)∧w'=u8.alloc ob) by
  have:=(HX.out ob).asks fun _ hx=>cb.x_inodes hx
  rw [n7] at this
  exact this))
 have H9:=Lib.hid (fun ob=>d9 (HX.out ob) (by omega) s3 s4 rfl)
 have HB:=Lib.hid (fun ob=>bel_alloc u8 ob)
 clear s1 s2 s3 s4 HC8
 go_wp2_with fail
 refine (HBR.out _).mono ?_
 rintro _ w11 ⟨rfl,rfl⟩
 go_wp2_with fail
 refine (HBR.out _).mono ?_
 rintro _ w11 ⟨rfl,rfl⟩
 go_wp2_with fail
 refine (HIN.out _).mono ?_
 rintro _ w11 ⟨rfl,rfl⟩
 go_wp2_with fail
 refine (H9.out _).mono ?_
 rintro _ u9 ⟨rfl,⟨s1,s2⟩,s3,s4⟩
 have HE:=Lib.hid s1.bel
 have hfe:=fun W=>field_e 22 0 ⟨#[]⟩ 0 0 0 W
 clear s1 s2 s3 s4
 go_wp2_with fail
 go_ret
 exact ⟨rfl,HE.out⟩
end Go.Proofs.YtpmpbmjjlccbbaaGreat.tr
