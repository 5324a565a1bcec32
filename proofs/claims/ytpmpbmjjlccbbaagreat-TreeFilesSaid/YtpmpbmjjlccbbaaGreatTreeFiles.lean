/- For every list of calls and every four texts the law TreeFiles returns true, and what is handed in reads as it did. -/
import Derived.Test.YtpmpbmjjlccbbaaGreatZ53
import Derived.Test.YtpmpbmjjlccbbaaGreatZ38
import Derived.Test.YtpmpbmjjlccbbaaGreatTM
import Derived.Test.YtpmpbmjjlccbbaaGreatRows
import Derived.Deep.RegionWith
import Derived.Deep.QuietTactic
import Derived.BigQuiet
import Derived.ProofKit
import Derived.OpenShut
import Derived.ShutString
import Derived.Deep.LoopGhost
import Derived.StillTailTactics
namespace Go.Proofs.YtpmpbmjjlccbbaaGreat.treeFiles
open Go.ChangeShapes Go.WideShapes Go.ChangeAt Go.RowKit
open Go.ChangeMaps (open_string shut_string)
open Go.Proofs.YtpmpbmjjlccbbaaGreat.tr
set_option linter.unusedVariables false
set_option linter.unusedSimpArgs false
set_option maxRecDepth 100000
set_option maxHeartbeats 8000000
theorem own:ownKnob Tryz.prog.godebug=none:=by kernel_rfl
theorem laid:laidOutB Tryz.prog=true:=by kernel_rfl
open Go.Proofs.YtpmpbmjjlccbbaaGreat.br (BS Inv Ino fresh)
open Go.Proofs.YtpmpbmjjlccbbaaGreat.bl (Pq)
open Go.Proofs.YtpmpbmjjlccbbaaGreat.ds (De Tb em getV setT allT full IntsE)
open Go.Proofs.YtpmpbmjjlccbbaaGreat.wk (e0)
theorem walk (A:Option Addr) (n c:Nat) (F:Nat→Cal) (ta tb tc td:ByteArray) (w:World) (k1:n≤c∧c≤maxLen) (hF:Cls w w.heap.size A n F) (wta:ta.size≤140737488351232) (wtb:tb.size≤140737488351232) (wtc:tc.size≤140737488351232) (wtd:td.size≤140737488351232) :
  Calls Tryz.prog 5 #[.slice A n c,.string ta,.string tb,.string tc,.string td] w (AwakeE w):=by
 have hnm:n≤9223372036854775807:=Nat.le_trans k1.1 k1.2
 have HA:=Lib.hid hF
 have HAW:=Lib.hid (awake_any w)
 unfold AwakeE at HAW
 have HEND:=Lib.hid (fun W (h:Below w.heap.size w W)=>(show AwakeE w (.returned (.bool true)) W from ⟨rfl,h⟩))
 have HN:=Lib.hid (fun w1 (hb:Below w.heap.size w w1)=>cb.x_new (w0:=w) (w:=w1) 65536 (by decide) hb)
 clear k1 hF
 go_enter Tryz.func5,Tryz.ntmps5
 go_wp2_with fail
 refine HAW.out.mono ?_
 rintro e w1 ⟨rfl,hb1⟩
 have HN1:=Lib.hid (HN.out w1 hb1)
 clear hb1 HN HAW
 go_wp2_with fail
 refine HN1.out.mono ?_
 rintro e w2 ⟨B,rfl,h2,-,-⟩
 have HT2:=Lib.hid (t_new h2)
 clear h2 HN1
 go_wp2_with fail
 refine HT2.out.mono ?_
 rintro e w3 ⟨P,Q,rfl,h3,-⟩
 have H3:=Lib.hid (h3.weaken (Y:=fun _=>False) fun _ h=>h.elim)
 have HD3:=Lib.hid (hd_fresh 65536)
 have HL3:=Lib.hid (show Lim (⟨fresh,em⟩:Sy).T from lim_em)
 clear h3 HT2
 by_cases hbg:4096<td.size
 ·have hbg2:(4096:Int)<(td.size:Int):=by omega
  have HB:=Lib.hid H3.out.bel
  go_wp2_with fail
  go_ret
  exact HEND.out _ HB.out
 have hbg2:¬ (4096:Int)<(td.size:Int):=by omega
 by_cases hbig:4096<ta.size+tb.size+tc.size
 ·have hbig2:(4096:Int)<(ta.size:Int)+(tb.size:Int)+(tc.size:Int):=by omega
  have HB:=Lib.hid H3.out.bel
  go_wp2_with fail
  go_ret
  exact HEND.out _ HB.out
 have hbig2:¬ (4096:Int)<(ta.size:Int)+(tb.size:Int)+(tc.size:Int):=by omega
 go_wp2_with fail
 go_loopg [12] 100 (fun g s12 wr=>∃ (k:Nat) (y:Sy),g+k=100∧k≤n∧s12=.int .i64 k∧Hid (SyX w wr P B Q (fun _=>False) y 65536 (3*k))∧Hid (Hd 65536 y)∧Hid (Lim y.T)∧Hid (y.S.used≤258*k))
 case atStart=>exact ⟨0,_,by omega,by omega,rfl,H3,HD3,HL3,Lib.hid (Nat.zero_le _)⟩
 case round =>
  clear H3 HD3 HL3
  obtain ⟨k,y,hgk,hk,rfl,HS,HD,HL,HU⟩:=hrel
  by_cases hgo:k<n∧k<100
  ·obtain ⟨hkn,hk2⟩:=hgo
   obtain ⟨b,off,hA0,hbl,f0,f1,f2,f3,f4,f5,f6,sa,sb⟩:=HA.out k hkn
   subst hA0
   have HFC:=Lib.hid (fun W (hb:Below w.heap.size w W)=>And.intro ((hb.cell (p:=⟨b,off+k*7,none⟩) hbl).trans f0) (And.intro ((hb.cell (p:=⟨b,off+k*7+1,none⟩) hbl).trans f1) (And.intro ((hb.cell (p:=⟨b,off+k*7+2,none⟩) hbl).trans f2) (And.intro ((hb.cell (p:=⟨b,off+k*7+3,none⟩) hbl).trans f3) (And.intro ((hb.cell (p:=⟨b,off+k*7+4,none⟩) hbl).trans f4) (And.intro ((hb.cell (p:=⟨b,off+k*7+5,none⟩) hbl).trans f5) ((hb.cell (p:=⟨b,off+k*7+6,none⟩) hbl).trans f6)))))))
   have HLG:=Lib.hid (fun W=>large_any (F k) W sa sb)
   clear f0 f1 f2 f3 f4 f5 f6 sa sb
   obtain ⟨x,hx⟩:∃ x,F k=x:=⟨_,rfl⟩
   rw [hx] at HFC HLG
   clear hx
   obtain ⟨xo,xf,xl,xn,xx,xa,xb⟩:=x
   unfold CVal at HLG
   dsimp only at HFC HLG
   obtain ⟨lg,hlg⟩:∃ lg,largeB ⟨xo,xf,xl,xn,xx,xa,xb⟩=lg:=⟨_,rfl⟩
   rw [hlg] at HLG
   obtain ⟨f0,f1,f2,f3,f4,f5,f6⟩:=HFC.out _ HS.out.bel
   have hblr:b<wr.heap.size:=Nat.lt_of_lt_of_le hbl HS.out.bel.size
   go_wp2_with fail
   refine (HLG.out _).mono ?_
   rintro e w4 ⟨rfl,hb4⟩
   have H4:=Lib.hid (HS.out.below hb4)
   clear hb4 HLG hblr f0 f1 f2 f3 f4 f5 f6
   cases lg with
   | true =>
    have HB4:=Lib.hid H4.out.bel
    go_wp2_with fail
    try rw [Exit.noGoto_ret]
    go_ret
    exact HEND.out _ HB4.out
   | false =>
    obtain ⟨ha4,hb4⟩:=large_no hlg
    have HDO:=Lib.hid (Do_any H4.out (by omega) HD.out HL.out ⟨xo,xf,xl,xn,xx,xa,xb⟩ ha4 hb4)
    unfold ME CV at HDO
    dsimp only at HDO
    have hblr:b<w4.heap.size:=Nat.lt_of_lt_of_le hbl H4.out.bel.size
    clear hlg
    obtain ⟨f0,f1,f2,f3,f4,f5,f6⟩:=HFC.out _ H4.out.bel
    go_wp2_with fail
    refine HDO.out.mono ?_
    rintro e w7 ⟨r,y',rfl,hd,s1,-⟩
    have HD7:=Lib.hid (does_held HD.out hd)
    have HL7:=Lib.hid (does_lim HD.out HL.out hd)
    have HU7:=Lib.hid (show y'.S.used≤258*(k+1) from by
     have h1:=does_used hd
     have h2:=HU.out
     have h3:xa.size≤4096:=ha4
     have h4:xa.size / 16≤256:=by omega
     dsimp only at h1
     omega)
    have H7:=Lib.hid s1
    clear hd HDO hblr f0 f1 f2 f3 f4 f5 f6 s1
    go_wp2_with fail
    go_roundg (100 - (k+1))
    case measure=>omega
    case rel=>exact ⟨k+1,y',by omega,by omega,by go_num,Lib.hid (H7.out.up (by omega)),HD7,HL7,HU7⟩
  ·have hk100:k≤100:=by omega
   have hways:(k<n∧¬ ((k:Int)<100))∨¬ ((k:Int)<(n:Int)):=by omega
   rcases hways with ⟨hw1,hw2⟩|hw2
   all_goals
    clear hgo HA
    obtain ⟨X0,hX0⟩:∃ X0:Nat→Prop,X0=fun _=>False:=⟨_,rfl⟩
    rw [← hX0] at HS
    clear hX0
    have HC1:=Lib.hid (Do_gen HS.out (by omega) HD.out HL.out ⟨1,0,15,0,0,ta,⟨#[]⟩⟩ (fun _=>show ta.size≤1000000 by omega))
    unfold ME CV at HC1
    dsimp only at HC1
    go_wp2_with fail
    refine HC1.out.mono ?_
    rintro e u1 ⟨r1,y1,rfl,hd1,s1,s2⟩
    have HD1_:=Lib.hid (does_held HD.out hd1)
    have HL1_:=Lib.hid (does_lim HD.out HL.out hd1)
    clear HC1
    have hs:=is_1 hd1 rfl
    have HOP:=Lib.hid hs
    have HU1:=Lib.hid (show y1.S.used≤26100 from by
     have h1:=does_used hd1
     have h2:=HU.out
     dsimp only at h1
     omega)
    clear hs hd1
    obtain ⟨e1,n1,b1,k1,zn1,l1⟩:=r1
    unfold RVr RV
    dsimp only
    obtain ⟨z1,hz1⟩:∃ z:Int,(zn1:Int)=z:=⟨_,rfl⟩
    rw [hz1]
    have HZ1:=Lib.hid hz1
    clear hz1
    go_upto_region 13 with fail
    obtain ⟨v1,G1,hv1,hG1,t1,t2,t3,t4⟩:=box_on s1 (.int .i64 e1) (.int .i64 n1) (.string b1) (.int .i64 k1) (.int .i64 z1) (.int .i64 l1)
    obtain ⟨X1,hX1⟩:∃ X':Nat→Prop,X'=Ov X0 u1 v1:=⟨_,rfl⟩
    rw [← hX1] at t1 t3 t4
    have H1_:=Lib.hid t1
    have HP1:=Lib.hid t3
    have HB1:=Lib.hid t2
    clear s1 s2 t1 t2 t3 t4 hX1
    rw [hv1,hG1]
    clear hv1 hG1
    obtain ⟨x0,x1,x2,x3,x4,x5⟩:=HB1.out.six
    by_cases he:e1=0
    case neg =>
     have hB:=H1_.out.bel
     have hne:(e1 != 0)=true:=by simpa using he
     go_wp2_with fail
     try rw [Exit.noGoto_ret]
     go_ret
     exact HEND.out _ hB
    subst he
    obtain ⟨I,hf1,hlk1,hld1⟩:=made HD.out.good HOP.out rfl rfl
    dsimp only at hf1 hld1
    have HF1:=Lib.hid hf1
    have HK1:=Lib.hid hlk1
    have HG1:=Lib.hid hld1
    clear hf1 hlk1 hld1 HOP
    have HC2:=Lib.hid (Do_gen H1_.out (by omega) HD1_.out HL1_.out ⟨4,n1,0,0,0,td,⟨#[]⟩⟩ (fun _=>show td.size≤1000000 by omega))
    unfold ME CV at HC2
    dsimp only at HC2
    go_wp2_with fail
    refine HC2.out.mono ?_
    rintro e u2 ⟨r2,y2,rfl,hd2,s1,s2⟩
    have HD2_:=Lib.hid (does_held HD1_.out hd2)
    have HL2_:=Lib.hid (does_lim HD1_.out HL1_.out hd2)
    clear HC2
    have hs:=is_4 hd2 rfl
    obtain ⟨q1,q2,⟨o2,q3⟩,q4,q5⟩:=filled HD1_.out HF1.out (by have:=HU1.out;omega) (by omega) hs
    have HE2:=Lib.hid (And.intro q1 q2)
    have HF2:=Lib.hid q3
    have HK2:=Lib.hid (q4.trans HK1.out)
    have HG2:=Lib.hid (fun (fol:Bool)=>(by rw [lead_ext HD1_.out.good q5 (HG1.out fol).1];exact HG1.out fol:(lead y2.S ta fol).2=0∧(lead y2.S ta fol).1.2.2=(I:Int)))
    clear hs hd2 q1 q2 q3 q4 q5 HK1 HG1 HF1
    obtain ⟨e2,n2,b2,k2,zn2,l2⟩:=r2
    unfold RVr RV
    dsimp only
    obtain ⟨z2,hz2⟩:∃ z:Int,(zn2:Int)=z:=⟨_,rfl⟩
    rw [hz2]
    have HZ2:=Lib.hid hz2
    clear hz2
    go_upto_region 17 with fail
    obtain ⟨v2,G2,hv2,hG2,t1,t2,t3,t4⟩:=box_on s1 (.int .i64 e2) (.int .i64 n2) (.string b2) (.int .i64 k2) (.int .i64 z2) (.int .i64 l2)
    obtain ⟨X2,hX2⟩:∃ X':Nat→Prop,X'=Ov X1 u2 v2:=⟨_,rfl⟩
    rw [← hX2] at t1 t3 t4
    have H2_:=Lib.hid t1
    have HP2:=Lib.hid t3
    have HB2:=Lib.hid t2
    have HB1:=Lib.hid (HB1.out.same ((t4 G1 HP1.out).2.trans (s2 G1 HP1.out)) (t1.lt (t4 G1 HP1.out).1))
    have HP1:=Lib.hid (t4 G1 HP1.out).1
    clear s1 s2 t1 t2 t3 t4 hX2
    rw [hv2,hG2]
    clear hv2 hG2
    obtain ⟨q1,q2⟩:=HE2.out
    dsimp only at q1 q2
    subst q1 q2
    clear HE2
    obtain ⟨p0,p1,p2,p3,p4,p5⟩:=HB2.out.six
    have HC3:=Lib.hid (Do_gen H2_.out (by omega) HD2_.out HL2_.out ⟨9,0,0,0,0,ta,⟨#[]⟩⟩ (fun _=>show ta.size≤1000000 by omega))
    unfold ME CV at HC3
    dsimp only at HC3
    go_wp2_with fail
    refine HC3.out.mono ?_
    rintro e u3 ⟨r3,y3,rfl,hd3,s1,s2⟩
    have HD3_:=Lib.hid (does_held HD2_.out hd3)
    have HL3_:=Lib.hid (does_lim HD2_.out HL2_.out hd3)
    clear HC3
    obtain ⟨hs1,hs2⟩:=is_9 hd3 rfl
    have hst:=stat_file (c:=⟨9,0,0,0,0,ta,⟨#[]⟩⟩) (HG2.out true) HF2.out HK2.out
    rw [hst,fil_len td] at hs1
    unfold e0 at hs1
    subst hs1 hs2
    clear hd3 hst
    unfold RVr RV
    dsimp only
    have hft:=fun W=>field_t 0 0 ⟨#[]⟩ 1 (td.size:Int) 1 W
    have H3_:=Lib.hid s1
    have HB1:=Lib.hid (HB1.out.same (s2 G1 HP1.out) (s1.lt HP1.out))
    have HB2:=Lib.hid (HB2.out.same (s2 G2 HP2.out) (s1.lt HP2.out))
    clear s1 s2
    have HC4:=Lib.hid (Do_gen H3_.out (by omega) HD3_.out HL3_.out ⟨14,0,0,0,0,ta,tb⟩ (fun _=>show ta.size≤1000000 by omega))
    unfold ME CV at HC4
    dsimp only at HC4
    go_wp2_with fail
    refine HC4.out.mono ?_
    rintro e u4 ⟨r4,y4,rfl,hd4,s1,s2⟩
    have HD4_:=Lib.hid (does_held HD3_.out hd4)
    have HL4_:=Lib.hid (does_lim HD3_.out HL3_.out hd4)
    clear HC4
    clear hft
    have HS4_:=Lib.hid (is_14 hd4 rfl)
    have HER4:=Lib.hid (does_err HD3_.out.good hd4)
    obtain ⟨e4,n4,b4,k4,zn4,l4⟩:=r4
    unfold RVr RV
    dsimp only at HER4 HS4_ ⊢
    have hfe4:=fun W=>field_e e4 n4 b4 k4 (zn4:Int) l4 W
    clear hd4
    have H4_:=Lib.hid s1
    have HB1:=Lib.hid (HB1.out.same (s2 G1 HP1.out) (s1.lt HP1.out))
    have HB2:=Lib.hid (HB2.out.same (s2 G2 HP2.out) (s1.lt HP2.out))
    clear s1 s2
    by_cases he:e4=0
    case neg =>
     have qe:(e4 != 0)=true:=by simpa using he
     have hy:=(HER4.out he).1
     subst hy
     have HC5:=Lib.hid (Do_gen H4_.out (by omega) HD4_.out HL4_.out ⟨5,n1,0,65536,0,⟨#[]⟩,⟨#[]⟩⟩ (by intro h;dsimp only at h;omega))
     unfold ME CV at HC5
     dsimp only at HC5
     go_wp2_with fail
     refine HC5.out.mono ?_
     rintro e u5 ⟨r5,y5,rfl,hd5,s1,s2⟩
     have HD5_:=Lib.hid (does_held HD4_.out hd5)
     have HL5_:=Lib.hid (does_lim HD4_.out HL4_.out hd5)
     clear HC5
     have hs:=is_5 hd5 rfl
     have hrd:=fil_pread HF2.out HD4_.out (by decide)
     unfold e0 at hrd
     rw [hrd,fil_data td,fil_len td] at hs
     injection hs with hs1 hs2
     subst hs1 hs2
     clear hd5 hrd
     unfold RVr RV
     dsimp only
     have hfs:=fun W=>field_s 0 (td.size:Int) td 0 0 0 W
     have H5_:=Lib.hid s1
     have HB1:=Lib.hid (HB1.out.same (s2 G1 HP1.out) (s1.lt HP1.out))
     have HB2:=Lib.hid (HB2.out.same (s2 G2 HP2.out) (s1.lt HP2.out))
     clear s1 s2
     have hB:=H5_.out.bel
     go_wp2_with fail
     try rw [Exit.noGoto_ret]
     go_ret
     exact HEND.out _ hB
    subst he
    obtain ⟨_,i1,i2,_⟩:=HF2.out
    obtain ⟨j1,j2,j3⟩:=f_linked HD3_.out.good HS4_.out rfl i1 i2 (HG2.out false)
    have HF4:=Lib.hid (HF2.out.step HD3_.out j1 j2)
    have HN4:=Lib.hid j3
    clear j1 j2 j3 HS4_ HER4
    have HC5:=Lib.hid (Do_gen H4_.out (by omega) HD4_.out HL4_.out ⟨13,0,0,0,0,ta,⟨#[]⟩⟩ (fun _=>show ta.size≤1000000 by omega))
    unfold ME CV at HC5
    dsimp only at HC5
    go_wp2_with fail
    refine HC5.out.mono ?_
    rintro e u5 ⟨r5,y5,rfl,hd5,s1,s2⟩
    have HD5_:=Lib.hid (does_held HD4_.out hd5)
    have HL5_:=Lib.hid (does_lim HD4_.out HL4_.out hd5)
    clear HC5
    have HS5_:=Lib.hid (is_13 hd5 rfl)
    have HER5:=Lib.hid (does_err HD4_.out.good hd5)
    obtain ⟨e5,n5,b5,k5,zn5,l5⟩:=r5
    unfold RVr RV
    dsimp only at HER5 HS5_ ⊢
    have hfe5:=fun W=>field_e e5 n5 b5 k5 (zn5:Int) l5 W
    clear hd5
    have H5_:=Lib.hid s1
    have HB1:=Lib.hid (HB1.out.same (s2 G1 HP1.out) (s1.lt HP1.out))
    have HB2:=Lib.hid (HB2.out.same (s2 G2 HP2.out) (s1.lt HP2.out))
    clear s1 s2
    by_cases he:e5=0
    case neg =>
     have qe:(e5 != 0)=true:=by simpa using he
     have hy:=(HER5.out he).1
     subst hy
     have HC6:=Lib.hid (Do_gen H5_.out (by omega) HD5_.out HL5_.out ⟨5,n1,0,65536,0,⟨#[]⟩,⟨#[]⟩⟩ (by intro h;dsimp only at h;omega))
     unfold ME CV at HC6
     dsimp only at HC6
     go_wp2_with fail
     refine HC6.out.mono ?_
     rintro e u6 ⟨r6,y6,rfl,hd6,s1,s2⟩
     have HD6_:=Lib.hid (does_held HD5_.out hd6)
     have HL6_:=Lib.hid (does_lim HD5_.out HL5_.out hd6)
     clear HC6
     have hs:=is_5 hd6 rfl
     have hrd:=fil_pread HF4.out HD5_.out (by decide)
     unfold e0 at hrd
     rw [hrd,fil_data td,fil_len td] at hs
     injection hs with hs1 hs2
     subst hs1 hs2
     clear hd6 hrd
     unfold RVr RV
     dsimp only
     have hfs:=fun W=>field_s 0 (td.size:Int) td 0 0 0 W
     have H6_:=Lib.hid s1
     have HB1:=Lib.hid (HB1.out.same (s2 G1 HP1.out) (s1.lt HP1.out))
     have HB2:=Lib.hid (HB2.out.same (s2 G2 HP2.out) (s1.lt HP2.out))
     clear s1 s2
     have hB:=H6_.out.bel
     go_wp2_with fail
     try rw [Exit.noGoto_ret]
     go_ret
     exact HEND.out _ hB
    subst he
    obtain ⟨j1,j2,j3⟩:=keep_unlink (I:=I) HS5_.out
    have HF5:=Lib.hid (HF4.out.step HD4_.out j1 j2)
    have HR5:=Lib.hid j3
    clear j1 j2 j3 HS5_ HER5
    have HC6:=Lib.hid (Do_gen H5_.out (by omega) HD5_.out HL5_.out ⟨17,0,0,0,0,tb,tc⟩ (fun _=>show tb.size≤1000000 by omega))
    unfold ME CV at HC6
    dsimp only at HC6
    go_wp2_with fail
    refine HC6.out.mono ?_
    rintro e u6 ⟨r6,y6,rfl,hd6,s1,s2⟩
    have HD6_:=Lib.hid (does_held HD5_.out hd6)
    have HL6_:=Lib.hid (does_lim HD5_.out HL5_.out hd6)
    clear HC6
    have HS6_:=Lib.hid (is_17 hd6 rfl)
    have HER6:=Lib.hid (does_err HD5_.out.good hd6)
    obtain ⟨e6,n6,b6,k6,zn6,l6⟩:=r6
    unfold RVr RV
    dsimp only at HER6 HS6_ ⊢
    have hfe6:=fun W=>field_e e6 n6 b6 k6 (zn6:Int) l6 W
    clear hd6
    have H6_:=Lib.hid s1
    have HB1:=Lib.hid (HB1.out.same (s2 G1 HP1.out) (s1.lt HP1.out))
    have HB2:=Lib.hid (HB2.out.same (s2 G2 HP2.out) (s1.lt HP2.out))
    clear s1 s2
    by_cases he:e6=0
    case neg =>
     have qe:(e6 != 0)=true:=by simpa using he
     have hy:=(HER6.out he).1
     subst hy
     have HW:=Lib.hid (fun (h:(lead y6.S tb true).2=0)=>found_b HD6_.out.good HR5.out HN4.out HF4.out.2.1 HF4.out.2.2.1 HF4.out.2.2.2.1 h)
     have HC7:=Lib.hid (Do_gen H6_.out (by omega) HD6_.out HL6_.out ⟨1,0,1,0,0,tb,⟨#[]⟩⟩ (fun _=>show tb.size≤1000000 by omega))
     unfold ME CV at HC7
     dsimp only at HC7
     go_wp2_with fail
     refine HC7.out.mono ?_
     rintro e u7 ⟨r7,y7,rfl,hd7,s1,s2⟩
     have HD7_:=Lib.hid (does_held HD6_.out hd7)
     have HL7_:=Lib.hid (does_lim HD6_.out HL6_.out hd7)
     clear HC7
     have HS7_:=Lib.hid (is_1 hd7 rfl)
     have HER7:=Lib.hid (does_err HD6_.out.good hd7)
     clear hd7
     obtain ⟨e7,n7,b7,k7,zn7,l7⟩:=r7
     unfold RVr RV
     dsimp only
     obtain ⟨z7,hz7⟩:∃ z:Int,(zn7:Int)=z:=⟨_,rfl⟩
     rw [hz7]
     have HZ7:=Lib.hid hz7
     clear hz7
     go_upto_region 24 with fail
     obtain ⟨v7,G7,hv7,hG7,t1,t2,t3,t4⟩:=box_on s1 (.int .i64 e7) (.int .i64 n7) (.string b7) (.int .i64 k7) (.int .i64 z7) (.int .i64 l7)
     obtain ⟨X7,hX7⟩:∃ X':Nat→Prop,X'=Ov X2 u7 v7:=⟨_,rfl⟩
     rw [← hX7] at t1 t3 t4
     have H7_:=Lib.hid t1
     have HP7:=Lib.hid t3
     have HB7:=Lib.hid t2
     have HB1:=Lib.hid (HB1.out.same ((t4 G1 HP1.out).2.trans (s2 G1 HP1.out)) (t1.lt (t4 G1 HP1.out).1))
     have HP1:=Lib.hid (t4 G1 HP1.out).1
     have HB2:=Lib.hid (HB2.out.same ((t4 G2 HP2.out).2.trans (s2 G2 HP2.out)) (t1.lt (t4 G2 HP2.out).1))
     have HP2:=Lib.hid (t4 G2 HP2.out).1
     clear s1 s2 t1 t2 t3 t4 hX7
     rw [hv7,hG7]
     clear hv7 hG7
     obtain ⟨p0,p1,p2,p3,p4,p5⟩:=HB7.out.six
     dsimp only at HER7 HS7_
     by_cases he:e7=0
     case neg =>
      have qe:(e7 != 0)=true:=by simpa using he
      have hy:=(HER7.out he).1
      subst hy
      have HC8:=Lib.hid (Do_gen H7_.out (by omega) HD7_.out HL7_.out ⟨5,n1,0,65536,0,⟨#[]⟩,⟨#[]⟩⟩ (by intro h;dsimp only at h;omega))
      unfold ME CV at HC8
      dsimp only at HC8
      go_wp2_with fail
      refine HC8.out.mono ?_
      rintro e u8 ⟨r8,y8,rfl,hd8,s1,s2⟩
      have HD8_:=Lib.hid (does_held HD7_.out hd8)
      have HL8_:=Lib.hid (does_lim HD7_.out HL7_.out hd8)
      clear HC8
      have hs:=is_5 hd8 rfl
      have hrd:=fil_pread HF5.out HD7_.out (by decide)
      unfold e0 at hrd
      rw [hrd,fil_data td,fil_len td] at hs
      injection hs with hs1 hs2
      subst hs1 hs2
      clear hd8 hrd
      unfold RVr RV
      dsimp only
      have hfs:=fun W=>field_s 0 (td.size:Int) td 0 0 0 W
      have H8_:=Lib.hid s1
      have HB1:=Lib.hid (HB1.out.same (s2 G1 HP1.out) (s1.lt HP1.out))
      have HB2:=Lib.hid (HB2.out.same (s2 G2 HP2.out) (s1.lt HP2.out))
      have HB7:=Lib.hid (HB7.out.same (s2 G7 HP7.out) (s1.lt HP7.out))
      clear s1 s2
      have hB:=H8_.out.bel
      go_wp2_with fail
      try rw [Exit.noGoto_ret]
      go_ret
      exact HEND.out _ hB
     subst he
     obtain ⟨j1,j2,j3⟩:=reopened HD6_.out HS7_.out rfl rfl HW.out HF5.out
     dsimp only at j1 j3
     have HF7:=Lib.hid j2
     have HP7_:=Lib.hid j1
     have HJ:=Lib.hid j3
     clear j1 j2 j3 HS7_ HER7 HW
     have HC8:=Lib.hid (Do_gen H7_.out (by omega) HD7_.out HL7_.out ⟨3,n7,0,65536,0,⟨#[]⟩,⟨#[]⟩⟩ (by intro h;dsimp only at h;omega))
     unfold ME CV at HC8
     dsimp only at HC8
     go_wp2_with fail
     refine HC8.out.mono ?_
     rintro e u8 ⟨r8,y8,rfl,hd8,s1,s2⟩
     have HD8_:=Lib.hid (does_held HD7_.out hd8)
     have HL8_:=Lib.hid (does_lim HD7_.out HL7_.out hd8)
     clear HC8
     have hs:=is_3 hd8 rfl
     have hrd:=fil_read HP7_.out HD7_.out (by decide)
     unfold e0 at hrd
     rw [hrd,fil_data td,fil_len td] at hs
     injection hs with hs1 hs2
     have HF8:=Lib.hid (show Fil 15 o2 I td.data.toList n1 y8 from by
      rw [hs2]
      obtain ⟨g1,g2⟩:=HF7.out
      exact ⟨fil_other g1 HJ.out,g2⟩)
     subst hs1
     clear hd8 hrd hs2
     unfold RVr RV
     dsimp only
     go_upto_region 27 with fail
     obtain ⟨v8,G8,hv8,hG8,t1,t2,t3,t4⟩:=box_on s1 (.int .i64 0) (.int .i64 (td.size:Int)) (.string td) (.int .i64 0) (.int .i64 0) (.int .i64 0)
     obtain ⟨X8,hX8⟩:∃ X':Nat→Prop,X'=Ov X7 u8 v8:=⟨_,rfl⟩
     rw [← hX8] at t1 t3 t4
     have H8_:=Lib.hid t1
     have HP8:=Lib.hid t3
     have HB8:=Lib.hid t2
     have HB1:=Lib.hid (HB1.out.same ((t4 G1 HP1.out).2.trans (s2 G1 HP1.out)) (t1.lt (t4 G1 HP1.out).1))
     have HP1:=Lib.hid (t4 G1 HP1.out).1
     have HB2:=Lib.hid (HB2.out.same ((t4 G2 HP2.out).2.trans (s2 G2 HP2.out)) (t1.lt (t4 G2 HP2.out).1))
     have HP2:=Lib.hid (t4 G2 HP2.out).1
     have HB7:=Lib.hid (HB7.out.same ((t4 G7 HP7.out).2.trans (s2 G7 HP7.out)) (t1.lt (t4 G7 HP7.out).1))
     have HP7:=Lib.hid (t4 G7 HP7.out).1
     clear s1 s2 t1 t2 t3 t4 hX8
     rw [hv8,hG8]
     clear hv8 hG8
     have HC9:=Lib.hid (Do_gen H8_.out (by omega) HD8_.out HL8_.out ⟨5,n1,0,65536,0,⟨#[]⟩,⟨#[]⟩⟩ (by intro h;dsimp only at h;omega))
     unfold ME CV at HC9
     dsimp only at HC9
     go_wp2_with fail
     refine HC9.out.mono ?_
     rintro e u9 ⟨r9,y9,rfl,hd9,s1,s2⟩
     have HD9_:=Lib.hid (does_held HD8_.out hd9)
     have HL9_:=Lib.hid (does_lim HD8_.out HL8_.out hd9)
     clear HC9
     have hs:=is_5 hd9 rfl
     have hrd:=fil_pread HF8.out HD8_.out (by decide)
     unfold e0 at hrd
     rw [hrd,fil_data td,fil_len td] at hs
     injection hs with hs1 hs2
     subst hs1 hs2
     clear hd9 hrd
     unfold RVr RV
     dsimp only
     go_upto_region 28 with fail
     obtain ⟨v9,G9,hv9,hG9,t1,t2,t3,t4⟩:=box_on s1 (.int .i64 0) (.int .i64 (td.size:Int)) (.string td) (.int .i64 0) (.int .i64 0) (.int .i64 0)
     obtain ⟨X9,hX9⟩:∃ X':Nat→Prop,X'=Ov X8 u9 v9:=⟨_,rfl⟩
     rw [← hX9] at t1 t3 t4
     have H9_:=Lib.hid t1
     have HP9:=Lib.hid t3
     have HB9:=Lib.hid t2
     have HB1:=Lib.hid (HB1.out.same ((t4 G1 HP1.out).2.trans (s2 G1 HP1.out)) (t1.lt (t4 G1 HP1.out).1))
     have HP1:=Lib.hid (t4 G1 HP1.out).1
     have HB2:=Lib.hid (HB2.out.same ((t4 G2 HP2.out).2.trans (s2 G2 HP2.out)) (t1.lt (t4 G2 HP2.out).1))
     have HP2:=Lib.hid (t4 G2 HP2.out).1
     have HB7:=Lib.hid (HB7.out.same ((t4 G7 HP7.out).2.trans (s2 G7 HP7.out)) (t1.lt (t4 G7 HP7.out).1))
     have HP7:=Lib.hid (t4 G7 HP7.out).1
     have HB8:=Lib.hid (HB8.out.same ((t4 G8 HP8.out).2.trans (s2 G8 HP8.out)) (t1.lt (t4 G8 HP8.out).1))
     have HP8:=Lib.hid (t4 G8 HP8.out).1
     clear s1 s2 t1 t2 t3 t4 hX9
     rw [hv9,hG9]
     clear hv9 hG9
     clear p0 p1 p2 p3 p4 p5
     obtain ⟨u0,u1,u2,u3,u4,u5⟩:=HB8.out.six
     obtain ⟨v0,v1,v2,v3,v4,v5⟩:=HB9.out.six
     have hB:=H9_.out.bel
     go_wp2_with fail
     first
      | (try rw [Exit.noGoto_ret]);go_ret;exact HEND.out _ hB
      | go_quiet (fail);go_wp2_with fail;go_ret;exact HEND.out _ (dn.below_drewN hB _)
    subst he
    have HW:=Lib.hid (fun (h:(lead y6.S tc true).2=0)=>found_c HD5_.out HD6_.out.good HR5.out HN4.out HF5.out HS6_.out rfl h)
    obtain ⟨j1,j2⟩:=keep_rename (I:=I) HS6_.out
    have HF6:=Lib.hid (HF5.out.step HD5_.out j1 j2)
    clear j1 j2 HS6_ HER6
    have HC7:=Lib.hid (Do_gen H6_.out (by omega) HD6_.out HL6_.out ⟨1,0,1,0,0,tc,⟨#[]⟩⟩ (fun _=>show tc.size≤1000000 by omega))
    unfold ME CV at HC7
    dsimp only at HC7
    go_wp2_with fail
    refine HC7.out.mono ?_
    rintro e u7 ⟨r7,y7,rfl,hd7,s1,s2⟩
    have HD7_:=Lib.hid (does_held HD6_.out hd7)
    have HL7_:=Lib.hid (does_lim HD6_.out HL6_.out hd7)
    clear HC7
    have HS7_:=Lib.hid (is_1 hd7 rfl)
    have HER7:=Lib.hid (does_err HD6_.out.good hd7)
    clear hd7
    obtain ⟨e7,n7,b7,k7,zn7,l7⟩:=r7
    unfold RVr RV
    dsimp only
    obtain ⟨z7,hz7⟩:∃ z:Int,(zn7:Int)=z:=⟨_,rfl⟩
    rw [hz7]
    have HZ7:=Lib.hid hz7
    clear hz7
    go_upto_region 24 with fail
    obtain ⟨v7,G7,hv7,hG7,t1,t2,t3,t4⟩:=box_on s1 (.int .i64 e7) (.int .i64 n7) (.string b7) (.int .i64 k7) (.int .i64 z7) (.int .i64 l7)
    obtain ⟨X7,hX7⟩:∃ X':Nat→Prop,X'=Ov X2 u7 v7:=⟨_,rfl⟩
    rw [← hX7] at t1 t3 t4
    have H7_:=Lib.hid t1
    have HP7:=Lib.hid t3
    have HB7:=Lib.hid t2
    have HB1:=Lib.hid (HB1.out.same ((t4 G1 HP1.out).2.trans (s2 G1 HP1.out)) (t1.lt (t4 G1 HP1.out).1))
    have HP1:=Lib.hid (t4 G1 HP1.out).1
    have HB2:=Lib.hid (HB2.out.same ((t4 G2 HP2.out).2.trans (s2 G2 HP2.out)) (t1.lt (t4 G2 HP2.out).1))
    have HP2:=Lib.hid (t4 G2 HP2.out).1
    clear s1 s2 t1 t2 t3 t4 hX7
    rw [hv7,hG7]
    clear hv7 hG7
    obtain ⟨p0,p1,p2,p3,p4,p5⟩:=HB7.out.six
    dsimp only at HER7 HS7_
    by_cases he:e7=0
    case neg =>
     have qe:(e7 != 0)=true:=by simpa using he
     have hy:=(HER7.out he).1
     subst hy
     have HC8:=Lib.hid (Do_gen H7_.out (by omega) HD7_.out HL7_.out ⟨5,n1,0,65536,0,⟨#[]⟩,⟨#[]⟩⟩ (by intro h;dsimp only at h;omega))
     unfold ME CV at HC8
     dsimp only at HC8
     go_wp2_with fail
     refine HC8.out.mono ?_
     rintro e u8 ⟨r8,y8,rfl,hd8,s1,s2⟩
     have HD8_:=Lib.hid (does_held HD7_.out hd8)
     have HL8_:=Lib.hid (does_lim HD7_.out HL7_.out hd8)
     clear HC8
     have hs:=is_5 hd8 rfl
     have hrd:=fil_pread HF6.out HD7_.out (by decide)
     unfold e0 at hrd
     rw [hrd,fil_data td,fil_len td] at hs
     injection hs with hs1 hs2
     subst hs1 hs2
     clear hd8 hrd
     unfold RVr RV
     dsimp only
     have hfs:=fun W=>field_s 0 (td.size:Int) td 0 0 0 W
     have H8_:=Lib.hid s1
     have HB1:=Lib.hid (HB1.out.same (s2 G1 HP1.out) (s1.lt HP1.out))
     have HB2:=Lib.hid (HB2.out.same (s2 G2 HP2.out) (s1.lt HP2.out))
     have HB7:=Lib.hid (HB7.out.same (s2 G7 HP7.out) (s1.lt HP7.out))
     clear s1 s2
     have hB:=H8_.out.bel
     go_wp2_with fail
     try rw [Exit.noGoto_ret]
     go_ret
     exact HEND.out _ hB
    subst he
    obtain ⟨j1,j2,j3⟩:=reopened HD6_.out HS7_.out rfl rfl HW.out HF6.out
    dsimp only at j1 j3
    have HF7:=Lib.hid j2
    have HP7_:=Lib.hid j1
    have HJ:=Lib.hid j3
    clear j1 j2 j3 HS7_ HER7 HW
    have HC8:=Lib.hid (Do_gen H7_.out (by omega) HD7_.out HL7_.out ⟨3,n7,0,65536,0,⟨#[]⟩,⟨#[]⟩⟩ (by intro h;dsimp only at h;omega))
    unfold ME CV at HC8
    dsimp only at HC8
    go_wp2_with fail
    refine HC8.out.mono ?_
    rintro e u8 ⟨r8,y8,rfl,hd8,s1,s2⟩
    have HD8_:=Lib.hid (does_held HD7_.out hd8)
    have HL8_:=Lib.hid (does_lim HD7_.out HL7_.out hd8)
    clear HC8
    have hs:=is_3 hd8 rfl
    have hrd:=fil_read HP7_.out HD7_.out (by decide)
    unfold e0 at hrd
    rw [hrd,fil_data td,fil_len td] at hs
    injection hs with hs1 hs2
    have HF8:=Lib.hid (show Fil 15 o2 I td.data.toList n1 y8 from by
     rw [hs2]
     obtain ⟨g1,g2⟩:=HF7.out
     exact ⟨fil_other g1 HJ.out,g2⟩)
    subst hs1
    clear hd8 hrd hs2
    unfold RVr RV
    dsimp only
    go_upto_region 27 with fail
    obtain ⟨v8,G8,hv8,hG8,t1,t2,t3,t4⟩:=box_on s1 (.int .i64 0) (.int .i64 (td.size:Int)) (.string td) (.int .i64 0) (.int .i64 0) (.int .i64 0)
    obtain ⟨X8,hX8⟩:∃ X':Nat→Prop,X'=Ov X7 u8 v8:=⟨_,rfl⟩
    rw [← hX8] at t1 t3 t4
    have H8_:=Lib.hid t1
    have HP8:=Lib.hid t3
    have HB8:=Lib.hid t2
    have HB1:=Lib.hid (HB1.out.same ((t4 G1 HP1.out).2.trans (s2 G1 HP1.out)) (t1.lt (t4 G1 HP1.out).1))
    have HP1:=Lib.hid (t4 G1 HP1.out).1
    have HB2:=Lib.hid (HB2.out.same ((t4 G2 HP2.out).2.trans (s2 G2 HP2.out)) (t1.lt (t4 G2 HP2.out).1))
    have HP2:=Lib.hid (t4 G2 HP2.out).1
    have HB7:=Lib.hid (HB7.out.same ((t4 G7 HP7.out).2.trans (s2 G7 HP7.out)) (t1.lt (t4 G7 HP7.out).1))
    have HP7:=Lib.hid (t4 G7 HP7.out).1
    clear s1 s2 t1 t2 t3 t4 hX8
    rw [hv8,hG8]
    clear hv8 hG8
    have HC9:=Lib.hid (Do_gen H8_.out (by omega) HD8_.out HL8_.out ⟨5,n1,0,65536,0,⟨#[]⟩,⟨#[]⟩⟩ (by intro h;dsimp only at h;omega))
    unfold ME CV at HC9
    dsimp only at HC9
    go_wp2_with fail
    refine HC9.out.mono ?_
    rintro e u9 ⟨r9,y9,rfl,hd9,s1,s2⟩
    have HD9_:=Lib.hid (does_held HD8_.out hd9)
    have HL9_:=Lib.hid (does_lim HD8_.out HL8_.out hd9)
    clear HC9
    have hs:=is_5 hd9 rfl
    have hrd:=fil_pread HF8.out HD8_.out (by decide)
    unfold e0 at hrd
    rw [hrd,fil_data td,fil_len td] at hs
    injection hs with hs1 hs2
    subst hs1 hs2
    clear hd9 hrd
    unfold RVr RV
    dsimp only
    go_upto_region 28 with fail
    obtain ⟨v9,G9,hv9,hG9,t1,t2,t3,t4⟩:=box_on s1 (.int .i64 0) (.int .i64 (td.size:Int)) (.string td) (.int .i64 0) (.int .i64 0) (.int .i64 0)
    obtain ⟨X9,hX9⟩:∃ X':Nat→Prop,X'=Ov X8 u9 v9:=⟨_,rfl⟩
    rw [← hX9] at t1 t3 t4
    have H9_:=Lib.hid t1
    have HP9:=Lib.hid t3
    have HB9:=Lib.hid t2
    have HB1:=Lib.hid (HB1.out.same ((t4 G1 HP1.out).2.trans (s2 G1 HP1.out)) (t1.lt (t4 G1 HP1.out).1))
    have HP1:=Lib.hid (t4 G1 HP1.out).1
    have HB2:=Lib.hid (HB2.out.same ((t4 G2 HP2.out).2.trans (s2 G2 HP2.out)) (t1.lt (t4 G2 HP2.out).1))
    have HP2:=Lib.hid (t4 G2 HP2.out).1
    have HB7:=Lib.hid (HB7.out.same ((t4 G7 HP7.out).2.trans (s2 G7 HP7.out)) (t1.lt (t4 G7 HP7.out).1))
    have HP7:=Lib.hid (t4 G7 HP7.out).1
    have HB8:=Lib.hid (HB8.out.same ((t4 G8 HP8.out).2.trans (s2 G8 HP8.out)) (t1.lt (t4 G8 HP8.out).1))
    have HP8:=Lib.hid (t4 G8 HP8.out).1
    clear s1 s2 t1 t2 t3 t4 hX9
    rw [hv9,hG9]
    clear hv9 hG9
    clear p0 p1 p2 p3 p4 p5
    obtain ⟨u0,u1,u2,u3,u4,u5⟩:=HB8.out.six
    obtain ⟨v0,v1,v2,v3,v4,v5⟩:=HB9.out.six
    have hB:=H9_.out.bel
    go_wp2_with fail
    first
     | (try rw [Exit.noGoto_ret]);go_ret;exact HEND.out _ hB
     | go_quiet (fail);go_wp2_with fail;go_ret;exact HEND.out _ (dn.below_drewN hB _)
theorem lifted (os:Os) (started:os.Started) (H:Type) (enc:TypeId×Value→H) :
  ReturnsInHanded {} Tryz.checked os 5 .any (Rows.treeFilesSpec.pre6 enc Tryz.prog Tryz.f5 Rows.treeFilesRow.domain false) (Rows.treeFilesSpec.post enc Tryz.prog Tryz.f5 false true false false):=by
 refine returnsInHanded_of_change_sized (C:=Tryz.checked) own started (by kernel_rfl) Tryz.func5
  (ChangeSpec.witness6 (enc:=enc) (C:=Tryz.checked) false ⟨#[],#[.slice none 0 0,.string ByteArray.empty,.string ByteArray.empty,.string ByteArray.empty,.string ByteArray.empty],[]⟩ 8 (by kernel_rfl) (by kernel_rfl) (by kernel_rfl) (by kernel_rfl)) ?_
 intro W base args ds gs before hval0 hW hcnd hsz _
 have hval:∀ (j:Nat) t v,Tryz.f5.params[j]?=some t→args[j]?=some v→Value.okWide Tryz.prog W .any base t v:=hval0
 have hW':=hW
 obtain ⟨p,q,hA0,hV,rfl,hfz,hnd⟩:=hW
 have hA:DataW.TrodAll enc Tryz.prog W 0 (fun _=>true) true Tryz.f5.params.toList args.toList ds p:=hA0
 rw [Tryz.params5] at hA hval
 obtain ⟨v0,vs0,d0,ds0,p0,q0,hargs,rfl,rfl,h0,r0⟩:=trodAll_cons hA
 obtain ⟨v1,vs1,d1,ds1,p1,q1,rfl,rfl,rfl,h1,r1⟩:=trodAll_cons r0
 obtain ⟨v2,vs2,d2,ds2,p2,q2,rfl,rfl,rfl,h2,r2⟩:=trodAll_cons r1
 obtain ⟨v3,vs3,d3,ds3,p3,q3,rfl,rfl,rfl,h3,r3⟩:=trodAll_cons r2
 obtain ⟨v4,vs4,d4,ds4,p4,q4,rfl,rfl,rfl,h4,r4⟩:=trodAll_cons r3
 obtain ⟨rfl,rfl,rfl⟩:=trodAll_nil r4
 obtain rfl:args=#[v0,v1,v2,v3,v4]:=by cases args;simp_all
 obtain ⟨rfl,rfl⟩:=trodVars_none hV
 have hlt:=fun x hx=>hW'.lt x hx
 have t0:=h0
 obtain ⟨A0,n0,c0,x0,rfl,e0,s0⟩:=open_calls (hval 0 22 v0 rfl rfl) h0
 obtain ⟨a1,rfl,rfl,rfl,w1⟩:=open_string Tryz.underlying9 (hval 1 9 v1 rfl rfl) h1
 have z1:a1.size≤140737488351232:=by
  have:=List.all_eq_true.1 hsz a1.size (DataW.weights_mem_each (j:=1) (t:=9) (d:=.lit (.string a1.data.toList)) rfl rfl _ (by simp [DataW.weights]))
  exact of_decide_eq_true this
 obtain ⟨a2,rfl,rfl,rfl,w2⟩:=open_string Tryz.underlying9 (hval 2 9 v2 rfl rfl) h2
 have z2:a2.size≤140737488351232:=by
  have:=List.all_eq_true.1 hsz a2.size (DataW.weights_mem_each (j:=2) (t:=9) (d:=.lit (.string a2.data.toList)) rfl rfl _ (by simp [DataW.weights]))
  exact of_decide_eq_true this
 obtain ⟨a3,rfl,rfl,rfl,w3⟩:=open_string Tryz.underlying9 (hval 3 9 v3 rfl rfl) h3
 have z3:a3.size≤140737488351232:=by
  have:=List.all_eq_true.1 hsz a3.size (DataW.weights_mem_each (j:=3) (t:=9) (d:=.lit (.string a3.data.toList)) rfl rfl _ (by simp [DataW.weights]))
  exact of_decide_eq_true this
 obtain ⟨a4,rfl,rfl,rfl,w4⟩:=open_string Tryz.underlying9 (hval 4 9 v4 rfl rfl) h4
 have z4:a4.size≤140737488351232:=by
  have:=List.all_eq_true.1 hsz a4.size (DataW.weights_mem_each (j:=4) (t:=9) (d:=.lit (.string a4.data.toList)) rfl rfl _ (by simp [DataW.weights]))
  exact of_decide_eq_true this
 clear hA0 hval0
 refine (walk A0 n0 c0 x0 a1 a2 a3 a4 W e0 s0 z1 z2 z3 z4).mono fun e W' ⟨he,hg⟩=>?_
 subst he
 exact ⟨_,rfl,law_post (pv:=[]) hW' (fun _ _ _=>(trodAll_cons_mk (shut_bool Tryz.underlying4 _) trodAll_mk0)) (fun sp hsp=>(trodAll_cons_mk (arg_stays t0 hg (by simp +contextual) hlt hsp laid) (trodAll_cons_mk (shut_string Tryz.underlying9 w1) (trodAll_cons_mk (shut_string Tryz.underlying9 w2) (trodAll_cons_mk (shut_string Tryz.underlying9 w3) (trodAll_cons_mk (shut_string Tryz.underlying9 w4) trodAll_mk0)))))) (fun _ _=>rfl) (by simp)
  hg (ok_one (by kernel_rfl) rfl (okWide_bool_mk Tryz.underlying4 _))⟩
theorem over:Rows.treeFilesRow.holds Tryz.pinned (OpenSpec.ofChange Rows.treeFilesSpec) :=
 OpenClaim.holds_of_wide 5 Tryz.f5 rfl rfl rfl rfl rfl rfl rfl ⟨rfl,rfl,rfl,rfl,rfl⟩ rfl rfl rfl rfl rfl (by kernel_rfl) Tryz.func5 (by kernel_rfl)
  (of_decide_eq_true (by kernel_rfl)) (by unfold Func.isWrapper;first|(rw [if_pos (by decide +kernel)];kernel_rfl)|(rw [if_neg (by decide +kernel)];exact ⟨rfl,rfl⟩))
  (fun os started H enc _=>lifted os started H enc)
theorem proved:Rows.TreeFilesSaid :=
 over
end Go.Proofs.YtpmpbmjjlccbbaaGreat.treeFiles