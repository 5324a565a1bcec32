/- Part 48 of what is known of the program's functions and of the document's words: contracts, and the mathematics beneath them. -/
import Derived.Test.YtpmpbmjjlccbbaaGreatProg
import Derived.Test.YtpmpbmjjlccbbaaGreatZ47
set_option linter.unusedVariables false
set_option linter.unusedSimpArgs false
set_option maxRecDepth 100000
set_option maxHeartbeats 8000000
namespace Go.Proofs.YtpmpbmjjlccbbaaGreat.tr
open Go.RowKit
open br (BS Inv Ino)
open cb (BrX RetW RetI)
open bl (Pq)
open wk (walkT pe pn pd e0 r0 dot1 dot2)
open ds (De Tb DA DV DL GetE StE IntsE lowV openT getV errV setT closeT full allT dz)
open pa (Bs Sv Strs Own own_form info9 own_base)
def seekB (y:Sy) (c:Cal) (d:De):Int:=if c.flag=1 then d.off else if c.flag=2 then ((y.S.stat d.ino).1.2.1:Int) else 0
theorem seek_err {y:Sy} {c:Cal} {d:De} {e:Int} (h:fileD y.T c.fd none=(d,e)) (he:e≠0):doSeek y c=(wrong e,y):=by
 unfold doSeek
 dsimp only
 rw [h,if_pos he]
theorem seek_is {y:Sy} {c:Cal} {d:De} (h:fileD y.T c.fd none=(d,0)):doSeek y c=if c.flag<0∨2<c.flag∨1099511627776 - seekB y c d<c.off∨c.off<0 - seekB y c d then (wrong 22,y)
  else (⟨0,seekB y c d+c.off,e0,(0,0,0)⟩,⟨y.S,setT y.T c.fd { d with off:=seekB y c d+c.off }⟩):=by
 unfold doSeek seekB
 dsimp only
 rw [h,if_neg (fun e=>e rfl)]
theorem close_err {y:Sy} {c:Cal} (h:(getV y.T c.fd).2≠0):doClose y c=(wrong (getV y.T c.fd).2,y):=if_pos h
theorem close_ok {y:Sy} {c:Cal} (h:(getV y.T c.fd).2=0):doClose y c=(wrong 0,⟨(y.S.release (getV y.T c.fd).1.ino).2,closeT y.T c.fd⟩):=if_neg (fun e=>e h)
theorem St.less {w0 w W:World} {P B Q n n' room T:Nat} {X:Nat→Prop} {y:Sy} (h:St w0 w W P B Q X n y room T) (h1:w.heap.size≤n') (h2:n'≤n):St w0 w W P B Q X n' y room T :=
 ⟨h.sy.weaken fun b hb=>by rcases hb with hb|hb;exact .inl hb;exact .inr ⟨hb.1,by omega⟩,h.kp,h.xl,h.lo,h1⟩
theorem m_seek {w0 w:World} {P B Q room T:Nat} {X:Nat→Prop} {y:Sy} (h:SyX w0 w P B Q X y room T) (hT:T≤990) (hh:Hd room y) (hl:Lim y.T) (c:Cal) :
  Calls Tryz.prog 66 #[Pq P,CV c] w (ME w0 w P B Q X room (T+3) (fun r y'=>(r,y')=doSeek y c)):=by
 obtain ⟨co,cf,cl,cn,cx,ca,cb⟩:=c
 have hhR:=Lib.hid h
 have HH:=Lib.hid hh
 unfold CV
 dsimp only
 obtain ⟨g,b,w1,w2,hg,hw1,hb,hw2,HG2,HR2,HQ,H2⟩:=m_entry h co cf cl cn cx ca cb
 have HD:=Lib.hid (me_done (w0:=w0) (w:=w) (P:=P) (B:=B) (Q:=Q) (X:=X) (room:=room) (T:=T+3) (rel:=fun r y'=>(r,y')=doSeek y ⟨co,cf,cl,cn,cx,ca,cb⟩))
 have HT:=Lib.hid hT
 obtain ⟨c0,c1,c2,c3,c4,c5,c6⟩:=HG2.out.seven
 unfold ME
 clear h hT hh
 have HL:=Lib.hid hl
 clear hl
 have HC:=Lib.hid (file_any H2.out.sy cf 0 none ask_none)
 unfold FileE at HC
 obtain ⟨gv,hgv⟩:∃ gv,fileD y.T cf none=gv:=⟨_,rfl⟩
 have HGV:=Lib.hid hgv
 rw [hgv] at HC
 clear hgv
 obtain ⟨⟨d0,d1,d2,d3,xs,d5⟩,ge⟩:=gv
 unfold DV at HC
 dsimp only at HC
 obtain ⟨m,hm⟩:∃ m,xs.length=m:=⟨_,rfl⟩
 have HM:=Lib.hid hm
 rw [hm] at HC
 clear hm
 by_cases he:ge=0
 case neg =>
  have HF:=Lib.hid (seek_err (c:=⟨co,cf,cl,cn,cx,ca,cb⟩) HGV.out he)
  generalize doSeek y ⟨co,cf,cl,cn,cx,ca,cb⟩=dd at *
  have qe:(ge != 0)=true:=by simpa using he
  clear he
  go_enter Tryz.func66,Tryz.ntmps66
  go_wp2_with fail
  refine HC.out.mono ?_
  rintro _ w3 ⟨A,c,rfl,hda,hb3⟩
  have H4:=Lib.hid (fun ob=>H2.out.grow (bel_step hb3 (bel_alloc w3 ob)) rfl)
  have HR4:=Lib.hid (fun ob=>HR2.out.below (bel_step hb3 (bel_alloc w3 ob)))
  have HQB:=Lib.hid (fun ob=>(show b<(w3.alloc ob).heap.size by have h1:=HQ.out;have h3:=hb3.size;rw [World.size_alloc];omega))
  clear hb3 c0 c1 c2 c3 c4 c5 c6
  go_wp2_with fail
  refine (failed_any (ge) _).mono ?_
  rintro _ w7 ⟨rfl,hb7⟩
  have H7:=Lib.hid ((H4.out _).below hb7)
  have HR7:=Lib.hid ((HR4.out _).below hb7)
  obtain ⟨x0,x1,x2,x3,x4,x5⟩:=HR7.out.six
  obtain ⟨y0,y1,y2,y3,y4,y5⟩:=HR7.out.z6
  clear hb7 
  go_wp2_with fail
  refine bodyPost_ret (results_cell1 rfl _ _ b _ _ rfl (set6r HR7.out _ _ _ _ _ _).range Tryz.underlying39 (by rfl) (by rfl)) rfl ?_
  exact HD.out _ _ _ (HF.out.symm) ((H7.out.set6 HQ.out.2.1.1 (HQB.out _) _ _ _ _ _ _).up (by omega:T≤T+3)).done
 subst he
 have HSK:=Lib.hid (seek_is (c:=⟨co,cf,cl,cn,cx,ca,cb⟩) HGV.out)
 dsimp only at HSK
 obtain ⟨hg0,hi0⟩:=file_ok (T:=y.T) (fd:=cf) (k:=none) (by rw [HGV.out])
 rw [HGV.out] at hg0 hi0
 dsimp only at hi0
 have hft:=HH.out.get hg0
 have hkd:=hft.kindOf
 rw [show (⟨d0,d1,d2,d3,xs,d5⟩:De).isd=false from hi0,if_neg (by decide)] at hkd
 have hsz:=size_lim hhR.out.good hkd
 obtain ⟨-,-,-,-,-,hp0,-,hn0⟩:=hft
 obtain ⟨hp1,-,-⟩:=HL.out.get hg0
 dsimp only at hp0 hp1 hn0 hsz
 rw [HM.out] at hn0
 have HML:=Lib.hid (show m≤4000 from hn0)
 clear hg0 hi0 hkd hn0
 generalize doSeek y ⟨co,cf,cl,cn,cx,ca,cb⟩=dd at *
 by_cases hf0:cl=0
 ·subst hf0
  rw [show seekB y ⟨co,cf,0,cn,cx,ca,cb⟩ ⟨d0,d1,d2,d3,xs,d5⟩=0 from rfl] at HSK
  simp only [Int.zero_add] at HSK
  by_cases h1:cx<0 - 0
  ·rw [if_pos (.inr (.inr (.inr h1)))] at HSK
   have HF:=HSK
   have h1':cx < -0:=by omega
   go_enter Tryz.func66,Tryz.ntmps66
   go_wp2_with fail
   refine HC.out.mono ?_
   rintro _ w3 ⟨A,c,rfl,hda,hb3⟩
   obtain ⟨w4,g4,hw4,hg4,HP4,H4,HG4,HR4,HQ4,HN4,HQB,HQG,HDA,hmc⟩:=d_box H2 hb3 hda HG2 HR2 HQ
   clear hb3 hda c0 c1 c2 c3 c4 c5 c6
   have HWN:∃ wn,wn=w4.heap.size:=⟨_,rfl⟩
   obtain ⟨wn,hwn⟩:=HWN
   rw [← hwn] at HQ4 HQB HQG
   have H4:=Lib.hid (hwn▸H4.out)
   clear hmc
   obtain ⟨t0,t1,t2,t3,t4,t5⟩:=HP4.out.six
   obtain ⟨c0,c1,c2,c3,c4,c5,c6⟩:=HG4.out.seven
   go_wp2_with fail
   refine (failed_any (22) w4).mono ?_
   rintro _ w7 ⟨rfl,hb7⟩
   have H7:=Lib.hid ((H4.out).below hb7)
   have HR7:=Lib.hid ((HR4.out).below hb7)
   obtain ⟨x0,x1,x2,x3,x4,x5⟩:=HR7.out.six
   obtain ⟨y0,y1,y2,y3,y4,y5⟩:=HR7.out.z6
   clear hb7 
   go_wp2_with fail
   refine bodyPost_ret (results_cell1 rfl _ _ b _ _ rfl (set6r HR7.out _ _ _ _ _ _).range Tryz.underlying39 (by rfl) (by rfl)) rfl ?_
   exact HD.out _ _ _ (HF.out.symm) ((H7.out.set6 HQ.out.2.1.1 HQB.out _ _ _ _ _ _).up (by omega:T≤T+3)).done
  by_cases h2:1099511627776 - 0<cx
  ·rw [if_pos (.inr (.inr (.inl h2)))] at HSK
   have HF:=HSK
   have h1':¬ (cx < -0):=by omega
   go_enter Tryz.func66,Tryz.ntmps66
   go_wp2_with fail
   refine HC.out.mono ?_
   rintro _ w3 ⟨A,c,rfl,hda,hb3⟩
   obtain ⟨w4,g4,hw4,hg4,HP4,H4,HG4,HR4,HQ4,HN4,HQB,HQG,HDA,hmc⟩:=d_box H2 hb3 hda HG2 HR2 HQ
   clear hb3 hda c0 c1 c2 c3 c4 c5 c6
   have HWN:∃ wn,wn=w4.heap.size:=⟨_,rfl⟩
   obtain ⟨wn,hwn⟩:=HWN
   rw [← hwn] at HQ4 HQB HQG
   have H4:=Lib.hid (hwn▸H4.out)
   clear hmc
   obtain ⟨t0,t1,t2,t3,t4,t5⟩:=HP4.out.six
   obtain ⟨c0,c1,c2,c3,c4,c5,c6⟩:=HG4.out.seven
   go_wp2_with fail
   refine (failed_any (22) w4).mono ?_
   rintro _ w7 ⟨rfl,hb7⟩
   have H7:=Lib.hid ((H4.out).below hb7)
   have HR7:=Lib.hid ((HR4.out).below hb7)
   obtain ⟨x0,x1,x2,x3,x4,x5⟩:=HR7.out.six
   obtain ⟨y0,y1,y2,y3,y4,y5⟩:=HR7.out.z6
   clear hb7 
   go_wp2_with fail
   refine bodyPost_ret (results_cell1 rfl _ _ b _ _ rfl (set6r HR7.out _ _ _ _ _ _).range Tryz.underlying39 (by rfl) (by rfl)) rfl ?_
   exact HD.out _ _ _ (HF.out.symm) ((H7.out.set6 HQ.out.2.1.1 HQB.out _ _ _ _ _ _).up (by omega:T≤T+3)).done
  rw [if_neg (by omega)] at HSK
  have HF:=HSK
  have h1':¬ (cx < -0):=by omega
  go_enter Tryz.func66,Tryz.ntmps66
  go_wp2_with fail
  refine HC.out.mono ?_
  rintro _ w3 ⟨A,c,rfl,hda,hb3⟩
  obtain ⟨w4,g4,hw4,hg4,HP4,H4,HG4,HR4,HQ4,HN4,HQB,HQG,HDA,hmc⟩:=d_box H2 hb3 hda HG2 HR2 HQ
  clear hb3 hda c0 c1 c2 c3 c4 c5 c6
  have HWN:∃ wn,wn=w4.heap.size:=⟨_,rfl⟩
  obtain ⟨wn,hwn⟩:=HWN
  rw [← hwn] at HQ4 HQB HQG
  have H4:=Lib.hid (hwn▸H4.out)
  clear hmc
  obtain ⟨t0,t1,t2,t3,t4,t5⟩:=HP4.out.six
  obtain ⟨c0,c1,c2,c3,c4,c5,c6⟩:=HG4.out.seven
  have hwr:wrap64 (cx)=cx:=wrap64_id (by omega) (by omega)
  obtain ⟨w5,hw5⟩:∃ w5,w4.setCell ⟨g4,2,none⟩ (.int .i64 (cx))=w5:=⟨_,rfl⟩
  have HP5:=Lib.hid (show Rw w5 g4 [.int .i64 d0,.int .i64 d1,.int .i64 (cx),.bool d3,.slice A m c,.int .i64 d5] by rw [← hw5];exact set2f HP4.out _)
  have H5:=Lib.hid (show St w0 w w5 P B Q X wn y room T by rw [← hw5];exact H4.out.set HQ4.out.1.1 HQ4.out.1.2 _)
  have HG5:=Lib.hid (show Rw w5 g _ by rw [← hw5];exact HG4.out.oth _ (Ne.symm HQ4.out.2.2))
  have HR5:=Lib.hid (show Rw w5 b _ by rw [← hw5];exact HR4.out.oth _ (Ne.symm HQ4.out.2.1))
  have HDA5:=Lib.hid (HDA.out w5.drew ⟨d0,d1,cx,d3,xs,d5⟩ rfl (fun k hk=>by rw [← hw5];exact heap_set (Nat.ne_of_lt hk)) (by rw [← hw5];exact Nat.le_of_eq (size_set _ _ _).symm))
  obtain ⟨t0,t1,t2,t3,t4,t5⟩:=HP4.out.six
  obtain ⟨u0,u1,u2,u3,u4,u5⟩:=HP4.out.z6
  obtain ⟨c0,c1,c2,c3,c4,c5,c6⟩:=HG4.out.seven
  go_wp2_with fail
  try rw [hwr]
  try rw [hw5]
  clear hwr hw5 t0 t1 t2 t3 t4 t5 u0 u1 u2 u3 u4 u5 c0 c1 c2 c3 c4 c5 c6
  have H5d:=Lib.hid (H5.out.below (Below.refl w5.heap.size w5).drew)
  have HP5d:=Lib.hid (HP5.out.below (Below.refl w5.heap.size w5).drew)
  have HG5d:=Lib.hid (HG5.out.below (Below.refl w5.heap.size w5).drew)
  have HR5d:=Lib.hid (HR5.out.below (Below.refl w5.heap.size w5).drew)
  have HS:=Lib.hid (p_set H5d.out.sy (d:=⟨d0,d1,cx,d3,xs,d5⟩) HDA5.out (by have:=HML.out;omega) cf)
  unfold StepE DV at HS
  dsimp only at HS
  have S0:w5.cell? ⟨P,1,none⟩=some (Pq Q)∧w5.cell? ⟨g,1,none⟩=some (.int .i64 cf)∧w5.cell? ⟨g4,0,none⟩=some (.int .i64 d0)∧w5.cell? ⟨g4,1,none⟩=some (.int .i64 d1)∧w5.cell? ⟨g4,2,none⟩=some (.int .i64 (cx))∧w5.cell? ⟨g4,3,none⟩=some (.bool d3)∧w5.cell? ⟨g4,4,none⟩=some (.slice A m c)∧w5.cell? ⟨g4,5,none⟩=some (.int .i64 d5):=⟨H5.out.c1,HG5.out.c 1 _ rfl,HP5.out.six⟩
  go_wp2_with fail
  go_region_held3 (fun w'=>w'.cell? ⟨P,1,none⟩=some (Pq Q)∧w'.cell? ⟨g,1,none⟩=some (.int .i64 cf)∧w'.cell? ⟨g4,0,none⟩=some (.int .i64 d0)∧w'.cell? ⟨g4,1,none⟩=some (.int .i64 d1)∧w'.cell? ⟨g4,2,none⟩=some (.int .i64 (cx))∧w'.cell? ⟨g4,3,none⟩=some (.bool d3)∧w'.cell? ⟨g4,4,none⟩=some (.slice A m c)∧w'.cell? ⟨g4,5,none⟩=some (.int .i64 d5))
   (first|with_reducible exact S0|with_reducible exact S8|assumption|go_keep)
   (first|(go_at_call 122;((with_reducible refine HS.out.mono ?_);rintro _ w8 ⟨rfl,k1,k2⟩;have l1:=k1;have l2:=k2;have H8:=Lib.hid (H5d.out.move l1 l2);have HR8:=Lib.hid (HR5d.out.keep l2 HQ.out.2.1.1 HQB.out l1);have HP8:=Lib.hid (HP5d.out.keep l2 HQ4.out.1.1 HQ4.out.1.2 l1);have HG8:=Lib.hid (HG5d.out.keep l2 HQ.out.1.1 HQG.out l1);have S8:w8.cell? ⟨P,1,none⟩=some (Pq Q)∧w8.cell? ⟨g,1,none⟩=some (.int .i64 cf)∧w8.cell? ⟨g4,0,none⟩=some (.int .i64 d0)∧w8.cell? ⟨g4,1,none⟩=some (.int .i64 d1)∧w8.cell? ⟨g4,2,none⟩=some (.int .i64 (cx))∧w8.cell? ⟨g4,3,none⟩=some (.bool d3)∧w8.cell? ⟨g4,4,none⟩=some (.slice A m c)∧w8.cell? ⟨g4,5,none⟩=some (.int .i64 d5):=⟨l1.c1,HG8.out.c 1 _ rfl,HP8.out.six⟩;clear l1 l2 k1 k2)))
  all_goals
   clear S0 S8
   obtain ⟨v0,v1,v2,v3,v4,v5⟩:=HP8.out.six
   obtain ⟨x0,x1,x2,x3,x4,x5⟩:=HR8.out.six
   obtain ⟨y0,y1,y2,y3,y4,y5⟩:=HR8.out.z6
   go_wp2_with fail
   refine bodyPost_ret (results_cell1 rfl _ _ b _ _ rfl (set6r HR8.out _ _ _ _ _ _).range Tryz.underlying39 (by rfl) (by rfl)) rfl ?_
   exact HD.out _ _ _ (HF.out.symm) ((H8.out.set6 HQ.out.2.1.1 HQB.out _ _ _ _ _ _).up (by omega:T≤T+3)).done
 by_cases hf1:cl=1
 ·subst hf1
  rw [show seekB y ⟨co,cf,1,cn,cx,ca,cb⟩ ⟨d0,d1,d2,d3,xs,d5⟩=d2 from rfl] at HSK
  by_cases h1:cx<0 - d2
  ·rw [if_pos (.inr (.inr (.inr h1)))] at HSK
   have HF:=HSK
   have h1':cx < -d2:=by omega
   go_enter Tryz.func66,Tryz.ntmps66
   go_wp2_with fail
   refine HC.out.mono ?_
   rintro _ w3 ⟨A,c,rfl,hda,hb3⟩
   obtain ⟨w4,g4,hw4,hg4,HP4,H4,HG4,HR4,HQ4,HN4,HQB,HQG,HDA,hmc⟩:=d_box H2 hb3 hda HG2 HR2 HQ
   clear hb3 hda c0 c1 c2 c3 c4 c5 c6
   have HWN:∃ wn,wn=w4.heap.size:=⟨_,rfl⟩
   obtain ⟨wn,hwn⟩:=HWN
   rw [← hwn] at HQ4 HQB HQG
   have H4:=Lib.hid (hwn▸H4.out)
   clear hmc
   obtain ⟨t0,t1,t2,t3,t4,t5⟩:=HP4.out.six
   obtain ⟨c0,c1,c2,c3,c4,c5,c6⟩:=HG4.out.seven
   go_wp2_with fail
   refine (failed_any (22) w4).mono ?_
   rintro _ w7 ⟨rfl,hb7⟩
   have H7:=Lib.hid ((H4.out).below hb7)
   have HR7:=Lib.hid ((HR4.out).below hb7)
   obtain ⟨x0,x1,x2,x3,x4,x5⟩:=HR7.out.six
   obtain ⟨y0,y1,y2,y3,y4,y5⟩:=HR7.out.z6
   clear hb7 
   go_wp2_with fail
   refine bodyPost_ret (results_cell1 rfl _ _ b _ _ rfl (set6r HR7.out _ _ _ _ _ _).range Tryz.underlying39 (by rfl) (by rfl)) rfl ?_
   exact HD.out _ _ _ (HF.out.symm) ((H7.out.set6 HQ.out.2.1.1 HQB.out _ _ _ _ _ _).up (by omega:T≤T+3)).done
  by_cases h2:1099511627776 - d2<cx
  ·rw [if_pos (.inr (.inr (.inl h2)))] at HSK
   have HF:=HSK
   have h1':¬ (cx < -d2):=by omega
   go_enter Tryz.func66,Tryz.ntmps66
   go_wp2_with fail
   refine HC.out.mono ?_
   rintro _ w3 ⟨A,c,rfl,hda,hb3⟩
   obtain ⟨w4,g4,hw4,hg4,HP4,H4,HG4,HR4,HQ4,HN4,HQB,HQG,HDA,hmc⟩:=d_box H2 hb3 hda HG2 HR2 HQ
   clear hb3 hda c0 c1 c2 c3 c4 c5 c6
   have HWN:∃ wn,wn=w4.heap.size:=⟨_,rfl⟩
   obtain ⟨wn,hwn⟩:=HWN
   rw [← hwn] at HQ4 HQB HQG
   have H4:=Lib.hid (hwn▸H4.out)
   clear hmc
   obtain ⟨t0,t1,t2,t3,t4,t5⟩:=HP4.out.six
   obtain ⟨c0,c1,c2,c3,c4,c5,c6⟩:=HG4.out.seven
   go_wp2_with fail
   refine (failed_any (22) w4).mono ?_
   rintro _ w7 ⟨rfl,hb7⟩
   have H7:=Lib.hid ((H4.out).below hb7)
   have HR7:=Lib.hid ((HR4.out).below hb7)
   obtain ⟨x0,x1,x2,x3,x4,x5⟩:=HR7.out.six
   obtain ⟨y0,y1,y2,y3,y4,y5⟩:=HR7.out.z6
   clear hb7 
   go_wp2_with fail
   refine bodyPost_ret (results_cell1 rfl _ _ b _ _ rfl (set6r HR7.out _ _ _ _ _ _).range Tryz.underlying39 (by rfl) (by rfl)) rfl ?_
   exact HD.out _ _ _ (HF.out.symm) ((H7.out.set6 HQ.out.2.1.1 HQB.out _ _ _ _ _ _).up (by omega:T≤T+3)).done
  rw [if_neg (by omega)] at HSK
  have HF:=HSK
  have h1':¬ (cx < -d2):=by omega
  go_enter Tryz.func66,Tryz.ntmps66
  go_wp2_with fail
  refine HC.out.mono ?_
  rintro _ w3 ⟨A,c,rfl,hda,hb3⟩
  obtain ⟨w4,g4,hw4,hg4,HP4,H4,HG4,HR4,HQ4,HN4,HQB,HQG,HDA,hmc⟩:=d_box H2 hb3 hda HG2 HR2 HQ
  clear hb3 hda c0 c1 c2 c3 c4 c5 c6
  have HWN:∃ wn,wn=w4.heap.size:=⟨_,rfl⟩
  obtain ⟨wn,hwn⟩:=HWN
  rw [← hwn] at HQ4 HQB HQG
  have H4:=Lib.hid (hwn▸H4.out)
  clear hmc
  obtain ⟨t0,t1,t2,t3,t4,t5⟩:=HP4.out.six
  obtain ⟨c0,c1,c2,c3,c4,c5,c6⟩:=HG4.out.seven
  have hwr:wrap64 (d2+cx)=d2+cx:=wrap64_id (by omega) (by omega)
  obtain ⟨w5,hw5⟩:∃ w5,w4.setCell ⟨g4,2,none⟩ (.int .i64 (d2+cx))=w5:=⟨_,rfl⟩
  have HP5:=Lib.hid (show Rw w5 g4 [.int .i64 d0,.int .i64 d1,.int .i64 (d2+cx),.bool d3,.slice A m c,.int .i64 d5] by rw [← hw5];exact set2f HP4.out _)
  have H5:=Lib.hid (show St w0 w w5 P B Q X wn y room T by rw [← hw5];exact H4.out.set HQ4.out.1.1 HQ4.out.1.2 _)
  have HG5:=Lib.hid (show Rw w5 g _ by rw [← hw5];exact HG4.out.oth _ (Ne.symm HQ4.out.2.2))
  have HR5:=Lib.hid (show Rw w5 b _ by rw [← hw5];exact HR4.out.oth _ (Ne.symm HQ4.out.2.1))
  have HDA5:=Lib.hid (HDA.out w5.drew ⟨d0,d1,d2+cx,d3,xs,d5⟩ rfl (fun k hk=>by rw [← hw5];exact heap_set (Nat.ne_of_lt hk)) (by rw [← hw5];exact Nat.le_of_eq (size_set _ _ _).symm))
  obtain ⟨t0,t1,t2,t3,t4,t5⟩:=HP4.out.six
  obtain ⟨u0,u1,u2,u3,u4,u5⟩:=HP4.out.z6
  obtain ⟨c0,c1,c2,c3,c4,c5,c6⟩:=HG4.out.seven
  go_wp2_with fail
  try rw [hwr]
  try rw [hw5]
  clear hwr hw5 t0 t1 t2 t3 t4 t5 u0 u1 u2 u3 u4 u5 c0 c1 c2 c3 c4 c5 c6
  have H5d:=Lib.hid (H5.out.below (Below.refl w5.heap.size w5).drew)
  have HP5d:=Lib.hid (HP5.out.below (Below.refl w5.heap.size w5).drew)
  have HG5d:=Lib.hid (HG5.out.below (Below.refl w5.heap.size w5).drew)
  have HR5d:=Lib.hid (HR5.out.below (Below.refl w5.heap.size w5).drew)
  have HS:=Lib.hid (p_set H5d.out.sy (d:=⟨d0,d1,d2+cx,d3,xs,d5⟩) HDA5.out (by have:=HML.out;omega) cf)
  unfold StepE DV at HS
  dsimp only at HS
  have S0:w5.cell? ⟨P,1,none⟩=some (Pq Q)∧w5.cell? ⟨g,1,none⟩=some (.int .i64 cf)∧w5.cell? ⟨g4,0,none⟩=some (.int .i64 d0)∧w5.cell? ⟨g4,1,none⟩=some (.int .i64 d1)∧w5.cell? ⟨g4,2,none⟩=some (.int .i64 (d2+cx))∧w5.cell? ⟨g4,3,none⟩=some (.bool d3)∧w5.cell? ⟨g4,4,none⟩=some (.slice A m c)∧w5.cell? ⟨g4,5,none⟩=some (.int .i64 d5):=⟨H5.out.c1,HG5.out.c 1 _ rfl,HP5.out.six⟩
  go_wp2_with fail
  go_region_held3 (fun w'=>w'.cell? ⟨P,1,none⟩=some (Pq Q)∧w'.cell? ⟨g,1,none⟩=some (.int .i64 cf)∧w'.cell? ⟨g4,0,none⟩=some (.int .i64 d0)∧w'.cell? ⟨g4,1,none⟩=some (.int .i64 d1)∧w'.cell? ⟨g4,2,none⟩=some (.int .i64 (d2+cx))∧w'.cell? ⟨g4,3,none⟩=some (.bool d3)∧w'.cell? ⟨g4,4,none⟩=some (.slice A m c)∧w'.cell? ⟨g4,5,none⟩=some (.int .i64 d5))
   (first|with_reducible exact S0|with_reducible exact S8|assumption|go_keep)
   (first|(go_at_call 122;((with_reducible refine HS.out.mono ?_);rintro _ w8 ⟨rfl,k1,k2⟩;have l1:=k1;have l2:=k2;have H8:=Lib.hid (H5d.out.move l1 l2);have HR8:=Lib.hid (HR5d.out.keep l2 HQ.out.2.1.1 HQB.out l1);have HP8:=Lib.hid (HP5d.out.keep l2 HQ4.out.1.1 HQ4.out.1.2 l1);have HG8:=Lib.hid (HG5d.out.keep l2 HQ.out.1.1 HQG.out l1);have S8:w8.cell? ⟨P,1,none⟩=some (Pq Q)∧w8.cell? ⟨g,1,none⟩=some (.int .i64 cf)∧w8.cell? ⟨g4,0,none⟩=some (.int .i64 d0)∧w8.cell? ⟨g4,1,none⟩=some (.int .i64 d1)∧w8.cell? ⟨g4,2,none⟩=some (.int .i64 (d2+cx))∧w8.cell? ⟨g4,3,none⟩=some (.bool d3)∧w8.cell? ⟨g4,4,none⟩=some (.slice A m c)∧w8.cell? ⟨g4,5,none⟩=some (.int .i64 d5):=⟨l1.c1,HG8.out.c 1 _ rfl,HP8.out.six⟩;clear l1 l2 k1 k2)))
  all_goals
   clear S0 S8
   obtain ⟨v0,v1,v2,v3,v4,v5⟩:=HP8.out.six
   obtain ⟨x0,x1,x2,x3,x4,x5⟩:=HR8.out.six
   obtain ⟨y0,y1,y2,y3,y4,y5⟩:=HR8.out.z6
   go_wp2_with fail
   refine bodyPost_ret (results_cell1 rfl _ _ b _ _ rfl (set6r HR8.out _ _ _ _ _ _).range Tryz.underlying39 (by rfl) (by rfl)) rfl ?_
   exact HD.out _ _ _ (HF.out.symm) ((H8.out.set6 HQ.out.2.1.1 HQB.out _ _ _ _ _ _).up (by omega:T≤T+3)).done
 by_cases hf2:cl=2
 ·subst hf2
  obtain ⟨sz,hsv⟩:∃ sz:Int,((y.S.stat d0).1.2.1:Int)=sz:=⟨_,rfl⟩
  have hz0:0≤sz:=by omega
  have hz1:sz≤65536:=by omega
  rw [show seekB y ⟨co,cf,2,cn,cx,ca,cb⟩ ⟨d0,d1,d2,d3,xs,d5⟩=sz from hsv] at HSK
  have HSV:=Lib.hid hsv
  clear hsv hsz
  by_cases h1:cx<0 - sz
  ·rw [if_pos (.inr (.inr (.inr h1)))] at HSK
   have HF:=HSK
   have h1':cx < -sz:=by omega
   go_enter Tryz.func66,Tryz.ntmps66
   go_wp2_with fail
   refine HC.out.mono ?_
   rintro _ w3 ⟨A,c,rfl,hda,hb3⟩
   obtain ⟨wa,g4,hwa,hg4,HPa,Ha,HGa,HRa,HQ4,HN4,HQB,HQG,HDa,hmc⟩:=d_box H2 hb3 hda HG2 HR2 HQ
   clear hb3 hda c0 c1 c2 c3 c4 c5 c6
   clear hmc
   have HSI:=Lib.hid (size_any Ha.out.sy d0)
   unfold RetW at HSI
   rw [HSV.out] at HSI
   obtain ⟨t0,t1,t2,t3,t4,t5⟩:=HPa.out.six
   obtain ⟨c0,c1,c2,c3,c4,c5,c6⟩:=HGa.out.seven
   obtain ⟨wn,hwn⟩:∃ wn,wn=wa.heap.size:=⟨_,rfl⟩
   have HWN:=Lib.hid hwn
   rw [← hwn] at HQ4 HQB HQG
   have Ha:=Lib.hid (hwn▸Ha.out)
   clear hwn
   go_wp2_with fail
   refine HSI.out.mono ?_
   rintro _ w4 ⟨rfl,hb4⟩
   have H4:=Lib.hid (Ha.out.below hb4)
   have HG4:=Lib.hid (HGa.out.below hb4)
   have HR4:=Lib.hid (HRa.out.below hb4)
   have HP4:=Lib.hid (HPa.out.below hb4)
   have HDA:=Lib.hid (fun (W:World) (d:De) (hd:d.ns=xs) (hk:∀ k,k<g4→W.heap[k]?=w4.heap[k]?) (hs:w4.heap.size≤W.heap.size)=>HDa.out W d hd (fun k h=>(hk k h).trans (hb4.block k (by have:=HQ4.out.1.2;have:=HWN.out;omega))) (Nat.le_trans hb4.size hs))
   clear hb4 t0 t1 t2 t3 t4 t5 c0 c1 c2 c3 c4 c5 c6
   obtain ⟨t0,t1,t2,t3,t4,t5⟩:=HP4.out.six
   obtain ⟨c0,c1,c2,c3,c4,c5,c6⟩:=HG4.out.seven
   go_wp2_with fail
   refine (failed_any (22) w4).mono ?_
   rintro _ w7 ⟨rfl,hb7⟩
   have H7:=Lib.hid ((H4.out).below hb7)
   have HR7:=Lib.hid ((HR4.out).below hb7)
   obtain ⟨x0,x1,x2,x3,x4,x5⟩:=HR7.out.six
   obtain ⟨y0,y1,y2,y3,y4,y5⟩:=HR7.out.z6
   clear hb7 
   go_wp2_with fail
   refine bodyPost_ret (results_cell1 rfl _ _ b _ _ rfl (set6r HR7.out _ _ _ _ _ _).range Tryz.underlying39 (by rfl) (by rfl)) rfl ?_
   exact HD.out _ _ _ (HF.out.symm) ((H7.out.set6 HQ.out.2.1.1 HQB.out _ _ _ _ _ _).up (by omega:T≤T+3)).done
  by_cases h2:1099511627776 - sz<cx
  ·rw [if_pos (.inr (.inr (.inl h2)))] at HSK
   have HF:=HSK
   have h1':¬ (cx < -sz):=by omega
   go_enter Tryz.func66,Tryz.ntmps66
   go_wp2_with fail
   refine HC.out.mono ?_
   rintro _ w3 ⟨A,c,rfl,hda,hb3⟩
   obtain ⟨wa,g4,hwa,hg4,HPa,Ha,HGa,HRa,HQ4,HN4,HQB,HQG,HDa,hmc⟩:=d_box H2 hb3 hda HG2 HR2 HQ
   clear hb3 hda c0 c1 c2 c3 c4 c5 c6
   clear hmc
   have HSI:=Lib.hid (size_any Ha.out.sy d0)
   unfold RetW at HSI
   rw [HSV.out] at HSI
   obtain ⟨t0,t1,t2,t3,t4,t5⟩:=HPa.out.six
   obtain ⟨c0,c1,c2,c3,c4,c5,c6⟩:=HGa.out.seven
   obtain ⟨wn,hwn⟩:∃ wn,wn=wa.heap.size:=⟨_,rfl⟩
   have HWN:=Lib.hid hwn
   rw [← hwn] at HQ4 HQB HQG
   have Ha:=Lib.hid (hwn▸Ha.out)
   clear hwn
   go_wp2_with fail
   refine HSI.out.mono ?_
   rintro _ w4 ⟨rfl,hb4⟩
   have H4:=Lib.hid (Ha.out.below hb4)
   have HG4:=Lib.hid (HGa.out.below hb4)
   have HR4:=Lib.hid (HRa.out.below hb4)
   have HP4:=Lib.hid (HPa.out.below hb4)
   have HDA:=Lib.hid (fun (W:World) (d:De) (hd:d.ns=xs) (hk:∀ k,k<g4→W.heap[k]?=w4.heap[k]?) (hs:w4.heap.size≤W.heap.size)=>HDa.out W d hd (fun k h=>(hk k h).trans (hb4.block k (by have:=HQ4.out.1.2;have:=HWN.out;omega))) (Nat.le_trans hb4.size hs))
   clear hb4 t0 t1 t2 t3 t4 t5 c0 c1 c2 c3 c4 c5 c6
   obtain ⟨t0,t1,t2,t3,t4,t5⟩:=HP4.out.six
   obtain ⟨c0,c1,c2,c3,c4,c5,c6⟩:=HG4.out.seven
   go_wp2_with fail
   refine (failed_any (22) w4).mono ?_
   rintro _ w7 ⟨rfl,hb7⟩
   have H7:=Lib.hid ((H4.out).below hb7)
   have HR7:=Lib.hid ((HR4.out).below hb7)
   obtain ⟨x0,x1,x2,x3,x4,x5⟩:=HR7.out.six
   obtain ⟨y0,y1,y2,y3,y4,y5⟩:=HR7.out.z6
   clear hb7 
   go_wp2_with fail
   refine bodyPost_ret (results_cell1 rfl _ _ b _ _ rfl (set6r HR7.out _ _ _ _ _ _).range Tryz.underlying39 (by rfl) (by rfl)) rfl ?_
   exact HD.out _ _ _ (HF.out.symm) ((H7.out.set6 HQ.out.2.1.1 HQB.out _ _ _ _ _ _).up (by omega:T≤T+3)).done
  rw [if_neg (by omega)] at HSK
  have HF:=HSK
  have h1':¬ (cx < -sz):=by omega
  go_enter Tryz.func66,Tryz.ntmps66
  go_wp2_with fail
  refine HC.out.mono ?_
  rintro _ w3 ⟨A,c,rfl,hda,hb3⟩
  obtain ⟨wa,g4,hwa,hg4,HPa,Ha,HGa,HRa,HQ4,HN4,HQB,HQG,HDa,hmc⟩:=d_box H2 hb3 hda HG2 HR2 HQ
  clear hb3 hda c0 c1 c2 c3 c4 c5 c6
  clear hmc
  have HSI:=Lib.hid (size_any Ha.out.sy d0)
  unfold RetW at HSI
  rw [HSV.out] at HSI
  obtain ⟨t0,t1,t2,t3,t4,t5⟩:=HPa.out.six
  obtain ⟨c0,c1,c2,c3,c4,c5,c6⟩:=HGa.out.seven
  obtain ⟨wn,hwn⟩:∃ wn,wn=wa.heap.size:=⟨_,rfl⟩
  have HWN:=Lib.hid hwn
  rw [← hwn] at HQ4 HQB HQG
  have Ha:=Lib.hid (hwn▸Ha.out)
  clear hwn
  go_wp2_with fail
  refine HSI.out.mono ?_
  rintro _ w4 ⟨rfl,hb4⟩
  have H4:=Lib.hid (Ha.out.below hb4)
  have HG4:=Lib.hid (HGa.out.below hb4)
  have HR4:=Lib.hid (HRa.out.below hb4)
  have HP4:=Lib.hid (HPa.out.below hb4)
  have HDA:=Lib.hid (fun (W:World) (d:De) (hd:d.ns=xs) (hk:∀ k,k<g4→W.heap[k]?=w4.heap[k]?) (hs:w4.heap.size≤W.heap.size)=>HDa.out W d hd (fun k h=>(hk k h).trans (hb4.block k (by have:=HQ4.out.1.2;have:=HWN.out;omega))) (Nat.le_trans hb4.size hs))
  clear hb4 t0 t1 t2 t3 t4 t5 c0 c1 c2 c3 c4 c5 c6
  obtain ⟨t0,t1,t2,t3,t4,t5⟩:=HP4.out.six
  obtain ⟨c0,c1,c2,c3,c4,c5,c6⟩:=HG4.out.seven
  have hwr:wrap64 (sz+cx)=sz+cx:=wrap64_id (by omega) (by omega)
  obtain ⟨w5,hw5⟩:∃ w5,w4.setCell ⟨g4,2,none⟩ (.int .i64 (sz+cx))=w5:=⟨_,rfl⟩
  have HP5:=Lib.hid (show Rw w5 g4 [.int .i64 d0,.int .i64 d1,.int .i64 (sz+cx),.bool d3,.slice A m c,.int .i64 d5] by rw [← hw5];exact set2f HP4.out _)
  have H5:=Lib.hid (show St w0 w w5 P B Q X wn y room T by rw [← hw5];exact H4.out.set HQ4.out.1.1 HQ4.out.1.2 _)
  have HG5:=Lib.hid (show Rw w5 g _ by rw [← hw5];exact HG4.out.oth _ (Ne.symm HQ4.out.2.2))
  have HR5:=Lib.hid (show Rw w5 b _ by rw [← hw5];exact HR4.out.oth _ (Ne.symm HQ4.out.2.1))
  have HDA5:=Lib.hid (HDA.out w5.drew ⟨d0,d1,sz+cx,d3,xs,d5⟩ rfl (fun k hk=>by rw [← hw5];exact heap_set (Nat.ne_of_lt hk)) (by rw [← hw5];exact Nat.le_of_eq (size_set _ _ _).symm))
  obtain ⟨t0,t1,t2,t3,t4,t5⟩:=HP4.out.six
  obtain ⟨u0,u1,u2,u3,u4,u5⟩:=HP4.out.z6
  obtain ⟨c0,c1,c2,c3,c4,c5,c6⟩:=HG4.out.seven
  go_wp2_with fail
  try rw [hwr]
  try rw [hw5]
  clear hwr hw5 t0 t1 t2 t3 t4 t5 u0 u1 u2 u3 u4 u5 c0 c1 c2 c3 c4 c5 c6
  have H5d:=Lib.hid (H5.out.below (Below.refl w5.heap.size w5).drew)
  have HP5d:=Lib.hid (HP5.out.below (Below.refl w5.heap.size w5).drew)
  have HG5d:=Lib.hid (HG5.out.below (Below.refl w5.heap.size w5).drew)
  have HR5d:=Lib.hid (HR5.out.below (Below.refl w5.heap.size w5).drew)
  have HS:=Lib.hid (p_set H5d.out.sy (d:=⟨d0,d1,sz+cx,d3,xs,d5⟩) HDA5.out (by have:=HML.out;omega) cf)
  unfold StepE DV at HS
  dsimp only at HS
  have S0:w5.cell? ⟨P,1,none⟩=some (Pq Q)∧w5.cell? ⟨g,1,none⟩=some (.int .i64 cf)∧w5.cell? ⟨g4,0,none⟩=some (.int .i64 d0)∧w5.cell? ⟨g4,1,none⟩=some (.int .i64 d1)∧w5.cell? ⟨g4,2,none⟩=some (.int .i64 (sz+cx))∧w5.cell? ⟨g4,3,none⟩=some (.bool d3)∧w5.cell? ⟨g4,4,none⟩=some (.slice A m c)∧w5.cell? ⟨g4,5,none⟩=some (.int .i64 d5):=⟨H5.out.c1,HG5.out.c 1 _ rfl,HP5.out.six⟩
  go_wp2_with fail
  go_region_held3 (fun w'=>w'.cell? ⟨P,1,none⟩=some (Pq Q)∧w'.cell? ⟨g,1,none⟩=some (.int .i64 cf)∧w'.cell? ⟨g4,0,none⟩=some (.int .i64 d0)∧w'.cell? ⟨g4,1,none⟩=some (.int .i64 d1)∧w'.cell? ⟨g4,2,none⟩=some (.int .i64 (sz+cx))∧w'.cell? ⟨g4,3,none⟩=some (.bool d3)∧w'.cell? ⟨g4,4,none⟩=some (.slice A m c)∧w'.cell? ⟨g4,5,none⟩=some (.int .i64 d5))
   (first|with_reducible exact S0|with_reducible exact S8|assumption|go_keep)
   (first|(go_at_call 122;((with_reducible refine HS.out.mono ?_);rintro _ w8 ⟨rfl,k1,k2⟩;have l1:=k1;have l2:=k2;have H8:=Lib.hid (H5d.out.move l1 l2);have HR8:=Lib.hid (HR5d.out.keep l2 HQ.out.2.1.1 HQB.out l1);have HP8:=Lib.hid (HP5d.out.keep l2 HQ4.out.1.1 HQ4.out.1.2 l1);have HG8:=Lib.hid (HG5d.out.keep l2 HQ.out.1.1 HQG.out l1);have S8:w8.cell? ⟨P,1,none⟩=some (Pq Q)∧w8.cell? ⟨g,1,none⟩=some (.int .i64 cf)∧w8.cell? ⟨g4,0,none⟩=some (.int .i64 d0)∧w8.cell? ⟨g4,1,none⟩=some (.int .i64 d1)∧w8.cell? ⟨g4,2,none⟩=some (.int .i64 (sz+cx))∧w8.cell? ⟨g4,3,none⟩=some (.bool d3)∧w8.cell? ⟨g4,4,none⟩=some (.slice A m c)∧w8.cell? ⟨g4,5,none⟩=some (.int .i64 d5):=⟨l1.c1,HG8.out.c 1 _ rfl,HP8.out.six⟩;clear l1 l2 k1 k2)))
  all_goals
   clear S0 S8
   obtain ⟨v0,v1,v2,v3,v4,v5⟩:=HP8.out.six
   obtain ⟨x0,x1,x2,x3,x4,x5⟩:=HR8.out.six
   obtain ⟨y0,y1,y2,y3,y4,y5⟩:=HR8.out.z6
   go_wp2_with fail
   refine bodyPost_ret (results_cell1 rfl _ _ b _ _ rfl (set6r HR8.out _ _ _ _ _ _).range Tryz.underlying39 (by rfl) (by rfl)) rfl ?_
   exact HD.out _ _ _ (HF.out.symm) ((H8.out.set6 HQ.out.2.1.1 HQB.out _ _ _ _ _ _).up (by omega:T≤T+3)).done
 rw [if_pos (by omega)] at HSK
 have HF:=HSK
 have q0:(cl == 0)=false:=by simpa using hf0
 have q1:(cl == 1)=false:=by simpa using hf1
 have q2:(cl == 2)=false:=by simpa using hf2
 go_enter Tryz.func66,Tryz.ntmps66
 go_wp2_with fail
 refine HC.out.mono ?_
 rintro _ w3 ⟨A,c,rfl,hda,hb3⟩
 obtain ⟨w4,g4,hw4,hg4,HP4,H4,HG4,HR4,HQ4,HN4,HQB,HQG,HDA,hmc⟩:=d_box H2 hb3 hda HG2 HR2 HQ
 clear hb3 hda c0 c1 c2 c3 c4 c5 c6
 have HWN:∃ wn,wn=w4.heap.size:=⟨_,rfl⟩
 obtain ⟨wn,hwn⟩:=HWN
 rw [← hwn] at HQ4 HQB HQG
 have H4:=Lib.hid (hwn▸H4.out)
 clear hmc
 obtain ⟨t0,t1,t2,t3,t4,t5⟩:=HP4.out.six
 obtain ⟨c0,c1,c2,c3,c4,c5,c6⟩:=HG4.out.seven
 go_wp2_with fail
 refine (failed_any (22) w4).mono ?_
 rintro _ w7 ⟨rfl,hb7⟩
 have H7:=Lib.hid ((H4.out).below hb7)
 have HR7:=Lib.hid ((HR4.out).below hb7)
 obtain ⟨x0,x1,x2,x3,x4,x5⟩:=HR7.out.six
 obtain ⟨y0,y1,y2,y3,y4,y5⟩:=HR7.out.z6
 clear hb7 
 go_wp2_with fail
 refine bodyPost_ret (results_cell1 rfl _ _ b _ _ rfl (set6r HR7.out _ _ _ _ _ _).range Tryz.underlying39 (by rfl) (by rfl)) rfl ?_
 exact HD.out _ _ _ (HF.out.symm) ((H7.out.set6 HQ.out.2.1.1 HQB.out _ _ _ _ _ _).up (by omega:T≤T+3)).done
theorem m_close {w0 w:World} {P B Q room T:Nat} {X:Nat→Prop} {y:Sy} (h:SyX w0 w P B Q X y room T) (hT:T≤990) (hh:Hd room y) (c:Cal) :
  Calls Tryz.prog 61 #[Pq P,CV c] w (ME w0 w P B Q X room (T+3) (fun r y'=>(r,y')=doClose y c)):=by
 obtain ⟨co,cf,cl,cn,cx,ca,cb⟩:=c
 have hhR:=Lib.hid h
 have HH:=Lib.hid hh
 unfold CV
 dsimp only
 obtain ⟨g,b,w1,w2,hg,hw1,hb,hw2,HG2,HR2,HQ,H2⟩:=m_entry h co cf cl cn cx ca cb
 have HD:=Lib.hid (me_done (w0:=w0) (w:=w) (P:=P) (B:=B) (Q:=Q) (X:=X) (room:=room) (T:=T+3) (rel:=fun r y'=>(r,y')=doClose y ⟨co,cf,cl,cn,cx,ca,cb⟩))
 have HT:=Lib.hid hT
 obtain ⟨c0,c1,c2,c3,c4,c5,c6⟩:=HG2.out.seven
 unfold ME
 clear h hT hh
 have HE:=Lib.hid (fun h=>close_err (y:=y) (c:=⟨co,cf,cl,cn,cx,ca,cb⟩) h)
 have HK:=Lib.hid (fun h=>close_ok (y:=y) (c:=⟨co,cf,cl,cn,cx,ca,cb⟩) h)
 have HRO:=Lib.hid (fun d (h:getV y.T cf=(d,0))=>release_ok HH.out h)
 have HCE:=Lib.hid (closeT_err (T:=y.T) (fd:=cf))
 generalize doClose y ⟨co,cf,cl,cn,cx,ca,cb⟩=dd at *
 dsimp only at HE HK
 have HC:=Lib.hid (fun W (h:SyX w0 W P B Q (fun b=>X b∨(w.heap.size≤b∧b<w2.heap.size)) y room T)=>p_close h cf)
 have HCA:=Lib.hid (fun ob W (h:SyX w0 W P B Q (fun b=>X b∨(w.heap.size≤b∧b<(w2.alloc ob).heap.size)) y room T)=>p_close h cf)
 unfold StepE at HC HCA
 obtain ⟨gv,hgv⟩:∃ gv,getV y.T cf=gv:=⟨_,rfl⟩
 have HGV:=Lib.hid hgv
 rw [hgv] at HC HCA HE HK HCE
 clear hgv
 obtain ⟨⟨d0,d1,d2,d3,xs,d5⟩,ge⟩:=gv
 unfold DV at HC HCA
 dsimp only at HC HCA HE HK HCE
 obtain ⟨m,hm⟩:∃ m,xs.length=m:=⟨_,rfl⟩
 rw [hm] at HC HCA
 clear hm
 generalize hT':closeT y.T cf=T' at *
 have k1_:=H2.out.c1
 have S0:w2.cell? ⟨P,1,none⟩=some (Pq Q)∧w2.cell? ⟨g,1,none⟩=some (.int .i64 cf):=⟨H2.out.c1,HG2.out.c 1 _ rfl⟩
 have NP:True:=trivial
 clear c0 c1 c2 c3 c4 c5 c6
 go_enter Tryz.func61,Tryz.ntmps61
 go_wp2_with fail
 go_upto_region 1 with fail
 go_cut [5,6] from 7 to 29 (fun va vb wx=>∃ G,va=.pointer (some ⟨G,0,none⟩)∧vb=.int .i64 ge∧Hid (St w0 w wx P B Q X w2.heap.size ⟨y.S,T'⟩ room T)∧Hid (Rw wx b (RL 0 0 ⟨#[]⟩ 0 0 0))∧Hid (wx.cell? ⟨G,0,none⟩=some (.int .i64 d0))∧Hid (SyX w0 wx P B Q (fun k=>(X k∨(w.heap.size≤k∧k<w2.heap.size))∨k=G) ⟨y.S,T'⟩ room T)∧Hid (G≠b))
 case first =>
  have H2d:=Lib.hid (H2.out.below (Below.refl w2.heap.size w2).drew)
  have HAB:=Lib.hid (fun ob=>bel_alloc w2 ob)
  have HZ:=Lib.hid (Rw.new w2 [.int .i64 0,.int .i64 0,.int .i64 0,.bool false,.slice none 0 0,.int .i64 0] 72)
  have HA2:=Lib.hid (H2.out.grow (HAB.out (.cells #[.int .i64 0,.int .i64 0,.int .i64 0,.bool false,.slice none 0 0,.int .i64 0] 72)) rfl)
  have HAd:=Lib.hid (HA2.out.below (Below.refl _ _).drew)
  have HSZ:=Lib.hid (show (w2.alloc (.cells #[.int .i64 0,.int .i64 0,.int .i64 0,.bool false,.slice none 0 0,.int .i64 0] 72)).heap.size=w2.heap.size+1 by rw [World.size_alloc])
  have SA:(w2.alloc (.cells #[.int .i64 0,.int .i64 0,.int .i64 0,.bool false,.slice none 0 0,.int .i64 0] 72)).cell? ⟨P,1,none⟩=some (Pq Q)∧(w2.alloc (.cells #[.int .i64 0,.int .i64 0,.int .i64 0,.bool false,.slice none 0 0,.int .i64 0] 72)).cell? ⟨g,1,none⟩=some (.int .i64 cf):=⟨HA2.out.c1,(HG2.out.below (HAB.out _)).c 1 _ rfl⟩
  have HRd:=Lib.hid (HR2.out.below (Below.refl w2.heap.size w2).drew)
  have HGd:=Lib.hid (HG2.out.below (Below.refl w2.heap.size w2).drew)
  have HRAd:=Lib.hid ((HR2.out.below (HAB.out (.cells #[.int .i64 0,.int .i64 0,.int .i64 0,.bool false,.slice none 0 0,.int .i64 0] 72))).below (Below.refl _ _).drew)
  have HGAd:=Lib.hid ((HG2.out.below (HAB.out (.cells #[.int .i64 0,.int .i64 0,.int .i64 0,.bool false,.slice none 0 0,.int .i64 0] 72))).below (Below.refl _ _).drew)
  have HZAd:=Lib.hid (HZ.out.below (Below.refl _ _).drew)
  have HQS:=Lib.hid (show b<w2.heap.size+1∧g<w2.heap.size+1∧w.heap.size≤w2.heap.size by have:=HQ.out;have:=H2.out.wn;omega)
  clear k1_ 
  go_region_held3 (fun w'=>w'.cell? ⟨P,1,none⟩=some (Pq Q)∧w'.cell? ⟨g,1,none⟩=some (.int .i64 cf))
   (first|with_reducible exact S0|with_reducible exact S5|with_reducible exact SA|with_reducible exact ST|assumption|go_keep)
   (first
    | (go_at_call 118;((with_reducible refine (HC.out _ H2d.out.sy).mono ?_);rintro _ w5 ⟨A,c,rfl,k1,k2⟩;have H5:=Lib.hid (H2d.out.move k1 k2);have HR5:=Lib.hid (HRd.out.keep k2 HQ.out.2.1.1 HQ.out.2.1.2 k1);have HG5:=Lib.hid (HGd.out.keep k2 HQ.out.1.1 HQ.out.1.2 k1);have S5:w5.cell? ⟨P,1,none⟩=some (Pq Q)∧w5.cell? ⟨g,1,none⟩=some (.int .i64 cf):=⟨k1.c1,HG5.out.c 1 _ rfl⟩;have HFE:=Lib.hid (show ∃ G,w5.heap.size=G∧St w0 w (w5.alloc (.cells #[.int .i64 d0,.int .i64 d1,.int .i64 d2,.bool d3,.slice A m c,.int .i64 d5] 72)) P B Q X w2.heap.size ⟨y.S,T'⟩ room T∧Rw (w5.alloc (.cells #[.int .i64 d0,.int .i64 d1,.int .i64 d2,.bool d3,.slice A m c,.int .i64 d5] 72)) b (RL 0 0 ⟨#[]⟩ 0 0 0)∧(w5.alloc (.cells #[.int .i64 d0,.int .i64 d1,.int .i64 d2,.bool d3,.slice A m c,.int .i64 d5] 72)).cell? ⟨G,0,none⟩=some (.int .i64 d0)∧SyX w0 (w5.alloc (.cells #[.int .i64 d0,.int .i64 d1,.int .i64 d2,.bool d3,.slice A m c,.int .i64 d5] 72)) P B Q (fun k=>(X k∨(w.heap.size≤k∧k<w2.heap.size))∨k=G) ⟨y.S,T'⟩ room T∧G≠b from ⟨_,rfl,H5.out.below (bel_alloc w5 _),HR5.out.below (bel_alloc w5 _),(Rw.new w5 [.int .i64 d0,.int .i64 d1,.int .i64 d2,.bool d3,.slice A m c,.int .i64 d5] 72).c 0 _ rfl,(H5.out.sy.over (bel_alloc w5 _)).weaken (fun k hk=>by rcases hk with hk|hk;exact .inl hk;subst hk;exact .inr ⟨Nat.le_refl _,by rw [World.size_alloc];exact Nat.lt_succ_self _⟩),Nat.ne_of_gt HR5.out.lt⟩);clear k1 k2))
    | (go_at_call 118;((with_reducible refine (HCA.out _ _ HAd.out.sy).mono ?_);rintro _ w5 ⟨A,c,rfl,k1,k2⟩;have H5:=Lib.hid (HAd.out.move k1 k2);have HR5:=Lib.hid (HRAd.out.keep k2 HQ.out.2.1.1 (by rw [HSZ.out];exact HQS.out.1) k1);have HG5:=Lib.hid (HGAd.out.keep k2 HQ.out.1.1 (by rw [HSZ.out];exact HQS.out.2.1) k1);have HZ5:=Lib.hid (HZAd.out.keep k2 HQS.out.2.2 (by rw [HSZ.out];exact Nat.lt_succ_self _) k1);have S5:w5.cell? ⟨P,1,none⟩=some (Pq Q)∧w5.cell? ⟨g,1,none⟩=some (.int .i64 cf):=⟨k1.c1,HG5.out.c 1 _ rfl⟩;obtain ⟨x0,x1,x2,x3,x4,x5⟩:=HZ5.out.six;obtain ⟨y0,y1,y2,y3,y4,y5⟩:=HZ5.out.z6;have HFG:=Lib.hid (And.intro ((H5.out.set6 (b:=w2.heap.size) HQS.out.2.2 (by rw [HSZ.out];exact Nat.lt_succ_self _) (.int .i64 d0) (.int .i64 d1) (.int .i64 d2) (.bool d3) (.slice A m c) (.int .i64 d5)).less HQS.out.2.2 (by rw [HSZ.out];exact Nat.le_succ _)) (And.intro (HR5.out.other (b:=w2.heap.size) (v0:=.int .i64 d0) (v1:=.int .i64 d1) (v2:=.int .i64 d2) (v3:=.bool d3) (v4:=.slice A m c) (v5:=.int .i64 d5) (Nat.ne_of_lt HQ.out.2.1.2)) (And.intro ((set6r HZ5.out (.int .i64 d0) (.int .i64 d1) (.int .i64 d2) (.bool d3) (.slice A m c) (.int .i64 d5)).c 0 _ rfl) ((H5.out.set6 (b:=w2.heap.size) HQS.out.2.2 (by rw [HSZ.out];exact Nat.lt_succ_self _) (.int .i64 d0) (.int .i64 d1) (.int .i64 d2) (.bool d3) (.slice A m c) (.int .i64 d5)).sy.weaken fun k (hk:(X k∨(w.heap.size≤k∧k<w2.heap.size))∨k=w2.heap.size)=>(show X k∨(w.heap.size≤k∧k<(w2.alloc (.cells #[.int .i64 0,.int .i64 0,.int .i64 0,.bool false,.slice none 0 0,.int .i64 0] 72)).heap.size) by rw [HSZ.out];rcases hk with (hk|hk)|hk;exact .inl hk;exact .inr ⟨hk.1,Nat.lt_succ_of_lt hk.2⟩;subst hk;exact .inr ⟨HQS.out.2.2,Nat.lt_succ_self _⟩)))));have ST:((((((w5.setCell ⟨w2.heap.size,0,none⟩ (.int .i64 d0)).setCell ⟨w2.heap.size,1,none⟩ (.int .i64 d1)).setCell ⟨w2.heap.size,2,none⟩ (.int .i64 d2)).setCell ⟨w2.heap.size,3,none⟩ (.bool d3)).setCell ⟨w2.heap.size,4,none⟩ (.slice A m c)).setCell ⟨w2.heap.size,5,none⟩ (.int .i64 d5)).cell? ⟨P,1,none⟩=some (Pq Q)∧((((((w5.setCell ⟨w2.heap.size,0,none⟩ (.int .i64 d0)).setCell ⟨w2.heap.size,1,none⟩ (.int .i64 d1)).setCell ⟨w2.heap.size,2,none⟩ (.int .i64 d2)).setCell ⟨w2.heap.size,3,none⟩ (.bool d3)).setCell ⟨w2.heap.size,4,none⟩ (.slice A m c)).setCell ⟨w2.heap.size,5,none⟩ (.int .i64 d5)).cell? ⟨g,1,none⟩=some (.int .i64 cf):=⟨HFG.out.1.c1,(HG5.out.other (b:=w2.heap.size) (Nat.ne_of_lt HQ.out.1.2)).c 1 _ rfl⟩;clear k1 k2)))
  all_goals
   go_wp2_with fail
   go_meet
   case rel=>first|exact ⟨_,rfl,rfl,Lib.hid HFG.out.1,Lib.hid HFG.out.2.1,Lib.hid HFG.out.2.2.1,Lib.hid HFG.out.2.2.2,Lib.hid (Nat.ne_of_gt HQ.out.2.1.2)⟩|(obtain ⟨G,hG,h1,h2,h3,h4⟩:=HFE.out;subst hG;exact ⟨_,rfl,rfl,Lib.hid h1,Lib.hid h2,Lib.hid h3,Lib.hid h4.1,Lib.hid h4.2⟩)
 case rest =>
 obtain ⟨G,rfl,rfl,H3,HR3,HG0,HZ3,HGN⟩:=hcut
 have g0:=HG0.out
 by_cases he:ge=0
 case neg =>
  have HF:=Lib.hid (HE.out he)
  have HT2:=Lib.hid (HCE.out he)
  have qe:(ge != 0)=true:=by simpa using he
  clear he
  go_wp2_with fail
  refine (failed_any ge _).mono ?_
  rintro _ w7 ⟨rfl,hb7⟩
  have H7:=Lib.hid (H3.out.below hb7)
  have HR7:=Lib.hid (HR3.out.below hb7)
  obtain ⟨x0,x1,x2,x3,x4,x5⟩:=HR7.out.six
  obtain ⟨y0,y1,y2,y3,y4,y5⟩:=HR7.out.z6
  clear hb7 g0
  rw [HT2.out] at H7
  go_wp2_with fail
  refine bodyPost_ret (results_cell1 rfl _ _ b _ _ rfl (set6r HR7.out _ _ _ _ _ _).range Tryz.underlying39 (by rfl) (by rfl)) rfl ?_
  exact HD.out _ _ _ (HF.out.symm) ((H7.out.set6 HQ.out.2.1.1 HQ.out.2.1.2 _ _ _ _ _ _).up (by omega:T≤T+3)).done
 subst he
 have HF:=Lib.hid (HK.out rfl)
 have HRL:=Lib.hid (HRO.out _ HGV.out)
 dsimp only at HRL
 have H3d:=Lib.hid (H3.out.below (Below.refl wc.heap.size wc).drew)
 have HR3d:=Lib.hid (HR3.out.below (Below.refl wc.heap.size wc).drew)
 have HZ3d:=Lib.hid (HZ3.out.below (Below.refl wc.heap.size wc).drew)
 have HGL:=Lib.hid (show G<wc.heap.size from HZ3.out.lt (.inr rfl))
 have HM:=Lib.hid (p_release HZ3d.out (by have:=HT.out;omega) d0)
 unfold StepE at HM
 rw [HRL.out] at HM
 dsimp only at HM
 generalize (y.S.release d0).2=S' at *
 have S0:wc.cell? ⟨P,0,none⟩=some (Pq B)∧wc.cell? ⟨G,0,none⟩=some (.int .i64 d0):=⟨H3.out.c0,g0⟩
 have HGB:=HGN
 clear g0
 go_wp2_with fail
 go_region_held3 (fun w'=>w'.cell? ⟨P,0,none⟩=some (Pq B)∧w'.cell? ⟨G,0,none⟩=some (.int .i64 d0))
  (first|with_reducible exact S0|with_reducible exact S8|with_reducible exact S9|with_reducible exact ST|assumption|go_keep)
  (first|(go_at_call 119;((with_reducible refine HM.out.mono ?_);rintro _ w8 ⟨rfl,k1,k2⟩;have H8:=Lib.hid (H3d.out.move (k1.weaken fun k hk=>.inl hk) (fun k hk=>k2 k (.inl hk)));have HR8:=Lib.hid (HR3d.out.keep (n:=w2.heap.size) (X:=X) (fun k hk=>k2 k (.inl hk)) HQ.out.2.1.1 HQ.out.2.1.2 (k1.weaken fun k hk=>.inl hk));have S8:w8.cell? ⟨P,0,none⟩=some (Pq B)∧w8.cell? ⟨G,0,none⟩=some (.int .i64 d0):=⟨k1.c0,(World.cell?_of_block (a:=⟨G,0,none⟩) (k2 G (.inr rfl))).trans S0.2⟩;have HG8:=Lib.hid (show G<w8.heap.size from k1.lt (.inr rfl));clear k1 k2))|(go_at_call 30;((with_reducible refine (failed_any 0 w8).mono ?_);rintro _ w9 ⟨rfl,hb9⟩;have H9:=Lib.hid (H8.out.below hb9);have HR9:=Lib.hid (HR8.out.below hb9);have S9:w9.cell? ⟨P,0,none⟩=some (Pq B)∧w9.cell? ⟨G,0,none⟩=some (.int .i64 d0):=⟨H9.out.c0,(hb9.cell (p:=⟨G,0,none⟩) HG8.out).trans S8.2⟩;obtain ⟨x0,x1,x2,x3,x4,x5⟩:=HR9.out.six;obtain ⟨y0,y1,y2,y3,y4,y5⟩:=HR9.out.z6;have ST:((((((w9.setCell ⟨b,0,none⟩ (.int .i64 0)).setCell ⟨b,1,none⟩ (.int .i64 0)).setCell ⟨b,2,none⟩ (.string ⟨#[]⟩)).setCell ⟨b,3,none⟩ (.int .i64 0)).setCell ⟨b,4,none⟩ (.int .i64 0)).setCell ⟨b,5,none⟩ (.int .i64 0)).cell? ⟨P,0,none⟩=some (Pq B)∧((((((w9.setCell ⟨b,0,none⟩ (.int .i64 0)).setCell ⟨b,1,none⟩ (.int .i64 0)).setCell ⟨b,2,none⟩ (.string ⟨#[]⟩)).setCell ⟨b,3,none⟩ (.int .i64 0)).setCell ⟨b,4,none⟩ (.int .i64 0)).setCell ⟨b,5,none⟩ (.int .i64 0)).cell? ⟨G,0,none⟩=some (.int .i64 d0):=⟨(H9.out.set6 (b:=b) HQ.out.2.1.1 HQ.out.2.1.2 (.int .i64 0) (.int .i64 0) (.string ⟨#[]⟩) (.int .i64 0) (.int .i64 0) (.int .i64 0)).c0,(World.cell?_of_block (a:=⟨G,0,none⟩) (heap6 HGB.out)).trans S9.2⟩;clear hb9)))
 all_goals
  clear S0 S8 S9 ST
  go_wp2_with fail
  refine bodyPost_ret (results_cell1 rfl _ _ b _ _ rfl (set6r HR9.out _ _ _ _ _ _).range Tryz.underlying39 (by rfl) (by rfl)) rfl ?_
  exact HD.out _ _ _ (HF.out.symm) ((H9.out.set6 HQ.out.2.1.1 HQ.out.2.1.2 _ _ _ _ _ _).up (by omega:T+1≤T+3)).done
end Go.Proofs.YtpmpbmjjlccbbaaGreat.tr
