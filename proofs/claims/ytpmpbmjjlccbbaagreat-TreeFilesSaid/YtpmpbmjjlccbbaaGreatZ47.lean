/- Part 47 of what is known of the program's functions and of the document's words: contracts, and the mathematics beneath them. -/
import Derived.Test.YtpmpbmjjlccbbaaGreatProg
import Derived.Test.YtpmpbmjjlccbbaaGreatZ46
set_option linter.unusedVariables false
set_option linter.unusedSimpArgs false
set_option maxRecDepth 100000
set_option maxHeartbeats 8000000
namespace Go.Proofs.YtpmpbmjjlccbbaaGreat.tr
open Go.RowKit
open br (BS Inv Ino)
open cb (BrX RetW RetI)
open bl (Pq)
open wk (walkT pe pn pd e0 r0 dot1 dot2)
open ds (De Tb DA DV DL GetE StE IntsE lowV openT getV errV setT closeT full allT dz)
open pa (Bs Sv Strs Own own_form info9 own_base)
theorem SyX.cast {w0 w w':World} {P B Q room T:Nat} {X:Nat→Prop} {y:Sy} (h:SyX w0 w P B Q X y room T) (e:w=w'):SyX w0 w' P B Q X y room T:=e▸h
theorem m_pwrite {w0 w:World} {P B Q room T:Nat} {X:Nat→Prop} {y:Sy} (h:SyX w0 w P B Q X y room T) (hT:T≤990) (hh:Hd room y) (hl:Lim y.T) (c:Cal) (hsa:c.a.size≤1000000) :
  Calls Tryz.prog 65 #[Pq P,CV c] w (ME w0 w P B Q X room (T+3) (fun r y'=>DoWrite room y c true r y')):=by
 obtain ⟨co,cf,cl,cn,cx,ca,cb⟩:=c
 have hhR:=Lib.hid h
 have HH:=Lib.hid hh
 unfold CV
 dsimp only at hsa ⊢
 obtain ⟨g,b,w1,w2,hg,hw1,hb,hw2,HG2,HR2,HQ,H2⟩:=m_entry h co cf cl cn cx ca cb
 have HD:=Lib.hid (me_done (w0:=w0) (w:=w) (P:=P) (B:=B) (Q:=Q) (X:=X) (room:=room) (T:=T+3) (rel:=fun r y'=>DoWrite room y ⟨co,cf,cl,cn,cx,ca,cb⟩ true r y'))
 have HT:=Lib.hid hT
 have HA:=Lib.hid hsa
 obtain ⟨c0,c1,c2,c3,c4,c5,c6⟩:=HG2.out.seven
 unfold ME
 clear h hT hh hsa
 have HL:=Lib.hid hl
 clear hl
 have HC:=Lib.hid (file_any H2.out.sy cf 2 (some 1) (fun f=>and_one))
 unfold FileE at HC
 obtain ⟨gv,hgv⟩:∃ gv,fileD y.T cf (some 1)=gv:=⟨_,rfl⟩
 have HGV:=Lib.hid hgv
 rw [hgv] at HC
 clear hgv
 obtain ⟨⟨d0,d1,d2,d3,xs,d5⟩,ge⟩:=gv
 unfold DV at HC
 dsimp only at HC
 obtain ⟨m,hm⟩:∃ m,xs.length=m:=⟨_,rfl⟩
 have HM:=Lib.hid hm
 rw [hm] at HC
 clear hm
 by_cases he:ge=0
 case neg =>
  have HF:=Lib.hid (write_err9 (room:=room) (c:=⟨co,cf,cl,cn,cx,ca,cb⟩) (p:=true) HGV.out he)
  have qe:(ge != 0)=true:=by simpa using he
  clear he
  go_enter Tryz.func65,Tryz.ntmps65
  go_wp2_with fail
  refine HC.out.mono ?_
  rintro _ w3 ⟨A,c,rfl,hda,hb3⟩
  have H4:=Lib.hid (fun ob=>H2.out.grow (bel_step hb3 (bel_alloc w3 ob)) rfl)
  have HR4:=Lib.hid (fun ob=>HR2.out.below (bel_step hb3 (bel_alloc w3 ob)))
  have HQB:=Lib.hid (fun ob=>(show b<(w3.alloc ob).heap.size by have h1:=HQ.out;have h3:=hb3.size;rw [World.size_alloc];omega))
  clear hb3 c0 c1 c2 c3 c4 c5 c6
  go_wp2_with fail
  refine (failed_any (ge) _).mono ?_
  rintro _ w7 ⟨rfl,hb7⟩
  have H7:=Lib.hid ((H4.out _).below hb7)
  have HR7:=Lib.hid ((HR4.out _).below hb7)
  obtain ⟨x0,x1,x2,x3,x4,x5⟩:=HR7.out.six
  obtain ⟨y0,y1,y2,y3,y4,y5⟩:=HR7.out.z6
  clear hb7 
  go_wp2_with fail
  refine bodyPost_ret (results_cell1 rfl _ _ b _ _ rfl (set6r HR7.out _ _ _ _ _ _).range Tryz.underlying39 (by rfl) (by rfl)) rfl ?_
  exact HD.out _ _ _ (HF.out) ((H7.out.set6 HQ.out.2.1.1 (HQB.out _) _ _ _ _ _ _).up (by omega:T≤T+3)).done
 subst he
 have HWD:=Lib.hid (fun q e S' h=>write_does (room:=room) (c:=⟨co,cf,cl,cn,cx,ca,cb⟩) (p:=true) HGV.out (q:=q) (e:=e) (S':=S') h)
 go_enter Tryz.func65,Tryz.ntmps65
 go_wp2_with fail
 refine HC.out.mono ?_
 rintro _ w3 ⟨A,c,rfl,hda,hb3⟩
 obtain ⟨w4,g4,hw4,hg4,HP4,H4,HG4,HR4,HQ4,HN4,HQB,HQG,HDA,hmc⟩:=d_box H2 hb3 hda HG2 HR2 HQ
 clear hb3 hda c0 c1 c2 c3 c4 c5 c6
 have HPU:=Lib.hid (put_any H4.out.sy d0 cx ca (by have:=HA.out;omega))
 unfold PutE StepE RV at HPU
 obtain ⟨t0,t1,t2,t3,t4,t5⟩:=HP4.out.six
 obtain ⟨c0,c1,c2,c3,c4,c5,c6⟩:=HG4.out.seven
 go_wp2_with fail
 refine HPU.out.mono ?_
 rintro _ w5 ⟨pq,pe_,S',hw5,rfl,k1,k2⟩
 have H5:=Lib.hid (H4.out.move k1 k2)
 have HR5:=Lib.hid (HR4.out.keep k2 HQ.out.2.1.1 HQB.out k1)
 have HF:=Lib.hid (HWD.out pq pe_ S' hw5)
 clear k1 k2 hw5 t0 t1 t2 t3 t4 t5 c0 c1 c2 c3 c4 c5 c6
 obtain ⟨x0,x1,x2,x3,x4,x5⟩:=HR5.out.six
 obtain ⟨y0,y1,y2,y3,y4,y5⟩:=HR5.out.z6
 go_wp2_with fail
 refine bodyPost_ret (results_cell1 rfl _ _ b _ _ rfl (set6r HR5.out _ _ _ _ _ _).range Tryz.underlying39 (by rfl) (by rfl)) rfl ?_
 have hf:=HF.out
 simp only [if_true,ite_self,↓reduceIte] at hf
 exact HD.out _ _ _ hf ((H5.out.set6 HQ.out.2.1.1 HQB.out _ _ _ _ _ _).up (by omega:T+1≤T+3)).done
theorem m_write {w0 w:World} {P B Q room T:Nat} {X:Nat→Prop} {y:Sy} (h:SyX w0 w P B Q X y room T) (hT:T≤990) (hh:Hd room y) (hl:Lim y.T) (c:Cal) (hsa:c.a.size≤1000000) :
  Calls Tryz.prog 63 #[Pq P,CV c] w (ME w0 w P B Q X room (T+3) (fun r y'=>DoWrite room y c false r y')):=by
 obtain ⟨co,cf,cl,cn,cx,ca,cb⟩:=c
 have hhR:=Lib.hid h
 have HH:=Lib.hid hh
 unfold CV
 dsimp only at hsa ⊢
 obtain ⟨g,b,w1,w2,hg,hw1,hb,hw2,HG2,HR2,HQ,H2⟩:=m_entry h co cf cl cn cx ca cb
 have HD:=Lib.hid (me_done (w0:=w0) (w:=w) (P:=P) (B:=B) (Q:=Q) (X:=X) (room:=room) (T:=T+3) (rel:=fun r y'=>DoWrite room y ⟨co,cf,cl,cn,cx,ca,cb⟩ false r y'))
 have HT:=Lib.hid hT
 have HA:=Lib.hid hsa
 obtain ⟨c0,c1,c2,c3,c4,c5,c6⟩:=HG2.out.seven
 unfold ME
 clear h hT hh hsa
 have HL:=Lib.hid hl
 clear hl
 have HC:=Lib.hid (file_any H2.out.sy cf 2 (some 1) (fun f=>and_one))
 unfold FileE at HC
 obtain ⟨gv,hgv⟩:∃ gv,fileD y.T cf (some 1)=gv:=⟨_,rfl⟩
 have HGV:=Lib.hid hgv
 rw [hgv] at HC
 clear hgv
 obtain ⟨⟨d0,d1,d2,d3,xs,d5⟩,ge⟩:=gv
 unfold DV at HC
 dsimp only at HC
 obtain ⟨m,hm⟩:∃ m,xs.length=m:=⟨_,rfl⟩
 have HM:=Lib.hid hm
 rw [hm] at HC
 clear hm
 by_cases he:ge=0
 case neg =>
  have HF:=Lib.hid (write_err9 (room:=room) (c:=⟨co,cf,cl,cn,cx,ca,cb⟩) (p:=false) HGV.out he)
  have qe:(ge != 0)=true:=by simpa using he
  clear he
  go_enter Tryz.func63,Tryz.ntmps63
  go_wp2_with fail
  refine HC.out.mono ?_
  rintro _ w3 ⟨A,c,rfl,hda,hb3⟩
  have H4:=Lib.hid (fun ob=>H2.out.grow (bel_step hb3 (bel_alloc w3 ob)) rfl)
  have HR4:=Lib.hid (fun ob=>HR2.out.below (bel_step hb3 (bel_alloc w3 ob)))
  have HQB:=Lib.hid (fun ob=>(show b<(w3.alloc ob).heap.size by have h1:=HQ.out;have h3:=hb3.size;rw [World.size_alloc];omega))
  clear hb3 c0 c1 c2 c3 c4 c5 c6
  go_wp2_with fail
  refine (failed_any (ge) _).mono ?_
  rintro _ w7 ⟨rfl,hb7⟩
  have H7:=Lib.hid ((H4.out _).below hb7)
  have HR7:=Lib.hid ((HR4.out _).below hb7)
  obtain ⟨x0,x1,x2,x3,x4,x5⟩:=HR7.out.six
  obtain ⟨y0,y1,y2,y3,y4,y5⟩:=HR7.out.z6
  clear hb7 
  go_wp2_with fail
  refine bodyPost_ret (results_cell1 rfl _ _ b _ _ rfl (set6r HR7.out _ _ _ _ _ _).range Tryz.underlying39 (by rfl) (by rfl)) rfl ?_
  exact HD.out _ _ _ (HF.out) ((H7.out.set6 HQ.out.2.1.1 (HQB.out _) _ _ _ _ _ _).up (by omega:T≤T+3)).done
 subst he
 have HWD:=Lib.hid (fun q e S' h=>write_does (room:=room) (c:=⟨co,cf,cl,cn,cx,ca,cb⟩) (p:=false) HGV.out (q:=q) (e:=e) (S':=S') h)
 obtain ⟨hg0,hi0⟩:=file_ok (T:=y.T) (fd:=cf) (k:=some 1) (by rw [HGV.out])
 rw [HGV.out] at hg0 hi0
 dsimp only at hi0
 have HOF0:=Lib.hid (writeAt_lim HH.out HL.out (c:=⟨co,cf,cl,cn,cx,ca,cb⟩) hg0 hi0)
 obtain ⟨-,-,hxs⟩:=HL.out.get hg0
 have HXS:=Lib.hid (show m=0 by rw [← HM.out];have e:xs=[]:=hxs hi0;rw [e];rfl)
 have HML:=Lib.hid (show m≤4000 by rw [HXS.out];omega)
 have hb5:=bit_5 d1
 clear hg0 hi0 hxs
 cases hap:bit d1 5 with
 | false =>
  rw [hap] at hb5
  have HAT:=Lib.hid (show writeAt y ⟨co,cf,cl,cn,cx,ca,cb⟩ false ⟨d0,d1,d2,d3,xs,d5⟩=d2 by unfold writeAt;rw [if_neg (by decide)];exact if_neg (by rw [hap];decide))
  have HOF:=Lib.hid (show 0≤d2∧d2≤1099511627776 by have:=HOF0.out;rw [HAT.out] at this;exact this)
  clear hap HOF0
  go_enter Tryz.func63,Tryz.ntmps63
  go_wp2_with fail
  refine HC.out.mono ?_
  rintro _ w3 ⟨A,c,rfl,hda,hb3⟩
  obtain ⟨w4,g4,hw4,hg4,HP4,H4,HG4,HR4,HQ4,HN4,HQB,HQG,HDA,hmc⟩:=d_box H2 hb3 hda HG2 HR2 HQ
  clear hb3 hda c0 c1 c2 c3 c4 c5 c6
  have HMC:=Lib.hid hmc
  clear hmc
  have HPU:=Lib.hid (put_any H4.out.sy d0 (d2) ca (by have:=HA.out;omega))
  unfold PutE StepE RV at HPU
  obtain ⟨t0,t1,t2,t3,t4,t5⟩:=HP4.out.six
  obtain ⟨c0,c1,c2,c3,c4,c5,c6⟩:=HG4.out.seven
  go_wp2_with fail
  refine HPU.out.mono ?_
  rintro _ w5 ⟨pq,pe_,S',hw5,rfl,k1,k2⟩
  have HWL:=Lib.hid (wri_lim hw5 (by have:=HOF.out;omega))
  have H5:=Lib.hid (H4.out.move k1 k2)
  have HR5:=Lib.hid (HR4.out.keep k2 HQ.out.2.1.1 HQB.out k1)
  have HG5:=Lib.hid (HG4.out.keep k2 HQ.out.1.1 HQG.out k1)
  have HP5:=Lib.hid (HP4.out.keep k2 HQ4.out.1.1 HQ4.out.1.2 k1)
  have HF:=Lib.hid (HWD.out pq pe_ S' (by rw [HAT.out];exact hw5))
  clear k1 k2 hw5 t0 t1 t2 t3 t4 t5 c0 c1 c2 c3 c4 c5 c6
  obtain ⟨w6,hw6⟩:∃ w6,w5.alloc (.cells #[.int .i64 pe_,.int .i64 (pq:Int),.string ⟨#[]⟩,.int .i64 0,.int .i64 0,.int .i64 0] 39)=w6:=⟨_,rfl⟩
  obtain ⟨g6,hg6⟩:∃ g6,w5.heap.size=g6:=⟨_,rfl⟩
  have hb6:Below w5.heap.size w5 w6:=by rw [← hw6];exact bel_alloc w5 _
  have HV6:=Lib.hid (show Rw w6 g6 [.int .i64 pe_,.int .i64 (pq:Int),.string ⟨#[]⟩,.int .i64 0,.int .i64 0,.int .i64 0] by rw [← hw6,← hg6];exact Rw.new w5 [.int .i64 pe_,.int .i64 (pq:Int),.string ⟨#[]⟩,.int .i64 0,.int .i64 0,.int .i64 0] 39)
  have H6:=Lib.hid (H5.out.below hb6)
  have HG6:=Lib.hid (HG5.out.below hb6)
  have HR6:=Lib.hid (HR5.out.below hb6)
  have HP6:=Lib.hid (HP5.out.below hb6)
  have HQ6:=Lib.hid (show g6≠g4∧g6≠b∧w6.heap.size=w5.heap.size+1 by
   have h1:=HP5.out.lt;have h2:=HR5.out.lt;refine ⟨by omega,by omega,?_⟩;rw [← hw6,World.size_alloc])
  obtain ⟨t0,t1,t2,t3,t4,t5⟩:=HP6.out.six
  obtain ⟨u0,u1,u2,u3,u4,u5⟩:=HP6.out.z6
  obtain ⟨x0,x1,x2,x3,x4,x5⟩:=HV6.out.six
  obtain ⟨z0,z1,z2,z3,z4,z5⟩:=HV6.out.z6
  have HB6:=Lib.hid hb6
  have HG6L:=Lib.hid (show w5.heap.size≤g6∧g6<w6.heap.size by have:=HQ6.out;omega)
  have HW6:=Lib.hid hw6
  clear hb6 hw6
  go_upto_region 7 with fail
  rw [HW6.out]
  clear HW6
  by_cases hpe:pe_=0
  case neg =>
   have qpe:(pe_ == 0)=false:=by simpa using hpe
   have hf:=HF.out
   rw [if_neg hpe] at hf
   have HF2:=Lib.hid hf
   clear hf hpe t0 t1 t2 t3 t4 t5 u0 u1 u2 u3 u4 u5
   obtain ⟨xx0,xx1,xx2,xx3,xx4,xx5⟩:=HR6.out.six
   obtain ⟨yy0,yy1,yy2,yy3,yy4,yy5⟩:=HR6.out.z6
   go_wp2_with fail
   refine bodyPost_ret (results_cell1 rfl _ _ b _ _ rfl (set6r HR6.out _ _ _ _ _ _).range Tryz.underlying39 (by rfl) (by rfl)) rfl ?_
   exact HD.out _ _ _ (HF2.out) ((H6.out.set6 HQ.out.2.1.1 HQB.out _ _ _ _ _ _).up (by omega:T+1≤T+3)).done
  subst hpe
  have hf:=HF.out
  rw [if_pos rfl,if_neg (by decide),HAT.out] at hf
  have HF2:=Lib.hid hf
  clear hf HF
  have hr0:(0:Int)≤(pq:Int):=Int.natCast_nonneg _
  obtain ⟨hr1,hr2⟩:=HOF.out
  have hr3:=HWL.out.1
  have hwr:wrap64 (d2+(pq:Int))=d2+(pq:Int):=wrap64_id (by omega) (by omega)
  obtain ⟨w7,hw7⟩:∃ w7,w6.setCell ⟨g4,2,none⟩ (.int .i64 (d2+(pq:Int)))=w7:=⟨_,rfl⟩
  have HP7:=Lib.hid (show Rw w7 g4 [.int .i64 d0,.int .i64 d1,.int .i64 (d2+(pq:Int)),.bool d3,.slice A m c,.int .i64 d5] by rw [← hw7];exact set2f HP6.out _)
  have H7:=Lib.hid (show St w0 w w7 P B Q X w4.heap.size ⟨S',y.T⟩ room (T+1) by rw [← hw7];exact H6.out.set HQ4.out.1.1 HQ4.out.1.2 _)
  have HG7:=Lib.hid (show Rw w7 g _ by rw [← hw7];exact HG6.out.oth _ (Ne.symm HQ4.out.2.2))
  have HR7:=Lib.hid (show Rw w7 b _ by rw [← hw7];exact HR6.out.oth _ (Ne.symm HQ4.out.2.1))
  have HV7:=Lib.hid (show Rw w7 g6 _ by rw [← hw7];exact HV6.out.oth _ HQ6.out.1)
  have HDA7:=Lib.hid (show DA w7.drew A m c ⟨d0,d1,d2+(pq:Int),d3,xs,d5⟩ from ⟨HM.out.symm,HMC.out,fun hn=>absurd hn (by show ¬ 0<xs.length;rw [HM.out,HXS.out];exact Nat.lt_irrefl 0)⟩)
  have HZ7:=Lib.hid (show SyX w0 w7.drew P B Q (Ov (fun b=>X b∨(w.heap.size≤b∧b<w4.heap.size)) w5 w6) ⟨S',y.T⟩ room (T+1) from ((((H5.out.sy.over HB6.out).turn (toBl (ds.only_cell w6 ⟨g4,2,none⟩ (.int .i64 (d2+(pq:Int))))) (fun k hk=>by subst hk;exact ⟨.inl (.inr ⟨HQ4.out.1.1,HQ4.out.1.2⟩),Nat.le_trans H5.out.lo HQ4.out.1.1⟩)).weaken fun k hk=>.inl hk).cast hw7).below (Below.refl w7.heap.size w7).drew)
  go_wp2_with fail
  try rw [hwr]
  try rw [hw7]
  clear hwr hw7 t0 t1 t2 t3 t4 t5 u0 u1 u2 u3 u4 u5 x0 x1 x2 x3 x4 x5
  have H5d:=Lib.hid (H7.out.below (Below.refl w7.heap.size w7).drew)
  have HP5d:=Lib.hid (HP7.out.below (Below.refl w7.heap.size w7).drew)
  have HG5d:=Lib.hid (HG7.out.below (Below.refl w7.heap.size w7).drew)
  have HR5d:=Lib.hid (HR7.out.below (Below.refl w7.heap.size w7).drew)
  have HS:=Lib.hid (p_set HZ7.out (d:=⟨d0,d1,d2+(pq:Int),d3,xs,d5⟩) HDA7.out (by have:=HML.out;omega) cf)
  unfold StepE DV at HS
  dsimp only at HS
  have S0:w7.cell? ⟨P,1,none⟩=some (Pq Q)∧w7.cell? ⟨g,1,none⟩=some (.int .i64 cf)∧w7.cell? ⟨g4,0,none⟩=some (.int .i64 d0)∧w7.cell? ⟨g4,1,none⟩=some (.int .i64 d1)∧w7.cell? ⟨g4,2,none⟩=some (.int .i64 (d2+(pq:Int)))∧w7.cell? ⟨g4,3,none⟩=some (.bool d3)∧w7.cell? ⟨g4,4,none⟩=some (.slice A m c)∧w7.cell? ⟨g4,5,none⟩=some (.int .i64 d5):=⟨H7.out.c1,HG7.out.c 1 _ rfl,HP7.out.six⟩
  go_wp2_with fail
  go_region_held3 (fun w'=>w'.cell? ⟨P,1,none⟩=some (Pq Q)∧w'.cell? ⟨g,1,none⟩=some (.int .i64 cf)∧w'.cell? ⟨g4,0,none⟩=some (.int .i64 d0)∧w'.cell? ⟨g4,1,none⟩=some (.int .i64 d1)∧w'.cell? ⟨g4,2,none⟩=some (.int .i64 (d2+(pq:Int)))∧w'.cell? ⟨g4,3,none⟩=some (.bool d3)∧w'.cell? ⟨g4,4,none⟩=some (.slice A m c)∧w'.cell? ⟨g4,5,none⟩=some (.int .i64 d5))
   (first|with_reducible exact S0|with_reducible exact S8|assumption|go_keep)
   (first|(go_at_call 122;((with_reducible refine HS.out.mono ?_);rintro _ w8 ⟨rfl,k1,k2⟩;have l1:=k1.weaken (fun b hb=>.inl hb);have l2:=(show Keeps (fun b=>X b∨(w.heap.size≤b∧b<w4.heap.size)) w7.drew w8 from fun b hb=>k2 b (.inl hb));have H8:=Lib.hid (H5d.out.move l1 l2);have HR8:=Lib.hid (HR5d.out.keep l2 HQ.out.2.1.1 HQB.out l1);have HP8:=Lib.hid (HP5d.out.keep l2 HQ4.out.1.1 HQ4.out.1.2 l1);have HG8:=Lib.hid (HG5d.out.keep l2 HQ.out.1.1 HQG.out l1);have HV8:=Lib.hid (HV7.out.same (k2 g6 (.inr HG6L.out)) (k1.lt (.inr HG6L.out)));have S8:w8.cell? ⟨P,1,none⟩=some (Pq Q)∧w8.cell? ⟨g,1,none⟩=some (.int .i64 cf)∧w8.cell? ⟨g4,0,none⟩=some (.int .i64 d0)∧w8.cell? ⟨g4,1,none⟩=some (.int .i64 d1)∧w8.cell? ⟨g4,2,none⟩=some (.int .i64 (d2+(pq:Int)))∧w8.cell? ⟨g4,3,none⟩=some (.bool d3)∧w8.cell? ⟨g4,4,none⟩=some (.slice A m c)∧w8.cell? ⟨g4,5,none⟩=some (.int .i64 d5):=⟨l1.c1,HG8.out.c 1 _ rfl,HP8.out.six⟩;clear l1 l2 k1 k2)))
  all_goals
   clear S0 S8
   obtain ⟨v0,v1,v2,v3,v4,v5⟩:=HV8.out.six
   obtain ⟨x0,x1,x2,x3,x4,x5⟩:=HR8.out.six
   obtain ⟨y0,y1,y2,y3,y4,y5⟩:=HR8.out.z6
   go_wp2_with fail
   refine bodyPost_ret (results_cell1 rfl _ _ b _ _ rfl (set6r HR8.out _ _ _ _ _ _).range Tryz.underlying39 (by rfl) (by rfl)) rfl ?_
   exact HD.out _ _ _ (HF2.out) ((H8.out.set6 HQ.out.2.1.1 HQB.out _ _ _ _ _ _).up (by omega:T+1≤T+3)).done
 | true =>
  rw [hap] at hb5
  have HAT:=Lib.hid (show writeAt y ⟨co,cf,cl,cn,cx,ca,cb⟩ false ⟨d0,d1,d2,d3,xs,d5⟩=((y.S.stat d0).1.2.1:Int) by unfold writeAt;rw [if_neg (by decide)];exact if_pos hap)
  have HOF:=Lib.hid (show 0≤((y.S.stat d0).1.2.1:Int)∧((y.S.stat d0).1.2.1:Int)≤1099511627776 by have:=HOF0.out;rw [HAT.out] at this;exact this)
  clear hap HOF0
  go_enter Tryz.func63,Tryz.ntmps63
  go_wp2_with fail
  refine HC.out.mono ?_
  rintro _ w3 ⟨A,c,rfl,hda,hb3⟩
  obtain ⟨wa,g4,hwa,hg4,HPa,Ha,HGa,HRa,HQ4,HN4,HQB,HQG,HDA,hmc⟩:=d_box H2 hb3 hda HG2 HR2 HQ
  clear hb3 hda c0 c1 c2 c3 c4 c5 c6
  have HMC:=Lib.hid hmc
  have HSI:=Lib.hid (size_any Ha.out.sy d0)
  unfold RetW at HSI
  generalize ((y.S.stat d0).1.2.1:Int)=sz at *
  obtain ⟨t0,t1,t2,t3,t4,t5⟩:=HPa.out.six
  go_wp2_with fail
  refine HSI.out.mono ?_
  rintro _ wb ⟨rfl,hbb⟩
  have Hb:=Lib.hid (Ha.out.below hbb)
  have HGb:=Lib.hid (HGa.out.below hbb)
  have HRb:=Lib.hid (HRa.out.below hbb)
  have HPb:=Lib.hid (HPa.out.below hbb)
  clear hbb t0 t1 t2 t3 t4 t5 hmc
  obtain ⟨ta0,ta1,ta2,ta3,ta4,ta5⟩:=HPb.out.six
  obtain ⟨u0,u1,u2,u3,u4,u5⟩:=HPb.out.z6
  obtain ⟨w4,hw4⟩:∃ w4,wb.setCell ⟨g4,2,none⟩ (.int .i64 sz)=w4:=⟨_,rfl⟩
  have HP4:=Lib.hid (show Rw w4 g4 [.int .i64 d0,.int .i64 d1,.int .i64 sz,.bool d3,.slice A m c,.int .i64 d5] by rw [← hw4];exact set2f HPb.out _)
  have H4:=Lib.hid (show St w0 w w4 P B Q X wa.heap.size y room T by rw [← hw4];exact Hb.out.set HQ4.out.1.1 HQ4.out.1.2 _)
  have HG4:=Lib.hid (show Rw w4 g _ by rw [← hw4];exact HGb.out.oth _ (Ne.symm HQ4.out.2.2))
  have HR4:=Lib.hid (show Rw w4 b _ by rw [← hw4];exact HRb.out.oth _ (Ne.symm HQ4.out.2.1))
  have HPU:=Lib.hid (put_any H4.out.sy d0 (sz) ca (by have:=HA.out;omega))
  unfold PutE StepE RV at HPU
  obtain ⟨t0,t1,t2,t3,t4,t5⟩:=HP4.out.six
  obtain ⟨c0,c1,c2,c3,c4,c5,c6⟩:=HG4.out.seven
  go_wp2_with fail
  try rw [hw4]
  clear hw4 ta0 ta1 ta2 ta3 ta4 ta5 u0 u1 u2 u3 u4 u5
  refine HPU.out.mono ?_
  rintro _ w5 ⟨pq,pe_,S',hw5,rfl,k1,k2⟩
  have HWL:=Lib.hid (wri_lim hw5 (by have:=HOF.out;omega))
  have H5:=Lib.hid (H4.out.move k1 k2)
  have HR5:=Lib.hid (HR4.out.keep k2 HQ.out.2.1.1 HQB.out k1)
  have HG5:=Lib.hid (HG4.out.keep k2 HQ.out.1.1 HQG.out k1)
  have HP5:=Lib.hid (HP4.out.keep k2 HQ4.out.1.1 HQ4.out.1.2 k1)
  have HF:=Lib.hid (HWD.out pq pe_ S' (by rw [HAT.out];exact hw5))
  clear k1 k2 hw5 t0 t1 t2 t3 t4 t5 c0 c1 c2 c3 c4 c5 c6
  obtain ⟨w6,hw6⟩:∃ w6,w5.alloc (.cells #[.int .i64 pe_,.int .i64 (pq:Int),.string ⟨#[]⟩,.int .i64 0,.int .i64 0,.int .i64 0] 39)=w6:=⟨_,rfl⟩
  obtain ⟨g6,hg6⟩:∃ g6,w5.heap.size=g6:=⟨_,rfl⟩
  have hb6:Below w5.heap.size w5 w6:=by rw [← hw6];exact bel_alloc w5 _
  have HV6:=Lib.hid (show Rw w6 g6 [.int .i64 pe_,.int .i64 (pq:Int),.string ⟨#[]⟩,.int .i64 0,.int .i64 0,.int .i64 0] by rw [← hw6,← hg6];exact Rw.new w5 [.int .i64 pe_,.int .i64 (pq:Int),.string ⟨#[]⟩,.int .i64 0,.int .i64 0,.int .i64 0] 39)
  have H6:=Lib.hid (H5.out.below hb6)
  have HG6:=Lib.hid (HG5.out.below hb6)
  have HR6:=Lib.hid (HR5.out.below hb6)
  have HP6:=Lib.hid (HP5.out.below hb6)
  have HQ6:=Lib.hid (show g6≠g4∧g6≠b∧w6.heap.size=w5.heap.size+1 by
   have h1:=HP5.out.lt;have h2:=HR5.out.lt;refine ⟨by omega,by omega,?_⟩;rw [← hw6,World.size_alloc])
  obtain ⟨t0,t1,t2,t3,t4,t5⟩:=HP6.out.six
  obtain ⟨u0,u1,u2,u3,u4,u5⟩:=HP6.out.z6
  obtain ⟨x0,x1,x2,x3,x4,x5⟩:=HV6.out.six
  obtain ⟨z0,z1,z2,z3,z4,z5⟩:=HV6.out.z6
  have HB6:=Lib.hid hb6
  have HG6L:=Lib.hid (show w5.heap.size≤g6∧g6<w6.heap.size by have:=HQ6.out;omega)
  have HW6:=Lib.hid hw6
  clear hb6 hw6
  go_upto_region 7 with fail
  rw [HW6.out]
  clear HW6
  by_cases hpe:pe_=0
  case neg =>
   have qpe:(pe_ == 0)=false:=by simpa using hpe
   have hf:=HF.out
   rw [if_neg hpe] at hf
   have HF2:=Lib.hid hf
   clear hf hpe t0 t1 t2 t3 t4 t5 u0 u1 u2 u3 u4 u5
   obtain ⟨xx0,xx1,xx2,xx3,xx4,xx5⟩:=HR6.out.six
   obtain ⟨yy0,yy1,yy2,yy3,yy4,yy5⟩:=HR6.out.z6
   go_wp2_with fail
   refine bodyPost_ret (results_cell1 rfl _ _ b _ _ rfl (set6r HR6.out _ _ _ _ _ _).range Tryz.underlying39 (by rfl) (by rfl)) rfl ?_
   exact HD.out _ _ _ (HF2.out) ((H6.out.set6 HQ.out.2.1.1 HQB.out _ _ _ _ _ _).up (by omega:T+1≤T+3)).done
  subst hpe
  have hf:=HF.out
  rw [if_pos rfl,if_neg (by decide),HAT.out] at hf
  have HF2:=Lib.hid hf
  clear hf HF
  have hr0:(0:Int)≤(pq:Int):=Int.natCast_nonneg _
  obtain ⟨hr1,hr2⟩:=HOF.out
  have hr3:=HWL.out.1
  have hwr:wrap64 (sz+(pq:Int))=sz+(pq:Int):=wrap64_id (by omega) (by omega)
  obtain ⟨w7,hw7⟩:∃ w7,w6.setCell ⟨g4,2,none⟩ (.int .i64 (sz+(pq:Int)))=w7:=⟨_,rfl⟩
  have HP7:=Lib.hid (show Rw w7 g4 [.int .i64 d0,.int .i64 d1,.int .i64 (sz+(pq:Int)),.bool d3,.slice A m c,.int .i64 d5] by rw [← hw7];exact set2f HP6.out _)
  have H7:=Lib.hid (show St w0 w w7 P B Q X wa.heap.size ⟨S',y.T⟩ room (T+1) by rw [← hw7];exact H6.out.set HQ4.out.1.1 HQ4.out.1.2 _)
  have HG7:=Lib.hid (show Rw w7 g _ by rw [← hw7];exact HG6.out.oth _ (Ne.symm HQ4.out.2.2))
  have HR7:=Lib.hid (show Rw w7 b _ by rw [← hw7];exact HR6.out.oth _ (Ne.symm HQ4.out.2.1))
  have HV7:=Lib.hid (show Rw w7 g6 _ by rw [← hw7];exact HV6.out.oth _ HQ6.out.1)
  have HDA7:=Lib.hid (show DA w7.drew A m c ⟨d0,d1,sz+(pq:Int),d3,xs,d5⟩ from ⟨HM.out.symm,HMC.out,fun hn=>absurd hn (by show ¬ 0<xs.length;rw [HM.out,HXS.out];exact Nat.lt_irrefl 0)⟩)
  have HZ7:=Lib.hid (show SyX w0 w7.drew P B Q (Ov (fun b=>X b∨(w.heap.size≤b∧b<wa.heap.size)) w5 w6) ⟨S',y.T⟩ room (T+1) from ((((H5.out.sy.over HB6.out).turn (toBl (ds.only_cell w6 ⟨g4,2,none⟩ (.int .i64 (sz+(pq:Int))))) (fun k hk=>by subst hk;exact ⟨.inl (.inr ⟨HQ4.out.1.1,HQ4.out.1.2⟩),Nat.le_trans H5.out.lo HQ4.out.1.1⟩)).weaken fun k hk=>.inl hk).cast hw7).below (Below.refl w7.heap.size w7).drew)
  go_wp2_with fail
  try rw [hwr]
  try rw [hw7]
  clear hwr hw7 t0 t1 t2 t3 t4 t5 u0 u1 u2 u3 u4 u5 x0 x1 x2 x3 x4 x5
  have H5d:=Lib.hid (H7.out.below (Below.refl w7.heap.size w7).drew)
  have HP5d:=Lib.hid (HP7.out.below (Below.refl w7.heap.size w7).drew)
  have HG5d:=Lib.hid (HG7.out.below (Below.refl w7.heap.size w7).drew)
  have HR5d:=Lib.hid (HR7.out.below (Below.refl w7.heap.size w7).drew)
  have HS:=Lib.hid (p_set HZ7.out (d:=⟨d0,d1,sz+(pq:Int),d3,xs,d5⟩) HDA7.out (by have:=HML.out;omega) cf)
  unfold StepE DV at HS
  dsimp only at HS
  have S0:w7.cell? ⟨P,1,none⟩=some (Pq Q)∧w7.cell? ⟨g,1,none⟩=some (.int .i64 cf)∧w7.cell? ⟨g4,0,none⟩=some (.int .i64 d0)∧w7.cell? ⟨g4,1,none⟩=some (.int .i64 d1)∧w7.cell? ⟨g4,2,none⟩=some (.int .i64 (sz+(pq:Int)))∧w7.cell? ⟨g4,3,none⟩=some (.bool d3)∧w7.cell? ⟨g4,4,none⟩=some (.slice A m c)∧w7.cell? ⟨g4,5,none⟩=some (.int .i64 d5):=⟨H7.out.c1,HG7.out.c 1 _ rfl,HP7.out.six⟩
  go_wp2_with fail
  go_region_held3 (fun w'=>w'.cell? ⟨P,1,none⟩=some (Pq Q)∧w'.cell? ⟨g,1,none⟩=some (.int .i64 cf)∧w'.cell? ⟨g4,0,none⟩=some (.int .i64 d0)∧w'.cell? ⟨g4,1,none⟩=some (.int .i64 d1)∧w'.cell? ⟨g4,2,none⟩=some (.int .i64 (sz+(pq:Int)))∧w'.cell? ⟨g4,3,none⟩=some (.bool d3)∧w'.cell? ⟨g4,4,none⟩=some (.slice A m c)∧w'.cell? ⟨g4,5,none⟩=some (.int .i64 d5))
   (first|with_reducible exact S0|with_reducible exact S8|assumption|go_keep)
   (first|(go_at_call 122;((with_reducible refine HS.out.mono ?_);rintro _ w8 ⟨rfl,k1,k2⟩;have l1:=k1.weaken (fun b hb=>.inl hb);have l2:=(show Keeps (fun b=>X b∨(w.heap.size≤b∧b<wa.heap.size)) w7.drew w8 from fun b hb=>k2 b (.inl hb));have H8:=Lib.hid (H5d.out.move l1 l2);have HR8:=Lib.hid (HR5d.out.keep l2 HQ.out.2.1.1 HQB.out l1);have HP8:=Lib.hid (HP5d.out.keep l2 HQ4.out.1.1 HQ4.out.1.2 l1);have HG8:=Lib.hid (HG5d.out.keep l2 HQ.out.1.1 HQG.out l1);have HV8:=Lib.hid (HV7.out.same (k2 g6 (.inr HG6L.out)) (k1.lt (.inr HG6L.out)));have S8:w8.cell? ⟨P,1,none⟩=some (Pq Q)∧w8.cell? ⟨g,1,none⟩=some (.int .i64 cf)∧w8.cell? ⟨g4,0,none⟩=some (.int .i64 d0)∧w8.cell? ⟨g4,1,none⟩=some (.int .i64 d1)∧w8.cell? ⟨g4,2,none⟩=some (.int .i64 (sz+(pq:Int)))∧w8.cell? ⟨g4,3,none⟩=some (.bool d3)∧w8.cell? ⟨g4,4,none⟩=some (.slice A m c)∧w8.cell? ⟨g4,5,none⟩=some (.int .i64 d5):=⟨l1.c1,HG8.out.c 1 _ rfl,HP8.out.six⟩;clear l1 l2 k1 k2)))
  all_goals
   clear S0 S8
   obtain ⟨v0,v1,v2,v3,v4,v5⟩:=HV8.out.six
   obtain ⟨x0,x1,x2,x3,x4,x5⟩:=HR8.out.six
   obtain ⟨y0,y1,y2,y3,y4,y5⟩:=HR8.out.z6
   go_wp2_with fail
   refine bodyPost_ret (results_cell1 rfl _ _ b _ _ rfl (set6r HR8.out _ _ _ _ _ _).range Tryz.underlying39 (by rfl) (by rfl)) rfl ?_
   exact HD.out _ _ _ (HF2.out) ((H8.out.set6 HQ.out.2.1.1 HQB.out _ _ _ _ _ _).up (by omega:T+1≤T+3)).done
end Go.Proofs.YtpmpbmjjlccbbaaGreat.tr
