/- Part 49 of what is known of the program's functions and of the document's words: contracts, and the mathematics beneath them. -/
import Derived.Test.YtpmpbmjjlccbbaaGreatProg
import Derived.Test.YtpmpbmjjlccbbaaGreatZ48
set_option linter.unusedVariables false
set_option linter.unusedSimpArgs false
set_option maxRecDepth 100000
set_option maxHeartbeats 8000000
namespace Go.Proofs.YtpmpbmjjlccbbaaGreat.tr
open Go.RowKit
open br (BS Inv Ino)
open cb (BrX RetW RetI)
open bl (Pq)
open wk (walkT pe pn pd e0 r0 dot1 dot2)
open ds (De Tb DA DV DL GetE StE IntsE lowV openT getV errV setT closeT full allT dz)
open pa (Bs Sv Strs Own own_form info9 own_base)
theorem open_opens (f:Int):opensB f=false↔(bit f 1=false∧(bit f 0=false∨bit f 4=true∨bit f 5=true)):=by
 unfold opensB
 cases bit f 0 <;> cases bit f 1 <;> cases bit f 4 <;> cases bit f 5 <;> simp
theorem open_bad {y:Sy} {c:Cal} (h:opensB c.flag=false):doOpen y c=(wrong 22,y):=if_pos ((open_opens _).1 h)
theorem open_full {y:Sy} {c:Cal} (h:opensB c.flag=true) (h2:full y.T=true):doOpen y c=(wrong 24,y):=by
 unfold doOpen
 rw [if_neg (fun e=>by rw [(open_opens _).2 e] at h;cases h),if_pos h2]
theorem kind_file {room:Nat} {y:Sy} (hh:Hd room y) {i:Int} (ht:There y.S i) (h2:y.S.kindOf i≠2) (h3:y.S.kindOf i≠3):y.S.kindOf i=1:=by
 obtain ⟨I,rfl,i1,i2,i3,i4⟩:=ht.kind
 rw [i3] at h2 h3 ⊢
 have hk:=hh.good.1.kinds I
 have hn:=hh.nw I
 omega
theorem open_to {room:Nat} {y:Sy} {c:Cal} (hh:Hd room y) (h:opensB c.flag=true) (h2:full y.T=false) :
  ((toOpenR y.S c.a c.flag).1.2≠0→doOpen y c=(wrong (toOpenR y.S c.a c.flag).1.2,y)∧(toOpenR y.S c.a c.flag).2=y.S) ∧
  ((toOpenR y.S c.a c.flag).1.2=0→(toOpenR y.S c.a c.flag).2.kindOf (toOpenR y.S c.a c.flag).1.1=1∧doOpen y c=opened ⟨if bit c.flag 4=true then ((toOpenR y.S c.a c.flag).2.cutI (toOpenR y.S c.a c.flag).1.1 0).2 else (toOpenR y.S c.a c.flag).2,y.T⟩ ⟨(toOpenR y.S c.a c.flag).1.1,c.flag,0,false,[],0⟩):=by
 have hE:doOpen y c =
   (if (lead y.S c.a (!(bit c.flag 2 && bit c.flag 3))).2=2∧(lead y.S c.a (!(bit c.flag 2 && bit c.flag 3))).1.2.1≠e0∧bit c.flag 2=true then
    if pd c.a=true then (wrong 21,y)
    else if (y.S.make (lead y.S c.a (!(bit c.flag 2 && bit c.flag 3))).1.1 (lead y.S c.a (!(bit c.flag 2 && bit c.flag 3))).1.2.1 1 e0).1.2≠0 then (wrong (y.S.make (lead y.S c.a (!(bit c.flag 2 && bit c.flag 3))).1.1 (lead y.S c.a (!(bit c.flag 2 && bit c.flag 3))).1.2.1 1 e0).1.2,y)
     else openIno ⟨(y.S.make (lead y.S c.a (!(bit c.flag 2 && bit c.flag 3))).1.1 (lead y.S c.a (!(bit c.flag 2 && bit c.flag 3))).1.2.1 1 e0).2,y.T⟩ (y.S.make (lead y.S c.a (!(bit c.flag 2 && bit c.flag 3))).1.1 (lead y.S c.a (!(bit c.flag 2 && bit c.flag 3))).1.2.1 1 e0).1.1 c.flag
   else if (lead y.S c.a (!(bit c.flag 2 && bit c.flag 3))).2≠0 then (wrong (lead y.S c.a (!(bit c.flag 2 && bit c.flag 3))).2,y)
   else if (bit c.flag 2 && bit c.flag 3)=true then (wrong 17,y)
   else openIno y (lead y.S c.a (!(bit c.flag 2 && bit c.flag 3))).1.2.2 c.flag):=by
  unfold doOpen
  rw [if_neg (fun e=>by rw [(open_opens _).2 e] at h;cases h),if_neg (by rw [h2];decide)]
 have hth:=lead_there hh.good (t:=c.a) (fol:=!(bit c.flag 2 && bit c.flag 3))
 have hmk:=fun a b=>make_kind hh.good (d:=a) (s:=b) (k:=1) (t:=e0)
 have hme:=fun a b=>make_err (S:=y.S) (d:=a) (s:=b) (k:=1) (t:=e0)
 rw [hE]
 unfold toOpenR
 dsimp only
 clear hE h h2
 generalize lead y.S c.a (!(bit c.flag 2 && bit c.flag 3))=r at *
 by_cases a1:r.2=2∧r.1.2.1≠e0∧bit c.flag 2=true
 ·rw [if_pos a1,if_pos a1]
  by_cases a2:pd c.a=true
  ·rw [if_pos a2,if_pos a2]
   exact ⟨fun _=>⟨rfl,rfl⟩,fun e=>absurd e (show ¬ ((21:Int)=0) by decide)⟩
  ·rw [if_neg a2,if_neg a2]
   have k1:=hmk r.1.1 r.1.2.1
   have k2:=hme r.1.1 r.1.2.1
   generalize y.S.make r.1.1 r.1.2.1 1 e0=mm at *
   refine ⟨fun e=>?_,fun e=>?_⟩
   ·exact ⟨if_pos e,k2 e⟩
   ·refine ⟨k1 e,?_⟩
    rw [if_neg (fun k=>k e)]
    unfold openIno
    dsimp only
    rw [k1 e,if_neg (by decide),if_neg (by decide)]
 ·rw [if_neg a1,if_neg a1]
  by_cases a2:r.2=0
  ·have n2:¬ (r.2≠0):=fun e=>e a2
   rw [if_neg n2,if_neg n2]
   by_cases a3:(bit c.flag 2 && bit c.flag 3)=true
   ·rw [if_pos a3,if_pos a3]
    exact ⟨fun _=>⟨rfl,rfl⟩,fun e=>absurd e (show ¬ ((17:Int)=0) by decide)⟩
   ·rw [if_neg a3,if_neg a3]
    have ht:=hth a2
    unfold openIno
    by_cases a4:y.S.kindOf r.1.2.2=2
    ·rw [if_pos a4,if_pos a4]
     exact ⟨fun _=>⟨rfl,rfl⟩,fun e=>absurd e (show ¬ ((21:Int)=0) by decide)⟩
    ·rw [if_neg a4,if_neg a4]
     by_cases a5:y.S.kindOf r.1.2.2=3
     ·rw [if_pos a5,if_pos a5]
      exact ⟨fun _=>⟨rfl,rfl⟩,fun e=>absurd e (show ¬ ((40:Int)=0) by decide)⟩
     ·rw [if_neg a5,if_neg a5]
      exact ⟨fun e=>absurd rfl e,fun _=>⟨kind_file hh ht a4 a5,rfl⟩⟩
  ·rw [if_pos a2,if_pos a2]
   exact ⟨fun _=>⟨rfl,rfl⟩,fun e=>absurd e a2⟩
theorem cut_kind {S:BS} {i:Int} (h:S.kindOf i=1):(S.cutI i 0).2.kindOf i=1:=by
 have hf:S.fileE i=0:=by unfold BS.fileE;rw [h];rfl
 obtain ⟨I,rfl,i1,i2,hk⟩:=br.fileE_ok hf
 have e:(S.cutI (I:Int) 0).2.ino I={ S.at (I:Int) with body:=bl.cut (S.at (I:Int)).body 0 }:=by
  unfold BS.cutI
  rw [if_neg (fun k=>k hf)]
  exact br.upd_same _ _ _
 have e2:((S.cutI (I:Int) 0).2.at (I:Int)).kind=1:=by
  rw [br.at_nat,e]
  show (S.at (I:Int)).kind=1
  rw [br.at_nat];exact hk
 unfold BS.kindOf
 have:(S.cutI (I:Int) 0).2.isI (I:Int)=true:=by
  unfold BS.isI;exact decide_eq_true ⟨by omega,by omega,by rw [e2];decide⟩
 rw [this,if_pos rfl];exact e2
theorem da_none (w:World) (i f:Int):DA w none 0 0 ⟨i,f,0,false,[],0⟩:=⟨rfl,⟨Nat.le_refl _,by unfold maxLen;omega⟩,fun hn=>absurd hn (Nat.lt_irrefl 0)⟩
theorem m_open {w0 w:World} {P B Q room T:Nat} {X:Nat→Prop} {y:Sy} (h:SyX w0 w P B Q X y room T) (hT:T≤990) (hh:Hd room y) (c:Cal) :
  Calls Tryz.prog 60 #[Pq P,CV c] w (ME w0 w P B Q X room (T+3) (fun r y'=>(r,y')=doOpen y c)):=by
 obtain ⟨co,cf,cl,cn,cx,ca,cb⟩:=c
 have hhR:=Lib.hid h
 have HH:=Lib.hid hh
 unfold CV
 dsimp only
 obtain ⟨g,b,w1,w2,hg,hw1,hb,hw2,HG2,HR2,HQ,H2⟩:=m_entry h co cf cl cn cx ca cb
 have HD:=Lib.hid (me_done (w0:=w0) (w:=w) (P:=P) (B:=B) (Q:=Q) (X:=X) (room:=room) (T:=T+3) (rel:=fun r y'=>(r,y')=doOpen y ⟨co,cf,cl,cn,cx,ca,cb⟩))
 have HT:=Lib.hid hT
 obtain ⟨c0,c1,c2,c3,c4,c5,c6⟩:=HG2.out.seven
 unfold ME
 clear h hT hh
 have HOP:=Lib.hid (show Calls Tryz.prog 113 #[.int .i64 cl] w2 (fun e w'=>e=.returned (.bool (opensB cl))∧w2=w') from (opens_any cl w2).mono fun _ _ h=>⟨h.1,h.2.symm⟩)
 have HFU:=Lib.hid (show Calls Tryz.prog 114 #[Pq Q] w2 (fun e w'=>e=.returned (.bool (full y.T))∧w2=w') from (p_full H2.out.sy).mono fun _ _ h=>⟨h.1,h.2.symm⟩)
 have k1:=H2.out.c1
 cases hop:opensB cl with
 | false =>
  have HF:=Lib.hid (open_bad (y:=y) (c:=⟨co,cf,cl,cn,cx,ca,cb⟩) hop)
  generalize doOpen y ⟨co,cf,cl,cn,cx,ca,cb⟩=dd at *
  rw [hop] at HOP
  clear hop HFU
  go_enter Tryz.func60,Tryz.ntmps60
  go_wp2_with fail
  refine HOP.out.mono ?_
  rintro _ w3 ⟨rfl,rfl⟩
  clear k1 c0 c1 c2 c3 c4 c5 c6
  go_wp2_with fail
  refine (failed_any (22) w2).mono ?_
  rintro _ w7 ⟨rfl,hb7⟩
  have H7:=Lib.hid ((H2.out).below hb7)
  have HR7:=Lib.hid ((HR2.out).below hb7)
  obtain ⟨x0,x1,x2,x3,x4,x5⟩:=HR7.out.six
  obtain ⟨y0,y1,y2,y3,y4,y5⟩:=HR7.out.z6
  clear hb7 
  go_wp2_with fail
  refine bodyPost_ret (results_cell1 rfl _ _ b _ _ rfl (set6r HR7.out _ _ _ _ _ _).range Tryz.underlying39 (by rfl) (by rfl)) rfl ?_
  exact HD.out _ _ _ (HF.out.symm) ((H7.out.set6 HQ.out.2.1.1 HQ.out.2.1.2 _ _ _ _ _ _).up (by omega:T≤T+3)).done
 | true =>
 rw [hop] at HOP
 cases hfu:full y.T with
 | true =>
  have HF:=Lib.hid (open_full (y:=y) (c:=⟨co,cf,cl,cn,cx,ca,cb⟩) hop hfu)
  generalize doOpen y ⟨co,cf,cl,cn,cx,ca,cb⟩=dd at *
  rw [hfu] at HFU
  clear hop hfu
  go_enter Tryz.func60,Tryz.ntmps60
  go_wp2_with fail
  refine HOP.out.mono ?_
  rintro _ w3 ⟨rfl,rfl⟩
  go_wp2_with fail
  refine HFU.out.mono ?_
  rintro _ w3 ⟨rfl,rfl⟩
  clear k1 c0 c1 c2 c3 c4 c5 c6
  go_wp2_with fail
  refine (failed_any (24) w2).mono ?_
  rintro _ w7 ⟨rfl,hb7⟩
  have H7:=Lib.hid ((H2.out).below hb7)
  have HR7:=Lib.hid ((HR2.out).below hb7)
  obtain ⟨x0,x1,x2,x3,x4,x5⟩:=HR7.out.six
  obtain ⟨y0,y1,y2,y3,y4,y5⟩:=HR7.out.z6
  clear hb7 
  go_wp2_with fail
  refine bodyPost_ret (results_cell1 rfl _ _ b _ _ rfl (set6r HR7.out _ _ _ _ _ _).range Tryz.underlying39 (by rfl) (by rfl)) rfl ?_
  exact HD.out _ _ _ (HF.out.symm) ((H7.out.set6 HQ.out.2.1.1 HQ.out.2.1.2 _ _ _ _ _ _).up (by omega:T≤T+3)).done
 | false =>
 rw [hfu] at HFU
 have HTO:=Lib.hid (toOpen_any H2.out.sy (by have:=HT.out;omega) ca cl)
 have HOT:=Lib.hid (open_to HH.out (c:=⟨co,cf,cl,cn,cx,ca,cb⟩) hop hfu)
 dsimp only at HOT
 have HLO:=Lib.hid (low_ok hfu)
 clear hop hfu
 generalize doOpen y ⟨co,cf,cl,cn,cx,ca,cb⟩=dd at *
 unfold StepE at HTO
 generalize toOpenR y.S ca cl=tr_ at *
 obtain ⟨⟨oi,oe⟩,S1⟩:=tr_
 dsimp only at HTO HOT
 have TOP:=HT.out
 by_cases he:oe=0
 case neg =>
  have HF:=Lib.hid (HOT.out.1 he)
  have qe:(oe != 0)=true:=by simpa using he
  have hS1:=HF.out.2
  subst hS1
  clear he HOT
  go_enter Tryz.func60,Tryz.ntmps60
  go_wp2_with fail
  refine HOP.out.mono ?_
  rintro _ w3 ⟨rfl,rfl⟩
  go_wp2_with fail
  refine HFU.out.mono ?_
  rintro _ w3 ⟨rfl,rfl⟩
  go_wp2_with fail
  refine HTO.out.mono ?_
  rintro _ w4 ⟨rfl,l1,l2⟩
  have H4:=Lib.hid (H2.out.move l1 l2)
  have HR4:=Lib.hid (HR2.out.keep l2 HQ.out.2.1.1 HQ.out.2.1.2 l1)
  clear l1 l2 k1 c0 c1 c2 c3 c4 c5 c6
  go_wp2_with fail
  refine (failed_any (oe) w4).mono ?_
  rintro _ w7 ⟨rfl,hb7⟩
  have H7:=Lib.hid ((H4.out).below hb7)
  have HR7:=Lib.hid ((HR4.out).below hb7)
  obtain ⟨x0,x1,x2,x3,x4,x5⟩:=HR7.out.six
  obtain ⟨y0,y1,y2,y3,y4,y5⟩:=HR7.out.z6
  clear hb7 
  go_wp2_with fail
  refine bodyPost_ret (results_cell1 rfl _ _ b _ _ rfl (set6r HR7.out _ _ _ _ _ _).range Tryz.underlying39 (by rfl) (by rfl)) rfl ?_
  exact HD.out _ _ _ (HF.out.1.symm) ((H7.out.set6 HQ.out.2.1.1 HQ.out.2.1.2 _ _ _ _ _ _).up (by omega:T+1≤T+3)).done
 subst he
 obtain ⟨hk1,hF⟩:=HOT.out.2 rfl
 have hb4:=bit_4 cl
 cases hc4:bit cl 4 with
 | true =>
  rw [hc4] at hb4
  rw [hc4,if_pos rfl] at hF
  have HF:=Lib.hid hF
  have HCR:=Lib.hid (cut0_ok hk1)
  have HHO:=Lib.hid (hold_ok (there_of (by rw [cut_kind hk1];decide:(S1.cutI oi 0).2.kindOf oi≠0)))
  clear hF hc4 hk1 HOT
  go_enter Tryz.func60,Tryz.ntmps60
  go_wp2_with fail
  refine HOP.out.mono ?_
  rintro _ w3 ⟨rfl,rfl⟩
  go_wp2_with fail
  refine HFU.out.mono ?_
  rintro _ w3 ⟨rfl,rfl⟩
  go_wp2_with fail
  refine HTO.out.mono ?_
  rintro _ w4 ⟨rfl,l1,l2⟩
  have H4:=Lib.hid (H2.out.move l1 l2)
  have HR4:=Lib.hid (HR2.out.keep l2 HQ.out.2.1.1 HQ.out.2.1.2 l1)
  have HG4:=Lib.hid (HG2.out.keep l2 HQ.out.1.1 HQ.out.1.2 l1)
  clear l1 l2 k1 c0 c1 c2 c3 c4 c5 c6
  obtain ⟨c0,c1,c2,c3,c4,c5,c6⟩:=HG4.out.seven
  have k0:=H4.out.c0
  have HCU:=Lib.hid (p_cut H4.out.sy oi 0)
  unfold StepE at HCU
  rw [HCR.out] at HCU
  dsimp only at HCU
  generalize (S1.cutI oi 0).2=S2 at *
  go_wp2_with fail
  refine HCU.out.mono ?_
  rintro _ w5 ⟨rfl,l1,l2⟩
  have H5:=Lib.hid (H4.out.move l1 l2)
  have HR5:=Lib.hid (HR4.out.keep l2 HQ.out.2.1.1 HQ.out.2.1.2 l1)
  have HG5:=Lib.hid (HG4.out.keep l2 HQ.out.1.1 HQ.out.1.2 l1)
  clear l1 l2 k0 c0 c1 c2 c3 c4 c5 c6
  obtain ⟨c0,c1,c2,c3,c4,c5,c6⟩:=HG5.out.seven
  have HHA:=Lib.hid (hand_any H5.out.sy (by have:=HT.out;omega) (da_none w5 oi cl) (fun hn=>absurd hn (Nat.lt_irrefl 0)) (Nat.zero_le _) HHO.out)
  unfold StepE DV at HHA
  dsimp only at HHA
  rw [HLO.out] at HHA
  have hf:=HF.out
  unfold opened at hf
  dsimp only at hf
  have HF2:=Lib.hid hf
  clear hf HF
  generalize (lowV y.T).1=lv at *
  generalize openT y.T ⟨oi,cl,0,false,[],0⟩=T' at *
  generalize (S2.hold oi).2=S3 at *
  go_wp2_with fail
  refine HHA.out.mono ?_
  rintro _ w6 ⟨rfl,l1,l2⟩
  have H6:=Lib.hid (H5.out.move l1 l2)
  have HR6:=Lib.hid (HR5.out.keep l2 HQ.out.2.1.1 HQ.out.2.1.2 l1)
  clear l1 l2 c0 c1 c2 c3 c4 c5 c6
  obtain ⟨x0,x1,x2,x3,x4,x5⟩:=HR6.out.six
  obtain ⟨y0,y1,y2,y3,y4,y5⟩:=HR6.out.z6
  go_wp2_with fail
  refine bodyPost_ret (results_cell1 rfl _ _ b _ _ rfl (set6r HR6.out _ _ _ _ _ _).range Tryz.underlying39 (by rfl) (by rfl)) rfl ?_
  exact HD.out _ _ _ (HF2.out.symm) ((H6.out.set6 HQ.out.2.1.1 HQ.out.2.1.2 _ _ _ _ _ _).up (by omega:T+1+1+1≤T+3)).done
 | false =>
  rw [hc4] at hb4
  rw [hc4,if_neg (by decide)] at hF
  have HF:=Lib.hid hF
  have HHO:=Lib.hid (hold_ok (there_of (by rw [hk1];decide:S1.kindOf oi≠0)))
  clear hF hc4 hk1 HOT
  go_enter Tryz.func60,Tryz.ntmps60
  go_wp2_with fail
  refine HOP.out.mono ?_
  rintro _ w3 ⟨rfl,rfl⟩
  go_wp2_with fail
  refine HFU.out.mono ?_
  rintro _ w3 ⟨rfl,rfl⟩
  go_wp2_with fail
  refine HTO.out.mono ?_
  rintro _ w5 ⟨rfl,l1,l2⟩
  have H5:=Lib.hid (H2.out.move l1 l2)
  have HR5:=Lib.hid (HR2.out.keep l2 HQ.out.2.1.1 HQ.out.2.1.2 l1)
  have HG5:=Lib.hid (HG2.out.keep l2 HQ.out.1.1 HQ.out.1.2 l1)
  clear l1 l2 k1 c0 c1 c2 c3 c4 c5 c6
  obtain ⟨c0,c1,c2,c3,c4,c5,c6⟩:=HG5.out.seven
  have HHA:=Lib.hid (hand_any H5.out.sy (by have:=HT.out;omega) (da_none w5 oi cl) (fun hn=>absurd hn (Nat.lt_irrefl 0)) (Nat.zero_le _) HHO.out)
  unfold StepE DV at HHA
  dsimp only at HHA
  rw [HLO.out] at HHA
  have hf:=HF.out
  unfold opened at hf
  dsimp only at hf
  have HF2:=Lib.hid hf
  clear hf HF
  generalize (lowV y.T).1=lv at *
  generalize openT y.T ⟨oi,cl,0,false,[],0⟩=T' at *
  generalize (S1.hold oi).2=S3 at *
  go_wp2_with fail
  refine HHA.out.mono ?_
  rintro _ w6 ⟨rfl,l1,l2⟩
  have H6:=Lib.hid (H5.out.move l1 l2)
  have HR6:=Lib.hid (HR5.out.keep l2 HQ.out.2.1.1 HQ.out.2.1.2 l1)
  clear l1 l2 c0 c1 c2 c3 c4 c5 c6
  obtain ⟨x0,x1,x2,x3,x4,x5⟩:=HR6.out.six
  obtain ⟨y0,y1,y2,y3,y4,y5⟩:=HR6.out.z6
  go_wp2_with fail
  refine bodyPost_ret (results_cell1 rfl _ _ b _ _ rfl (set6r HR6.out _ _ _ _ _ _).range Tryz.underlying39 (by rfl) (by rfl)) rfl ?_
  exact HD.out _ _ _ (HF2.out.symm) ((H6.out.set6 HQ.out.2.1.1 HQ.out.2.1.2 _ _ _ _ _ _).up (by omega:T+1+1≤T+3)).done
end Go.Proofs.YtpmpbmjjlccbbaaGreat.tr
