/- Part 51 of what is known of the program's functions and of the document's words: contracts, and the mathematics beneath them. -/
import Derived.Test.YtpmpbmjjlccbbaaGreatProg
import Derived.Test.YtpmpbmjjlccbbaaGreatZ50
set_option linter.unusedVariables false
set_option linter.unusedSimpArgs false
set_option maxRecDepth 100000
set_option maxHeartbeats 8000000
namespace Go.Proofs.YtpmpbmjjlccbbaaGreat.tr
open Go.RowKit
open br (BS Inv Ino)
open cb (BrX RetW RetI)
open bl (Pq)
open wk (walkT pe pn pd e0 r0 dot1 dot2)
open ds (De Tb DA DV DL GetE StE IntsE lowV openT getV errV setT closeT full allT dz)
open pa (Bs Sv Strs Own own_form info9 own_base)
theorem m_rename {w0 w:World} {P B Q room T:Nat} {X:Nat→Prop} {y:Sy} (h:SyX w0 w P B Q X y room T) (hT:T≤990) (hh:Hd room y) (c:Cal) :
  Calls Tryz.prog 76 #[Pq P,CV c] w (ME w0 w P B Q X room (T+3) (fun r y'=>(r,y')=doRename y c)):=by
 obtain ⟨co,cf,cl,cn,cx,ca,cb⟩:=c
 have hhR:=Lib.hid h
 have HH:=Lib.hid hh
 unfold CV
 dsimp only
 obtain ⟨g,b,w1,w2,hg,hw1,hb,hw2,HG2,HR2,HQ,H2⟩:=m_entry h co cf cl cn cx ca cb
 have HD:=Lib.hid (me_done (w0:=w0) (w:=w) (P:=P) (B:=B) (Q:=Q) (X:=X) (room:=room) (T:=T+3) (rel:=fun r y'=>(r,y')=doRename y ⟨co,cf,cl,cn,cx,ca,cb⟩))
 have HT:=Lib.hid hT
 obtain ⟨c0,c1,c2,c3,c4,c5,c6⟩:=HG2.out.seven
 unfold ME
 clear h hT hh
 have HC:=Lib.hid (place_any H2.out.sy ca 16 (by decide))
 have HF:=Lib.hid (show doRename y ⟨co,cf,cl,cn,cx,ca,cb⟩=if placeE y.S ca 16≠0 then (wrong (placeE y.S ca 16),y) else if placeE y.S cb 16≠0 then (wrong (placeE y.S cb 16),y)
  else if (y.S.get (placeD y.S ca) (placeN ca)).2≠0 then (wrong (y.S.get (placeD y.S ca) (placeN ca)).2,y)
  else if (pd ca=true∨pd cb=true)∧y.S.kindOf (y.S.get (placeD y.S ca) (placeN ca)).1≠2 then (wrong 20,y)
  else (wrong (y.S.rename (placeD y.S ca) (placeN ca) (placeD y.S cb) (placeN cb)).1,⟨(y.S.rename (placeD y.S ca) (placeN ca) (placeD y.S cb) (placeN cb)).2,y.T⟩) from rfl)
 unfold RetW placeV at HC
 have HSZ:=Lib.hid (placeN_sz cb)
 generalize doRename y ⟨co,cf,cl,cn,cx,ca,cb⟩=dd at *
 by_cases he:placeE y.S ca 16=0
 case neg =>
  rw [if_neg he] at HC
  rw [if_pos he] at HF
  generalize placeE y.S ca 16=er at *
  have qe:(er != 0)=true:=by simpa using he
  clear he
  go_enter Tryz.func76,Tryz.ntmps76
  go_wp2_with fail
  refine HC.out.mono ?_
  rintro _ w3 ⟨rfl,hb3⟩
  have H4:=Lib.hid (fun ob=>H2.out.grow (bel_step hb3 (bel_alloc w3 ob)) rfl)
  have HR4:=Lib.hid (fun ob=>HR2.out.below (bel_step hb3 (bel_alloc w3 ob)))
  have HQB:=Lib.hid (fun ob=>(show b<(w3.alloc ob).heap.size by have h1:=HQ.out;have h3:=hb3.size;rw [World.size_alloc];omega))
  clear hb3 c0 c1 c2 c3 c4 c5 c6
  go_wp2_with fail
  refine (failed_any (er) _).mono ?_
  rintro _ w7 ⟨rfl,hb7⟩
  have H7:=Lib.hid ((H4.out _).below hb7)
  have HR7:=Lib.hid ((HR4.out _).below hb7)
  obtain ⟨x0,x1,x2,x3,x4,x5⟩:=HR7.out.six
  obtain ⟨y0,y1,y2,y3,y4,y5⟩:=HR7.out.z6
  clear hb7 
  go_wp2_with fail
  refine bodyPost_ret (results_cell1 rfl _ _ b _ _ rfl (set6r HR7.out _ _ _ _ _ _).range Tryz.underlying39 (by rfl) (by rfl)) rfl ?_
  exact HD.out _ _ _ (HF.out.symm) ((H7.out.set6 HQ.out.2.1.1 (HQB.out _) _ _ _ _ _ _).up (by omega:T≤T+3)).done
 rw [if_pos he] at HC
 rw [if_neg (fun e=>e he)] at HF
 clear he
 generalize placeD y.S ca=pi at *
 generalize placeN ca=pnm at *
 obtain ⟨pa_,hpa⟩:∃ pa_,pd ca=pa_:=⟨_,rfl⟩
 rw [hpa] at HC HF
 clear hpa
 go_enter Tryz.func76,Tryz.ntmps76
 go_wp2_with fail
 refine HC.out.mono ?_
 rintro _ w3 ⟨rfl,hb3⟩
 obtain ⟨w4,hw4⟩:∃ w4,w3.alloc (.cells #[.int .i64 pi,.string pnm,.bool pa_] 189)=w4:=⟨_,rfl⟩
 obtain ⟨g4,hg4⟩:∃ g4,w3.heap.size=g4:=⟨_,rfl⟩
 have hb34:Below w3.heap.size w3 w4:=by rw [← hw4];exact bel_alloc w3 _
 have hb4:=bel_step hb3 hb34
 have HP4:=Lib.hid (show Rw w4 g4 [.int .i64 pi,.string pnm,.bool pa_] by rw [← hw4,← hg4];exact Rw.new w3 [.int .i64 pi,.string pnm,.bool pa_] 189)
 have H4:=Lib.hid (H2.out.grow hb4 rfl)
 have HG4:=Lib.hid (HG2.out.below hb4)
 have HR4:=Lib.hid (HR2.out.below hb4)
 have HN4:=Lib.hid (show w2.heap.size≤w4.heap.size from hb4.size)
 have HQ4:=Lib.hid (show (w.heap.size≤g4∧g4<w4.heap.size)∧g4≠b by
  have h1:=HQ.out;have h5:=H2.out.wn;have h2:=HP4.out.lt;have h3:=hb3.size;omega)
 have HQB:=Lib.hid (show b<w4.heap.size by have h1:=HQ.out;have h2:=HN4.out;omega)
 have HQG:=Lib.hid (show g<w4.heap.size by have h1:=HQ.out;have h6:=HQ.out;have h2:=HN4.out;have h7:=HG4.out.lt;omega)
 clear hb3 hb34 hb4
 have HC:=Lib.hid (place_any H4.out.sy cb 16 (by decide))
 unfold RetW placeV at HC
 clear c0 c1 c2 c3 c4 c5 c6
 obtain ⟨c0,c1,c2,c3,c4,c5,c6⟩:=HG4.out.seven
 by_cases he:placeE y.S cb 16=0
 case neg =>
  rw [if_neg he] at HC
  rw [if_pos he] at HF
  generalize placeE y.S cb 16=er at *
  have qe:(er != 0)=true:=by simpa using he
  clear he
  go_wp2_with fail
  refine HC.out.mono ?_
  rintro _ w3 ⟨rfl,hb3⟩
  have H6:=Lib.hid (fun ob=>H4.out.grow (bel_step hb3 (bel_alloc w3 ob)) rfl)
  have HR6:=Lib.hid (fun ob=>HR4.out.below (bel_step hb3 (bel_alloc w3 ob)))
  have HQB':=Lib.hid (fun ob=>(show b<(w3.alloc ob).heap.size by have h1:=HQB.out;have h3:=hb3.size;rw [World.size_alloc];omega))
  clear hb3
  go_wp2_with fail
  refine (failed_any (er) _).mono ?_
  rintro _ w7 ⟨rfl,hb7⟩
  have H7:=Lib.hid ((H6.out _).below hb7)
  have HR7:=Lib.hid ((HR6.out _).below hb7)
  obtain ⟨x0,x1,x2,x3,x4,x5⟩:=HR7.out.six
  obtain ⟨y0,y1,y2,y3,y4,y5⟩:=HR7.out.z6
  clear hb7 
  go_wp2_with fail
  refine bodyPost_ret (results_cell1 rfl _ _ b _ _ rfl (set6r HR7.out _ _ _ _ _ _).range Tryz.underlying39 (by rfl) (by rfl)) rfl ?_
  exact HD.out _ _ _ (HF.out.symm) ((H7.out.set6 HQ.out.2.1.1 (HQB'.out _) _ _ _ _ _ _).up (by omega:T≤T+3)).done
 rw [if_pos he] at HC
 rw [if_neg (fun e=>e he)] at HF
 clear he
 generalize placeD y.S cb=qi at *
 generalize placeN cb=qnm at *
 obtain ⟨pb_,hpb⟩:∃ pb_,pd cb=pb_:=⟨_,rfl⟩
 rw [hpb] at HC HF
 clear hpb
 go_wp2_with fail
 refine HC.out.mono ?_
 rintro _ w3 ⟨rfl,hb3⟩
 obtain ⟨w5,hw5⟩:∃ w5,w3.alloc (.cells #[.int .i64 qi,.string qnm,.bool pb_] 189)=w5:=⟨_,rfl⟩
 obtain ⟨g5,hg5⟩:∃ g5,w3.heap.size=g5:=⟨_,rfl⟩
 have hb34:Below w3.heap.size w3 w5:=by rw [← hw5];exact bel_alloc w3 _
 have hb5:=bel_step hb3 hb34
 have HP5:=Lib.hid (show Rw w5 g5 [.int .i64 qi,.string qnm,.bool pb_] by rw [← hw5,← hg5];exact Rw.new w3 [.int .i64 qi,.string qnm,.bool pb_] 189)
 have H5:=Lib.hid (H4.out.grow hb5 rfl)
 have HG5:=Lib.hid (HG4.out.below hb5)
 have HR5:=Lib.hid (HR4.out.below hb5)
 have HPa5:=Lib.hid (HP4.out.below hb5)
 have HN5:=Lib.hid (show w4.heap.size≤w5.heap.size from hb5.size)
 have HQ5:=Lib.hid (show (w.heap.size≤g5∧g5<w5.heap.size)∧g5≠b by
  have h1:=HQB.out;have h8:=HQ.out;have h5:=H4.out.wn;have h2:=HP5.out.lt;have h3:=hb3.size;omega)
 have HQB:=Lib.hid (show b<w5.heap.size by have h1:=HQB.out;have h8:=HQ.out;have h2:=HN5.out;omega)
 have HQG:=Lib.hid (show g<w5.heap.size by have h1:=HQB.out;have h8:=HQ.out;have h6:=HQ.out;have h2:=HN5.out;have h7:=HG5.out.lt;omega)
 clear hb3 hb34 hb5
 have HQa:=Lib.hid (show (w.heap.size≤g4∧g4<w5.heap.size)∧g4≠b from ⟨⟨HQ4.out.1.1,HPa5.out.lt⟩,HQ4.out.2⟩)
 have H5d:=Lib.hid (H5.out.below (Below.refl w5.heap.size w5).drew)
 have HGT:=Lib.hid (p_get2 H5d.out.sy pi pnm)
 unfold RetW at HGT
 generalize y.S.get pi pnm=gv at *
 obtain ⟨gi,ge⟩:=gv
 dsimp only at HGT HF
 have k0:=H5.out.c0
 have t0:=HPa5.out.c 0 _ rfl
 have t1:=HPa5.out.c 1 _ rfl
 clear c0 c1 c2 c3 c4 c5 c6
 by_cases hge:ge=0
 case neg =>
  rw [if_pos hge] at HF
  have qe:(ge != 0)=true:=by simpa using hge
  clear hge
  go_wp2_with fail
  go_region_held3 (fun w'=>w'.cell? ⟨P,0,none⟩=some (Pq B)∧w'.cell? ⟨g4,0,none⟩=some (.int .i64 pi)∧w'.cell? ⟨g4,1,none⟩=some (.string pnm))
   (first|with_reducible exact ⟨k0,t0,t1⟩|with_reducible exact S8|assumption|go_keep)
   (first|(go_at_call 136;((with_reducible refine HGT.out.mono ?_);rintro _ w8 ⟨rfl,hb8⟩;have hb8':=((Below.refl w5.heap.size w5).drew).trans hb8;have H8:=Lib.hid (H5.out.below hb8');have HR8:=Lib.hid (HR5.out.below hb8');have HPa8:=Lib.hid (HPa5.out.below hb8');have HP8:=Lib.hid (HP5.out.below hb8');have S8:w8.cell? ⟨P,0,none⟩=some (Pq B)∧w8.cell? ⟨g4,0,none⟩=some (.int .i64 pi)∧w8.cell? ⟨g4,1,none⟩=some (.string pnm):=⟨H8.out.c0,HPa8.out.c 0 _ rfl,HPa8.out.c 1 _ rfl⟩;clear hb8 hb8')))
  all_goals
   clear k0 t0 t1 S8
   go_wp2_with fail
   refine (failed_any (ge) w8).mono ?_
   rintro _ w7 ⟨rfl,hb7⟩
   have H7:=Lib.hid ((H8.out).below hb7)
   have HR7:=Lib.hid ((HR8.out).below hb7)
   obtain ⟨x0,x1,x2,x3,x4,x5⟩:=HR7.out.six
   obtain ⟨y0,y1,y2,y3,y4,y5⟩:=HR7.out.z6
   clear hb7 
   go_wp2_with fail
   refine bodyPost_ret (results_cell1 rfl _ _ b _ _ rfl (set6r HR7.out _ _ _ _ _ _).range Tryz.underlying39 (by rfl) (by rfl)) rfl ?_
   exact HD.out _ _ _ (HF.out.symm) ((H7.out.set6 HQ.out.2.1.1 HQB.out _ _ _ _ _ _).up (by omega:T≤T+3)).done
 subst hge
 rw [if_neg (fun e=>e rfl)] at HF
 have HKI:=Lib.hid (fun W (hs:SyX w0 W P B Q (fun b=>X b∨(w.heap.size≤b∧b<w5.heap.size)) y room T)=>p_kind hs gi)
 unfold RetI at HKI
 generalize y.S.kindOf gi=kk at *
 obtain ⟨za,hza⟩:∃ z,pa_=z:=⟨_,rfl⟩
 have HPA:=Lib.hid hza
 rw [hza] at HF
 clear hza
 cases za with
 | true =>
  by_cases hk:kk=2
  case neg =>
   rw [if_pos ⟨Or.inl rfl,hk⟩] at HF
   have qk:(kk != 2)=true:=by simpa using hk
   clear hk
   go_wp2_with fail
   go_region_held3 (fun w'=>w'.cell? ⟨P,0,none⟩=some (Pq B)∧w'.cell? ⟨g4,0,none⟩=some (.int .i64 pi)∧w'.cell? ⟨g4,1,none⟩=some (.string pnm))
    (first|with_reducible exact ⟨k0,t0,t1⟩|with_reducible exact S8|assumption|go_keep)
    (first|(go_at_call 136;((with_reducible refine HGT.out.mono ?_);rintro _ w8 ⟨rfl,hb8⟩;have hb8':=((Below.refl w5.heap.size w5).drew).trans hb8;have H8:=Lib.hid (H5.out.below hb8');have HR8:=Lib.hid (HR5.out.below hb8');have HPa8:=Lib.hid (HPa5.out.below hb8');have HP8:=Lib.hid (HP5.out.below hb8');have S8:w8.cell? ⟨P,0,none⟩=some (Pq B)∧w8.cell? ⟨g4,0,none⟩=some (.int .i64 pi)∧w8.cell? ⟨g4,1,none⟩=some (.string pnm):=⟨H8.out.c0,HPa8.out.c 0 _ rfl,HPa8.out.c 1 _ rfl⟩;clear hb8 hb8')))
   all_goals
    clear k0 t0 t1 S8
    have t2:w8.cell? ⟨g4,2,none⟩=some (.bool true):=by have:=HPa8.out.c 2 _ rfl;rw [HPA.out] at this;exact this
    have k9:=H8.out.c0
    go_wp2_with fail
    refine (HKI.out _ H8.out.sy).mono ?_
    rintro _ w10 ⟨rfl,hb10⟩
    have H10:=Lib.hid (H8.out.below hb10)
    have HR10:=Lib.hid (HR8.out.below hb10)
    have HPa10:=Lib.hid (HPa8.out.below hb10)
    have HP10:=Lib.hid (HP8.out.below hb10)
    clear hb10 k9 t2
    go_wp2_with fail
    refine (failed_any (20) w10).mono ?_
    rintro _ w7 ⟨rfl,hb7⟩
    have H7:=Lib.hid ((H10.out).below hb7)
    have HR7:=Lib.hid ((HR10.out).below hb7)
    obtain ⟨x0,x1,x2,x3,x4,x5⟩:=HR7.out.six
    obtain ⟨y0,y1,y2,y3,y4,y5⟩:=HR7.out.z6
    clear hb7 
    go_wp2_with fail
    refine bodyPost_ret (results_cell1 rfl _ _ b _ _ rfl (set6r HR7.out _ _ _ _ _ _).range Tryz.underlying39 (by rfl) (by rfl)) rfl ?_
    exact HD.out _ _ _ (HF.out.symm) ((H7.out.set6 HQ.out.2.1.1 HQB.out _ _ _ _ _ _).up (by omega:T≤T+3)).done
  subst hk
  rw [if_neg (fun e=>e.2 rfl)] at HF
  go_wp2_with fail
  go_region_held3 (fun w'=>w'.cell? ⟨P,0,none⟩=some (Pq B)∧w'.cell? ⟨g4,0,none⟩=some (.int .i64 pi)∧w'.cell? ⟨g4,1,none⟩=some (.string pnm))
   (first|with_reducible exact ⟨k0,t0,t1⟩|with_reducible exact S8|assumption|go_keep)
   (first|(go_at_call 136;((with_reducible refine HGT.out.mono ?_);rintro _ w8 ⟨rfl,hb8⟩;have hb8':=((Below.refl w5.heap.size w5).drew).trans hb8;have H8:=Lib.hid (H5.out.below hb8');have HR8:=Lib.hid (HR5.out.below hb8');have HPa8:=Lib.hid (HPa5.out.below hb8');have HP8:=Lib.hid (HP5.out.below hb8');have S8:w8.cell? ⟨P,0,none⟩=some (Pq B)∧w8.cell? ⟨g4,0,none⟩=some (.int .i64 pi)∧w8.cell? ⟨g4,1,none⟩=some (.string pnm):=⟨H8.out.c0,HPa8.out.c 0 _ rfl,HPa8.out.c 1 _ rfl⟩;clear hb8 hb8')))
  all_goals
   clear k0 t0 t1 S8
   have t2:w8.cell? ⟨g4,2,none⟩=some (.bool true):=by have:=HPa8.out.c 2 _ rfl;rw [HPA.out] at this;exact this
   have k9:=H8.out.c0
   go_wp2_with fail
   refine (HKI.out _ H8.out.sy).mono ?_
   rintro _ w10 ⟨rfl,hb10⟩
   have H10:=Lib.hid (H8.out.below hb10)
   have HR10:=Lib.hid (HR8.out.below hb10)
   have HPa10:=Lib.hid (HPa8.out.below hb10)
   have HP10:=Lib.hid (HP8.out.below hb10)
   clear hb10 k9 t2
   have H4d:=Lib.hid (H10.out.below (Below.refl w10.heap.size w10).drew)
   have HPad:=Lib.hid (HPa10.out.below (Below.refl w10.heap.size w10).drew)
   have HPbd:=Lib.hid (HP10.out.below (Below.refl w10.heap.size w10).drew)
   have HR4d:=Lib.hid (HR10.out.below (Below.refl w10.heap.size w10).drew)
   have HM:=Lib.hid (p_rename H4d.out.sy (by have:=HT.out;omega) pi pnm qi qnm (by have:=HSZ.out;omega))
   unfold StepE at HM
   generalize (y.S.rename pi pnm qi qnm).1=re at *
   generalize (y.S.rename pi pnm qi qnm).2=S' at *
   have S0:w10.cell? ⟨P,0,none⟩=some (Pq B)∧w10.cell? ⟨g4,0,none⟩=some (.int .i64 pi)∧w10.cell? ⟨g4,1,none⟩=some (.string pnm)∧w10.cell? ⟨g5,0,none⟩=some (.int .i64 qi)∧w10.cell? ⟨g5,1,none⟩=some (.string qnm):=⟨H10.out.c0,HPa10.out.c 0 _ rfl,HPa10.out.c 1 _ rfl,HP10.out.c 0 _ rfl,HP10.out.c 1 _ rfl⟩
   go_wp2_with fail
   go_region_held3 (fun w'=>w'.cell? ⟨P,0,none⟩=some (Pq B)∧w'.cell? ⟨g4,0,none⟩=some (.int .i64 pi)∧w'.cell? ⟨g4,1,none⟩=some (.string pnm)∧w'.cell? ⟨g5,0,none⟩=some (.int .i64 qi)∧w'.cell? ⟨g5,1,none⟩=some (.string qnm))
    (first|with_reducible exact S0|with_reducible exact S8|with_reducible exact S9|with_reducible exact ST|assumption|go_keep)
    (first|(go_at_call 137;((with_reducible refine HM.out.mono ?_);rintro _ w8 ⟨rfl,k1,k2⟩;have H8:=Lib.hid (H4d.out.move k1 k2);have HR8:=Lib.hid (HR4d.out.keep k2 HQ.out.2.1.1 HQB.out k1);have HPa8:=Lib.hid (HPad.out.keep k2 HQa.out.1.1 HQa.out.1.2 k1);have HPb8:=Lib.hid (HPbd.out.keep k2 HQ5.out.1.1 HQ5.out.1.2 k1);have S8:w8.cell? ⟨P,0,none⟩=some (Pq B)∧w8.cell? ⟨g4,0,none⟩=some (.int .i64 pi)∧w8.cell? ⟨g4,1,none⟩=some (.string pnm)∧w8.cell? ⟨g5,0,none⟩=some (.int .i64 qi)∧w8.cell? ⟨g5,1,none⟩=some (.string qnm):=⟨k1.c0,(HPa8.out).c 0 _ rfl,(HPa8.out).c 1 _ rfl,(HPb8.out).c 0 _ rfl,(HPb8.out).c 1 _ rfl⟩;clear k1 k2))|(go_at_call 30;((with_reducible refine (failed_any re w8).mono ?_);rintro _ w9 ⟨rfl,hb9⟩;have H9:=Lib.hid (H8.out.below hb9);have HR9:=Lib.hid (HR8.out.below hb9);have HPa9:=Lib.hid (HPa8.out.below hb9);have HPb9:=Lib.hid (HPb8.out.below hb9);have S9:w9.cell? ⟨P,0,none⟩=some (Pq B)∧w9.cell? ⟨g4,0,none⟩=some (.int .i64 pi)∧w9.cell? ⟨g4,1,none⟩=some (.string pnm)∧w9.cell? ⟨g5,0,none⟩=some (.int .i64 qi)∧w9.cell? ⟨g5,1,none⟩=some (.string qnm):=⟨H9.out.c0,(HPa9.out).c 0 _ rfl,(HPa9.out).c 1 _ rfl,(HPb9.out).c 0 _ rfl,(HPb9.out).c 1 _ rfl⟩;obtain ⟨x0,x1,x2,x3,x4,x5⟩:=HR9.out.six;obtain ⟨y0,y1,y2,y3,y4,y5⟩:=HR9.out.z6;have ST:((((((w9.setCell ⟨b,0,none⟩ (.int .i64 re)).setCell ⟨b,1,none⟩ (.int .i64 0)).setCell ⟨b,2,none⟩ (.string ⟨#[]⟩)).setCell ⟨b,3,none⟩ (.int .i64 0)).setCell ⟨b,4,none⟩ (.int .i64 0)).setCell ⟨b,5,none⟩ (.int .i64 0)).cell? ⟨P,0,none⟩=some (Pq B)∧((((((w9.setCell ⟨b,0,none⟩ (.int .i64 re)).setCell ⟨b,1,none⟩ (.int .i64 0)).setCell ⟨b,2,none⟩ (.string ⟨#[]⟩)).setCell ⟨b,3,none⟩ (.int .i64 0)).setCell ⟨b,4,none⟩ (.int .i64 0)).setCell ⟨b,5,none⟩ (.int .i64 0)).cell? ⟨g4,0,none⟩=some (.int .i64 pi)∧((((((w9.setCell ⟨b,0,none⟩ (.int .i64 re)).setCell ⟨b,1,none⟩ (.int .i64 0)).setCell ⟨b,2,none⟩ (.string ⟨#[]⟩)).setCell ⟨b,3,none⟩ (.int .i64 0)).setCell ⟨b,4,none⟩ (.int .i64 0)).setCell ⟨b,5,none⟩ (.int .i64 0)).cell? ⟨g4,1,none⟩=some (.string pnm)∧((((((w9.setCell ⟨b,0,none⟩ (.int .i64 re)).setCell ⟨b,1,none⟩ (.int .i64 0)).setCell ⟨b,2,none⟩ (.string ⟨#[]⟩)).setCell ⟨b,3,none⟩ (.int .i64 0)).setCell ⟨b,4,none⟩ (.int .i64 0)).setCell ⟨b,5,none⟩ (.int .i64 0)).cell? ⟨g5,0,none⟩=some (.int .i64 qi)∧((((((w9.setCell ⟨b,0,none⟩ (.int .i64 re)).setCell ⟨b,1,none⟩ (.int .i64 0)).setCell ⟨b,2,none⟩ (.string ⟨#[]⟩)).setCell ⟨b,3,none⟩ (.int .i64 0)).setCell ⟨b,4,none⟩ (.int .i64 0)).setCell ⟨b,5,none⟩ (.int .i64 0)).cell? ⟨g5,1,none⟩=some (.string qnm):=⟨(H9.out.set6 (b:=b) HQ.out.2.1.1 HQB.out (.int .i64 (re)) (.int .i64 0) (.string ⟨#[]⟩) (.int .i64 0) (.int .i64 0) (.int .i64 0)).c0,(HPa9.out.other HQa.out.2).c 0 _ rfl,(HPa9.out.other HQa.out.2).c 1 _ rfl,(HPb9.out.other HQ5.out.2).c 0 _ rfl,(HPb9.out.other HQ5.out.2).c 1 _ rfl⟩;clear hb9)))
   all_goals
    clear S0 S8 S9 ST
    go_wp2_with fail
    refine bodyPost_ret (results_cell1 rfl _ _ b _ _ rfl (set6r HR9.out _ _ _ _ _ _).range Tryz.underlying39 (by rfl) (by rfl)) rfl ?_
    exact HD.out _ _ _ (HF.out.symm) ((H9.out.set6 HQ.out.2.1.1 HQB.out _ _ _ _ _ _).up (by omega:T+1≤T+3)).done
 | false =>
 obtain ⟨zb,hzb⟩:∃ z,pb_=z:=⟨_,rfl⟩
 have HPB:=Lib.hid hzb
 rw [hzb] at HF
 clear hzb
 cases zb with
 | true =>
  by_cases hk:kk=2
  case neg =>
   rw [if_pos ⟨Or.inr rfl,hk⟩] at HF
   have qk:(kk != 2)=true:=by simpa using hk
   clear hk
   go_wp2_with fail
   go_region_held3 (fun w'=>w'.cell? ⟨P,0,none⟩=some (Pq B)∧w'.cell? ⟨g4,0,none⟩=some (.int .i64 pi)∧w'.cell? ⟨g4,1,none⟩=some (.string pnm))
    (first|with_reducible exact ⟨k0,t0,t1⟩|with_reducible exact S8|assumption|go_keep)
    (first|(go_at_call 136;((with_reducible refine HGT.out.mono ?_);rintro _ w8 ⟨rfl,hb8⟩;have hb8':=((Below.refl w5.heap.size w5).drew).trans hb8;have H8:=Lib.hid (H5.out.below hb8');have HR8:=Lib.hid (HR5.out.below hb8');have HPa8:=Lib.hid (HPa5.out.below hb8');have HP8:=Lib.hid (HP5.out.below hb8');have S8:w8.cell? ⟨P,0,none⟩=some (Pq B)∧w8.cell? ⟨g4,0,none⟩=some (.int .i64 pi)∧w8.cell? ⟨g4,1,none⟩=some (.string pnm):=⟨H8.out.c0,HPa8.out.c 0 _ rfl,HPa8.out.c 1 _ rfl⟩;clear hb8 hb8')))
   all_goals
    clear k0 t0 t1 S8
    have t2:w8.cell? ⟨g4,2,none⟩=some (.bool false):=by have:=HPa8.out.c 2 _ rfl;rw [HPA.out] at this;exact this
    have s2:w8.cell? ⟨g5,2,none⟩=some (.bool true):=by have:=HP8.out.c 2 _ rfl;rw [HPB.out] at this;exact this
    have k9:=H8.out.c0
    go_wp2_with fail
    refine (HKI.out _ H8.out.sy).mono ?_
    rintro _ w10 ⟨rfl,hb10⟩
    have H10:=Lib.hid (H8.out.below hb10)
    have HR10:=Lib.hid (HR8.out.below hb10)
    have HPa10:=Lib.hid (HPa8.out.below hb10)
    have HP10:=Lib.hid (HP8.out.below hb10)
    clear hb10 k9 t2 s2
    go_wp2_with fail
    refine (failed_any (20) w10).mono ?_
    rintro _ w7 ⟨rfl,hb7⟩
    have H7:=Lib.hid ((H10.out).below hb7)
    have HR7:=Lib.hid ((HR10.out).below hb7)
    obtain ⟨x0,x1,x2,x3,x4,x5⟩:=HR7.out.six
    obtain ⟨y0,y1,y2,y3,y4,y5⟩:=HR7.out.z6
    clear hb7 
    go_wp2_with fail
    refine bodyPost_ret (results_cell1 rfl _ _ b _ _ rfl (set6r HR7.out _ _ _ _ _ _).range Tryz.underlying39 (by rfl) (by rfl)) rfl ?_
    exact HD.out _ _ _ (HF.out.symm) ((H7.out.set6 HQ.out.2.1.1 HQB.out _ _ _ _ _ _).up (by omega:T≤T+3)).done
  subst hk
  rw [if_neg (fun e=>e.2 rfl)] at HF
  go_wp2_with fail
  go_region_held3 (fun w'=>w'.cell? ⟨P,0,none⟩=some (Pq B)∧w'.cell? ⟨g4,0,none⟩=some (.int .i64 pi)∧w'.cell? ⟨g4,1,none⟩=some (.string pnm))
   (first|with_reducible exact ⟨k0,t0,t1⟩|with_reducible exact S8|assumption|go_keep)
   (first|(go_at_call 136;((with_reducible refine HGT.out.mono ?_);rintro _ w8 ⟨rfl,hb8⟩;have hb8':=((Below.refl w5.heap.size w5).drew).trans hb8;have H8:=Lib.hid (H5.out.below hb8');have HR8:=Lib.hid (HR5.out.below hb8');have HPa8:=Lib.hid (HPa5.out.below hb8');have HP8:=Lib.hid (HP5.out.below hb8');have S8:w8.cell? ⟨P,0,none⟩=some (Pq B)∧w8.cell? ⟨g4,0,none⟩=some (.int .i64 pi)∧w8.cell? ⟨g4,1,none⟩=some (.string pnm):=⟨H8.out.c0,HPa8.out.c 0 _ rfl,HPa8.out.c 1 _ rfl⟩;clear hb8 hb8')))
  all_goals
   clear k0 t0 t1 S8
   have t2:w8.cell? ⟨g4,2,none⟩=some (.bool false):=by have:=HPa8.out.c 2 _ rfl;rw [HPA.out] at this;exact this
   have s2:w8.cell? ⟨g5,2,none⟩=some (.bool true):=by have:=HP8.out.c 2 _ rfl;rw [HPB.out] at this;exact this
   have k9:=H8.out.c0
   go_wp2_with fail
   refine (HKI.out _ H8.out.sy).mono ?_
   rintro _ w10 ⟨rfl,hb10⟩
   have H10:=Lib.hid (H8.out.below hb10)
   have HR10:=Lib.hid (HR8.out.below hb10)
   have HPa10:=Lib.hid (HPa8.out.below hb10)
   have HP10:=Lib.hid (HP8.out.below hb10)
   clear hb10 k9 t2 s2
   have H4d:=Lib.hid (H10.out.below (Below.refl w10.heap.size w10).drew)
   have HPad:=Lib.hid (HPa10.out.below (Below.refl w10.heap.size w10).drew)
   have HPbd:=Lib.hid (HP10.out.below (Below.refl w10.heap.size w10).drew)
   have HR4d:=Lib.hid (HR10.out.below (Below.refl w10.heap.size w10).drew)
   have HM:=Lib.hid (p_rename H4d.out.sy (by have:=HT.out;omega) pi pnm qi qnm (by have:=HSZ.out;omega))
   unfold StepE at HM
   generalize (y.S.rename pi pnm qi qnm).1=re at *
   generalize (y.S.rename pi pnm qi qnm).2=S' at *
   have S0:w10.cell? ⟨P,0,none⟩=some (Pq B)∧w10.cell? ⟨g4,0,none⟩=some (.int .i64 pi)∧w10.cell? ⟨g4,1,none⟩=some (.string pnm)∧w10.cell? ⟨g5,0,none⟩=some (.int .i64 qi)∧w10.cell? ⟨g5,1,none⟩=some (.string qnm):=⟨H10.out.c0,HPa10.out.c 0 _ rfl,HPa10.out.c 1 _ rfl,HP10.out.c 0 _ rfl,HP10.out.c 1 _ rfl⟩
   go_wp2_with fail
   go_region_held3 (fun w'=>w'.cell? ⟨P,0,none⟩=some (Pq B)∧w'.cell? ⟨g4,0,none⟩=some (.int .i64 pi)∧w'.cell? ⟨g4,1,none⟩=some (.string pnm)∧w'.cell? ⟨g5,0,none⟩=some (.int .i64 qi)∧w'.cell? ⟨g5,1,none⟩=some (.string qnm))
    (first|with_reducible exact S0|with_reducible exact S8|with_reducible exact S9|with_reducible exact ST|assumption|go_keep)
    (first|(go_at_call 137;((with_reducible refine HM.out.mono ?_);rintro _ w8 ⟨rfl,k1,k2⟩;have H8:=Lib.hid (H4d.out.move k1 k2);have HR8:=Lib.hid (HR4d.out.keep k2 HQ.out.2.1.1 HQB.out k1);have HPa8:=Lib.hid (HPad.out.keep k2 HQa.out.1.1 HQa.out.1.2 k1);have HPb8:=Lib.hid (HPbd.out.keep k2 HQ5.out.1.1 HQ5.out.1.2 k1);have S8:w8.cell? ⟨P,0,none⟩=some (Pq B)∧w8.cell? ⟨g4,0,none⟩=some (.int .i64 pi)∧w8.cell? ⟨g4,1,none⟩=some (.string pnm)∧w8.cell? ⟨g5,0,none⟩=some (.int .i64 qi)∧w8.cell? ⟨g5,1,none⟩=some (.string qnm):=⟨k1.c0,(HPa8.out).c 0 _ rfl,(HPa8.out).c 1 _ rfl,(HPb8.out).c 0 _ rfl,(HPb8.out).c 1 _ rfl⟩;clear k1 k2))|(go_at_call 30;((with_reducible refine (failed_any re w8).mono ?_);rintro _ w9 ⟨rfl,hb9⟩;have H9:=Lib.hid (H8.out.below hb9);have HR9:=Lib.hid (HR8.out.below hb9);have HPa9:=Lib.hid (HPa8.out.below hb9);have HPb9:=Lib.hid (HPb8.out.below hb9);have S9:w9.cell? ⟨P,0,none⟩=some (Pq B)∧w9.cell? ⟨g4,0,none⟩=some (.int .i64 pi)∧w9.cell? ⟨g4,1,none⟩=some (.string pnm)∧w9.cell? ⟨g5,0,none⟩=some (.int .i64 qi)∧w9.cell? ⟨g5,1,none⟩=some (.string qnm):=⟨H9.out.c0,(HPa9.out).c 0 _ rfl,(HPa9.out).c 1 _ rfl,(HPb9.out).c 0 _ rfl,(HPb9.out).c 1 _ rfl⟩;obtain ⟨x0,x1,x2,x3,x4,x5⟩:=HR9.out.six;obtain ⟨y0,y1,y2,y3,y4,y5⟩:=HR9.out.z6;have ST:((((((w9.setCell ⟨b,0,none⟩ (.int .i64 re)).setCell ⟨b,1,none⟩ (.int .i64 0)).setCell ⟨b,2,none⟩ (.string ⟨#[]⟩)).setCell ⟨b,3,none⟩ (.int .i64 0)).setCell ⟨b,4,none⟩ (.int .i64 0)).setCell ⟨b,5,none⟩ (.int .i64 0)).cell? ⟨P,0,none⟩=some (Pq B)∧((((((w9.setCell ⟨b,0,none⟩ (.int .i64 re)).setCell ⟨b,1,none⟩ (.int .i64 0)).setCell ⟨b,2,none⟩ (.string ⟨#[]⟩)).setCell ⟨b,3,none⟩ (.int .i64 0)).setCell ⟨b,4,none⟩ (.int .i64 0)).setCell ⟨b,5,none⟩ (.int .i64 0)).cell? ⟨g4,0,none⟩=some (.int .i64 pi)∧((((((w9.setCell ⟨b,0,none⟩ (.int .i64 re)).setCell ⟨b,1,none⟩ (.int .i64 0)).setCell ⟨b,2,none⟩ (.string ⟨#[]⟩)).setCell ⟨b,3,none⟩ (.int .i64 0)).setCell ⟨b,4,none⟩ (.int .i64 0)).setCell ⟨b,5,none⟩ (.int .i64 0)).cell? ⟨g4,1,none⟩=some (.string pnm)∧((((((w9.setCell ⟨b,0,none⟩ (.int .i64 re)).setCell ⟨b,1,none⟩ (.int .i64 0)).setCell ⟨b,2,none⟩ (.string ⟨#[]⟩)).setCell ⟨b,3,none⟩ (.int .i64 0)).setCell ⟨b,4,none⟩ (.int .i64 0)).setCell ⟨b,5,none⟩ (.int .i64 0)).cell? ⟨g5,0,none⟩=some (.int .i64 qi)∧((((((w9.setCell ⟨b,0,none⟩ (.int .i64 re)).setCell ⟨b,1,none⟩ (.int .i64 0)).setCell ⟨b,2,none⟩ (.string ⟨#[]⟩)).setCell ⟨b,3,none⟩ (.int .i64 0)).setCell ⟨b,4,none⟩ (.int .i64 0)).setCell ⟨b,5,none⟩ (.int .i64 0)).cell? ⟨g5,1,none⟩=some (.string qnm):=⟨(H9.out.set6 (b:=b) HQ.out.2.1.1 HQB.out (.int .i64 (re)) (.int .i64 0) (.string ⟨#[]⟩) (.int .i64 0) (.int .i64 0) (.int .i64 0)).c0,(HPa9.out.other HQa.out.2).c 0 _ rfl,(HPa9.out.other HQa.out.2).c 1 _ rfl,(HPb9.out.other HQ5.out.2).c 0 _ rfl,(HPb9.out.other HQ5.out.2).c 1 _ rfl⟩;clear hb9)))
   all_goals
    clear S0 S8 S9 ST
    go_wp2_with fail
    refine bodyPost_ret (results_cell1 rfl _ _ b _ _ rfl (set6r HR9.out _ _ _ _ _ _).range Tryz.underlying39 (by rfl) (by rfl)) rfl ?_
    exact HD.out _ _ _ (HF.out.symm) ((H9.out.set6 HQ.out.2.1.1 HQB.out _ _ _ _ _ _).up (by omega:T+1≤T+3)).done
 | false =>
  rw [if_neg (fun e=>by rcases e.1 with e|e <;> cases e)] at HF
  go_wp2_with fail
  go_region_held3 (fun w'=>w'.cell? ⟨P,0,none⟩=some (Pq B)∧w'.cell? ⟨g4,0,none⟩=some (.int .i64 pi)∧w'.cell? ⟨g4,1,none⟩=some (.string pnm))
   (first|with_reducible exact ⟨k0,t0,t1⟩|with_reducible exact S8|assumption|go_keep)
   (first|(go_at_call 136;((with_reducible refine HGT.out.mono ?_);rintro _ w8 ⟨rfl,hb8⟩;have hb8':=((Below.refl w5.heap.size w5).drew).trans hb8;have H8:=Lib.hid (H5.out.below hb8');have HR8:=Lib.hid (HR5.out.below hb8');have HPa8:=Lib.hid (HPa5.out.below hb8');have HP8:=Lib.hid (HP5.out.below hb8');have S8:w8.cell? ⟨P,0,none⟩=some (Pq B)∧w8.cell? ⟨g4,0,none⟩=some (.int .i64 pi)∧w8.cell? ⟨g4,1,none⟩=some (.string pnm):=⟨H8.out.c0,HPa8.out.c 0 _ rfl,HPa8.out.c 1 _ rfl⟩;clear hb8 hb8')))
  all_goals
   clear k0 t0 t1 S8
   have t2:w8.cell? ⟨g4,2,none⟩=some (.bool false):=by have:=HPa8.out.c 2 _ rfl;rw [HPA.out] at this;exact this
   have s2:w8.cell? ⟨g5,2,none⟩=some (.bool false):=by have:=HP8.out.c 2 _ rfl;rw [HPB.out] at this;exact this
   have H4d:=Lib.hid (H8.out.below (Below.refl w8.heap.size w8).drew)
   have HPad:=Lib.hid (HPa8.out.below (Below.refl w8.heap.size w8).drew)
   have HPbd:=Lib.hid (HP8.out.below (Below.refl w8.heap.size w8).drew)
   have HR4d:=Lib.hid (HR8.out.below (Below.refl w8.heap.size w8).drew)
   have HM:=Lib.hid (p_rename H4d.out.sy (by have:=HT.out;omega) pi pnm qi qnm (by have:=HSZ.out;omega))
   unfold StepE at HM
   generalize (y.S.rename pi pnm qi qnm).1=re at *
   generalize (y.S.rename pi pnm qi qnm).2=S' at *
   have S0:w8.cell? ⟨P,0,none⟩=some (Pq B)∧w8.cell? ⟨g4,0,none⟩=some (.int .i64 pi)∧w8.cell? ⟨g4,1,none⟩=some (.string pnm)∧w8.cell? ⟨g5,0,none⟩=some (.int .i64 qi)∧w8.cell? ⟨g5,1,none⟩=some (.string qnm):=⟨H8.out.c0,HPa8.out.c 0 _ rfl,HPa8.out.c 1 _ rfl,HP8.out.c 0 _ rfl,HP8.out.c 1 _ rfl⟩
   go_wp2_with fail
   go_region_held3 (fun w'=>w'.cell? ⟨P,0,none⟩=some (Pq B)∧w'.cell? ⟨g4,0,none⟩=some (.int .i64 pi)∧w'.cell? ⟨g4,1,none⟩=some (.string pnm)∧w'.cell? ⟨g5,0,none⟩=some (.int .i64 qi)∧w'.cell? ⟨g5,1,none⟩=some (.string qnm))
    (first|with_reducible exact S0|with_reducible exact S8|with_reducible exact S9|with_reducible exact ST|assumption|go_keep)
    (first|(go_at_call 137;((with_reducible refine HM.out.mono ?_);rintro _ w8 ⟨rfl,k1,k2⟩;have H8:=Lib.hid (H4d.out.move k1 k2);have HR8:=Lib.hid (HR4d.out.keep k2 HQ.out.2.1.1 HQB.out k1);have HPa8:=Lib.hid (HPad.out.keep k2 HQa.out.1.1 HQa.out.1.2 k1);have HPb8:=Lib.hid (HPbd.out.keep k2 HQ5.out.1.1 HQ5.out.1.2 k1);have S8:w8.cell? ⟨P,0,none⟩=some (Pq B)∧w8.cell? ⟨g4,0,none⟩=some (.int .i64 pi)∧w8.cell? ⟨g4,1,none⟩=some (.string pnm)∧w8.cell? ⟨g5,0,none⟩=some (.int .i64 qi)∧w8.cell? ⟨g5,1,none⟩=some (.string qnm):=⟨k1.c0,(HPa8.out).c 0 _ rfl,(HPa8.out).c 1 _ rfl,(HPb8.out).c 0 _ rfl,(HPb8.out).c 1 _ rfl⟩;clear k1 k2))|(go_at_call 30;((with_reducible refine (failed_any re w8).mono ?_);rintro _ w9 ⟨rfl,hb9⟩;have H9:=Lib.hid (H8.out.below hb9);have HR9:=Lib.hid (HR8.out.below hb9);have HPa9:=Lib.hid (HPa8.out.below hb9);have HPb9:=Lib.hid (HPb8.out.below hb9);have S9:w9.cell? ⟨P,0,none⟩=some (Pq B)∧w9.cell? ⟨g4,0,none⟩=some (.int .i64 pi)∧w9.cell? ⟨g4,1,none⟩=some (.string pnm)∧w9.cell? ⟨g5,0,none⟩=some (.int .i64 qi)∧w9.cell? ⟨g5,1,none⟩=some (.string qnm):=⟨H9.out.c0,(HPa9.out).c 0 _ rfl,(HPa9.out).c 1 _ rfl,(HPb9.out).c 0 _ rfl,(HPb9.out).c 1 _ rfl⟩;obtain ⟨x0,x1,x2,x3,x4,x5⟩:=HR9.out.six;obtain ⟨y0,y1,y2,y3,y4,y5⟩:=HR9.out.z6;have ST:((((((w9.setCell ⟨b,0,none⟩ (.int .i64 re)).setCell ⟨b,1,none⟩ (.int .i64 0)).setCell ⟨b,2,none⟩ (.string ⟨#[]⟩)).setCell ⟨b,3,none⟩ (.int .i64 0)).setCell ⟨b,4,none⟩ (.int .i64 0)).setCell ⟨b,5,none⟩ (.int .i64 0)).cell? ⟨P,0,none⟩=some (Pq B)∧((((((w9.setCell ⟨b,0,none⟩ (.int .i64 re)).setCell ⟨b,1,none⟩ (.int .i64 0)).setCell ⟨b,2,none⟩ (.string ⟨#[]⟩)).setCell ⟨b,3,none⟩ (.int .i64 0)).setCell ⟨b,4,none⟩ (.int .i64 0)).setCell ⟨b,5,none⟩ (.int .i64 0)).cell? ⟨g4,0,none⟩=some (.int .i64 pi)∧((((((w9.setCell ⟨b,0,none⟩ (.int .i64 re)).setCell ⟨b,1,none⟩ (.int .i64 0)).setCell ⟨b,2,none⟩ (.string ⟨#[]⟩)).setCell ⟨b,3,none⟩ (.int .i64 0)).setCell ⟨b,4,none⟩ (.int .i64 0)).setCell ⟨b,5,none⟩ (.int .i64 0)).cell? ⟨g4,1,none⟩=some (.string pnm)∧((((((w9.setCell ⟨b,0,none⟩ (.int .i64 re)).setCell ⟨b,1,none⟩ (.int .i64 0)).setCell ⟨b,2,none⟩ (.string ⟨#[]⟩)).setCell ⟨b,3,none⟩ (.int .i64 0)).setCell ⟨b,4,none⟩ (.int .i64 0)).setCell ⟨b,5,none⟩ (.int .i64 0)).cell? ⟨g5,0,none⟩=some (.int .i64 qi)∧((((((w9.setCell ⟨b,0,none⟩ (.int .i64 re)).setCell ⟨b,1,none⟩ (.int .i64 0)).setCell ⟨b,2,none⟩ (.string ⟨#[]⟩)).setCell ⟨b,3,none⟩ (.int .i64 0)).setCell ⟨b,4,none⟩ (.int .i64 0)).setCell ⟨b,5,none⟩ (.int .i64 0)).cell? ⟨g5,1,none⟩=some (.string qnm):=⟨(H9.out.set6 (b:=b) HQ.out.2.1.1 HQB.out (.int .i64 (re)) (.int .i64 0) (.string ⟨#[]⟩) (.int .i64 0) (.int .i64 0) (.int .i64 0)).c0,(HPa9.out.other HQa.out.2).c 0 _ rfl,(HPa9.out.other HQa.out.2).c 1 _ rfl,(HPb9.out.other HQ5.out.2).c 0 _ rfl,(HPb9.out.other HQ5.out.2).c 1 _ rfl⟩;clear hb9)))
   all_goals
    clear S0 S8 S9 ST
    go_wp2_with fail
    refine bodyPost_ret (results_cell1 rfl _ _ b _ _ rfl (set6r HR9.out _ _ _ _ _ _).range Tryz.underlying39 (by rfl) (by rfl)) rfl ?_
    exact HD.out _ _ _ (HF.out.symm) ((H9.out.set6 HQ.out.2.1.1 HQB.out _ _ _ _ _ _).up (by omega:T+1≤T+3)).done
end Go.Proofs.YtpmpbmjjlccbbaaGreat.tr
