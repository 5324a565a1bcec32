/- Part 50 of what is known of the program's functions and of the document's words: contracts, and the mathematics beneath them. -/
import Derived.Test.YtpmpbmjjlccbbaaGreatProg
import Derived.Test.YtpmpbmjjlccbbaaGreatZ44
set_option linter.unusedVariables false
set_option linter.unusedSimpArgs false
set_option maxRecDepth 100000
set_option maxHeartbeats 8000000
namespace Go.Proofs.YtpmpbmjjlccbbaaGreat.tr
open Go.RowKit
open br (BS Inv Ino)
open cb (BrX RetW RetI)
open bl (Pq)
open wk (walkT pe pn pd e0 r0 dot1 dot2)
open ds (De Tb DA DV DL GetE StE IntsE lowV openT getV errV setT closeT full allT dz)
open pa (Bs Sv Strs Own own_form info9 own_base)
def newE (S:BS) (a:ByteArray):Int:=if placeE S a 17≠0 then placeE S a 17 else if pd a=true then 2 else 0
theorem newV_err {S:BS} {a:ByteArray} (h:newE S a≠0):newV S a=PlA 0 ⟨#[]⟩ false (newE S a):=by
 by_cases h1:placeE S a 17=0
 ·have h1':¬ (placeE S a 17≠0):=fun e=>e h1
  have e1:newE S a=if pd a=true then 2 else 0:=if_neg h1'
  have e2:newV S a=if pd a=true then PlA 0 ⟨#[]⟩ false 2 else PlA (placeD S a) (placeN a) false 0:=if_neg h1'
  by_cases h2:pd a=true
  ·rw [e2,e1,if_pos h2,if_pos h2]
  ·rw [e1,if_neg h2] at h;exact absurd rfl h
 ·have e1:newE S a=placeE S a 17:=if_pos h1
  have e2:newV S a=PlA 0 ⟨#[]⟩ false (placeE S a 17):=if_pos h1
  rw [e2,e1]
theorem newV_ok {S:BS} {a:ByteArray} (h:newE S a=0):newV S a=PlA (placeD S a) (placeN a) false 0:=by
 by_cases h1:placeE S a 17=0
 ·have h1':¬ (placeE S a 17≠0):=fun e=>e h1
  have e1:newE S a=if pd a=true then 2 else 0:=if_neg h1'
  have e2:newV S a=if pd a=true then PlA 0 ⟨#[]⟩ false 2 else PlA (placeD S a) (placeN a) false 0:=if_neg h1'
  by_cases h2:pd a=true
  ·rw [e1,if_pos h2] at h;exact absurd h (by decide)
  ·rw [e2,if_neg h2]
 ·have e1:newE S a=placeE S a 17:=if_pos h1
  rw [e1] at h;exact absurd h h1
theorem new_tail {y:Sy} {a:ByteArray} (x:Res×Sy):(if placeE y.S a 17≠0 then (wrong (placeE y.S a 17),y) else if pd a=true then (wrong 2,y) else x)=if newE y.S a≠0 then (wrong (newE y.S a),y) else x:=by
 unfold newE
 by_cases h1:placeE y.S a 17=0
 ·have h1':¬ (placeE y.S a 17≠0):=fun e=>e h1
  rw [if_neg h1']
  by_cases h2:pd a=true
  ·rw [if_pos h2,if_neg h1',if_pos h2,if_pos (by decide)]
  ·rw [if_neg h2,if_neg h1',if_neg h2,if_neg (by decide)]
 ·rw [if_pos h1,if_pos h1,if_pos h1]
theorem symlink_is (y:Sy) (c:Cal):doSymlink y c=if targetE c.a≠0 then (wrong (targetE c.a),y) else if newE y.S c.b≠0 then (wrong (newE y.S c.b),y) else (wrong (y.S.make (placeD y.S c.b) (placeN c.b) 3 c.a).1.2,⟨(y.S.make (placeD y.S c.b) (placeN c.b) 3 c.a).2,y.T⟩):=by
 unfold doSymlink targetE
 rw [new_tail]
 by_cases h1:c.a.size=0
 ·rw [if_pos h1,if_pos h1,if_pos (by decide)]
 by_cases h2:400<c.a.size
 ·rw [if_neg h1,if_pos h2,if_neg h1,if_pos h2,if_pos (by decide)]
 by_cases h3:(0:UInt8)∈c.a.data.toList
 ·rw [if_neg h1,if_neg h2,if_pos h3,if_neg h1,if_neg h2,if_pos h3,if_pos (by decide)]
 ·rw [if_neg h1,if_neg h2,if_neg h3,if_neg h1,if_neg h2,if_neg h3,if_neg (show ¬ ((0:Int)≠0) from fun e=>e rfl)]
theorem link_is (y:Sy) (c:Cal) (fi:Int) (h1:(lead y.S c.a false).2=0) (h2:(lead y.S c.a false).1.2.2=fi):doLink y c=if y.S.kindOf fi=2 then (wrong 1,y) else if newE y.S c.b≠0 then (wrong (newE y.S c.b),y) else (wrong (y.S.link (placeD y.S c.b) (placeN c.b) fi).1,⟨(y.S.link (placeD y.S c.b) (placeN c.b) fi).2,y.T⟩):=by
 unfold doLink
 dsimp only
 rw [if_neg (fun e=>e h1),new_tail,h2]
theorem m_symlink {w0 w:World} {P B Q room T:Nat} {X:Nat→Prop} {y:Sy} (h:SyX w0 w P B Q X y room T) (hT:T≤990) (hh:Hd room y) (c:Cal) (hsa:c.a.size≤1000000) :
  Calls Tryz.prog 74 #[Pq P,CV c] w (ME w0 w P B Q X room (T+3) (fun r y'=>(r,y')=doSymlink y c)):=by
 obtain ⟨co,cf,cl,cn,cx,ca,cb⟩:=c
 have hhR:=Lib.hid h
 have HH:=Lib.hid hh
 unfold CV
 dsimp only at hsa ⊢
 obtain ⟨g,b,w1,w2,hg,hw1,hb,hw2,HG2,HR2,HQ,H2⟩:=m_entry h co cf cl cn cx ca cb
 have HD:=Lib.hid (me_done (w0:=w0) (w:=w) (P:=P) (B:=B) (Q:=Q) (X:=X) (room:=room) (T:=T+3) (rel:=fun r y'=>(r,y')=doSymlink y ⟨co,cf,cl,cn,cx,ca,cb⟩))
 have HT:=Lib.hid hT
 have HA:=Lib.hid hsa
 obtain ⟨c0,c1,c2,c3,c4,c5,c6⟩:=HG2.out.seven
 unfold ME
 clear h hT hh hsa
 have HTG:=Lib.hid (show Calls Tryz.prog 135 #[.string ca] w2 (fun e w'=>e=.returned (.int .i64 (targetE ca))∧w2=w') from (target_any ca w2 (by have:=HA.out;omega)).mono fun _ _ h=>⟨h.1,h.2.symm⟩)
 have HF:=Lib.hid (symlink_is y ⟨co,cf,cl,cn,cx,ca,cb⟩)
 have HSZ:=Lib.hid (placeN_sz cb)
 dsimp only at HF
 generalize doSymlink y ⟨co,cf,cl,cn,cx,ca,cb⟩=dd at *
 by_cases ht:targetE ca=0
 case neg =>
  rw [if_pos ht] at HF
  generalize targetE ca=er at *
  have qe:(er != 0)=true:=by simpa using ht
  clear ht
  go_enter Tryz.func74,Tryz.ntmps74
  go_wp2_with fail
  refine HTG.out.mono ?_
  rintro _ w3 ⟨rfl,rfl⟩
  clear c0 c1 c2 c3 c4 c5 c6
  go_wp2_with fail
  refine (failed_any (er) w2).mono ?_
  rintro _ w7 ⟨rfl,hb7⟩
  have H7:=Lib.hid ((H2.out).below hb7)
  have HR7:=Lib.hid ((HR2.out).below hb7)
  obtain ⟨x0,x1,x2,x3,x4,x5⟩:=HR7.out.six
  obtain ⟨y0,y1,y2,y3,y4,y5⟩:=HR7.out.z6
  clear hb7 
  go_wp2_with fail
  refine bodyPost_ret (results_cell1 rfl _ _ b _ _ rfl (set6r HR7.out _ _ _ _ _ _).range Tryz.underlying39 (by rfl) (by rfl)) rfl ?_
  exact HD.out _ _ _ (HF.out.symm) ((H7.out.set6 HQ.out.2.1.1 HQ.out.2.1.2 _ _ _ _ _ _).up (by omega:T≤T+3)).done
 rw [if_neg (fun e=>e ht)] at HF
 rw [ht] at HTG
 clear ht
 have HC:=Lib.hid (newPlace_any H2.out.sy cb)
 unfold RetW at HC
 by_cases he:newE y.S cb=0
 case neg =>
  rw [newV_err he] at HC
  rw [if_pos he] at HF
  generalize newE y.S cb=er at *
  have qe:(er != 0)=true:=by simpa using he
  clear he
  go_enter Tryz.func74,Tryz.ntmps74
  go_wp2_with fail
  refine HTG.out.mono ?_
  rintro _ w3 ⟨rfl,rfl⟩
  go_wp2_with fail
  refine HC.out.mono ?_
  rintro _ w3 ⟨rfl,hb3⟩
  have H4:=Lib.hid (fun ob=>H2.out.grow (bel_step hb3 (bel_alloc w3 ob)) rfl)
  have HR4:=Lib.hid (fun ob=>HR2.out.below (bel_step hb3 (bel_alloc w3 ob)))
  have HQB':=Lib.hid (fun ob=>(show b<(w3.alloc ob).heap.size by have h1:=HQ.out;have h3:=hb3.size;rw [World.size_alloc];omega))
  clear hb3
  go_wp2_with fail
  refine (failed_any (er) _).mono ?_
  rintro _ w7 ⟨rfl,hb7⟩
  have H7:=Lib.hid ((H4.out _).below hb7)
  have HR7:=Lib.hid ((HR4.out _).below hb7)
  obtain ⟨x0,x1,x2,x3,x4,x5⟩:=HR7.out.six
  obtain ⟨y0,y1,y2,y3,y4,y5⟩:=HR7.out.z6
  clear hb7 
  go_wp2_with fail
  refine bodyPost_ret (results_cell1 rfl _ _ b _ _ rfl (set6r HR7.out _ _ _ _ _ _).range Tryz.underlying39 (by rfl) (by rfl)) rfl ?_
  exact HD.out _ _ _ (HF.out.symm) ((H7.out.set6 HQ.out.2.1.1 (HQB'.out _) _ _ _ _ _ _).up (by omega:T≤T+3)).done
 rw [newV_ok he] at HC
 rw [if_neg (fun e=>e he)] at HF
 clear he
 generalize placeD y.S cb=pi at *
 generalize placeN cb=pnm at *
 obtain ⟨pf,hpf⟩:∃ pf:Bool,pf=false:=⟨_,rfl⟩
 rw [← hpf] at HC
 have HPF:=Lib.hid hpf
 clear hpf
 go_enter Tryz.func74,Tryz.ntmps74
 go_wp2_with fail
 refine HTG.out.mono ?_
 rintro _ w3 ⟨rfl,rfl⟩
 go_wp2_with fail
 refine HC.out.mono ?_
 rintro _ w5 ⟨rfl,hb3⟩
 obtain ⟨w4,hw4⟩:∃ w4,w5.alloc (.cells #[.int .i64 pi,.string pnm,.bool pf] 189)=w4:=⟨_,rfl⟩
 obtain ⟨g4,hg4⟩:∃ g4,w5.heap.size=g4:=⟨_,rfl⟩
 have hb34:Below w5.heap.size w5 w4:=by rw [← hw4];exact bel_alloc w5 _
 have hb4:=bel_step hb3 hb34
 have HP4:=Lib.hid (show Rw w4 g4 [.int .i64 pi,.string pnm,.bool pf] by rw [← hw4,← hg4];exact Rw.new w5 [.int .i64 pi,.string pnm,.bool pf] 189)
 have H4:=Lib.hid (H2.out.grow hb4 rfl)
 have HG4:=Lib.hid (HG2.out.below hb4)
 have HR4:=Lib.hid (HR2.out.below hb4)
 have HN4:=Lib.hid (show w2.heap.size≤w4.heap.size from hb4.size)
 have HQ4:=Lib.hid (show (w.heap.size≤g4∧g4<w4.heap.size)∧g4≠b by
  have h1:=HQ.out;have h5:=H2.out.wn;have h2:=HP4.out.lt;have h3:=hb3.size;omega)
 have HQB:=Lib.hid (show b<w4.heap.size by have h1:=HQ.out;have h2:=HN4.out;omega)
 have HQG:=Lib.hid (show g<w4.heap.size by have h1:=HQ.out;have h6:=HQ.out;have h2:=HN4.out;have h7:=HG4.out.lt;omega)
 clear hb3 hb34 hb4
 have H4d:=Lib.hid (H4.out.below (Below.refl w4.heap.size w4).drew)
 have HP4d:=Lib.hid (HP4.out.below (Below.refl w4.heap.size w4).drew)
 have HG4d:=Lib.hid (HG4.out.below (Below.refl w4.heap.size w4).drew)
 have HR4d:=Lib.hid (HR4.out.below (Below.refl w4.heap.size w4).drew)
 have HM:=Lib.hid (p_make H4d.out.sy (by have:=HT.out;omega) pi pnm 3 ca (by have:=HSZ.out;omega) (by have:=HA.out;omega))
 unfold StepE at HM
 generalize (y.S.make pi pnm 3 ca).1.1=mi at *
 generalize (y.S.make pi pnm 3 ca).1.2=me at *
 generalize (y.S.make pi pnm 3 ca).2=S' at *
 have S0:w4.cell? ⟨P,0,none⟩=some (Pq B)∧w4.cell? ⟨g4,0,none⟩=some (.int .i64 pi)∧w4.cell? ⟨g4,1,none⟩=some (.string pnm)∧w4.cell? ⟨g,5,none⟩=some (.string ca):=⟨H4.out.c0,HP4.out.c 0 _ rfl,HP4.out.c 1 _ rfl,HG4.out.c 5 _ rfl⟩
 clear c0 c1 c2 c3 c4 c5 c6
 go_wp2_with fail
 go_region_held3 (fun w'=>w'.cell? ⟨P,0,none⟩=some (Pq B)∧w'.cell? ⟨g4,0,none⟩=some (.int .i64 pi)∧w'.cell? ⟨g4,1,none⟩=some (.string pnm)∧w'.cell? ⟨g,5,none⟩=some (.string ca))
  (first|with_reducible exact S0|with_reducible exact S8|assumption|go_keep)
  (first|(go_at_call 128;((with_reducible refine HM.out.mono ?_);rintro _ w8 ⟨rfl,k1,k2⟩;have H8:=Lib.hid (H4d.out.move k1 k2);have HR8:=Lib.hid (HR4d.out.keep k2 HQ.out.2.1.1 HQB.out k1);have HP8:=Lib.hid (HP4d.out.keep k2 HQ4.out.1.1 HQ4.out.1.2 k1);have HG8:=Lib.hid (HG4d.out.keep k2 HQ.out.1.1 HQG.out k1);have S8:w8.cell? ⟨P,0,none⟩=some (Pq B)∧w8.cell? ⟨g4,0,none⟩=some (.int .i64 pi)∧w8.cell? ⟨g4,1,none⟩=some (.string pnm)∧w8.cell? ⟨g,5,none⟩=some (.string ca):=⟨k1.c0,HP8.out.c 0 _ rfl,HP8.out.c 1 _ rfl,HG8.out.c 5 _ rfl⟩;clear k1 k2)))
 all_goals
  clear S0 S8
  go_wp2_with fail
  refine (failed_any (me) w8).mono ?_
  rintro _ w7 ⟨rfl,hb7⟩
  have H7:=Lib.hid ((H8.out).below hb7)
  have HR7:=Lib.hid ((HR8.out).below hb7)
  obtain ⟨x0,x1,x2,x3,x4,x5⟩:=HR7.out.six
  obtain ⟨y0,y1,y2,y3,y4,y5⟩:=HR7.out.z6
  clear hb7 
  go_wp2_with fail
  refine bodyPost_ret (results_cell1 rfl _ _ b _ _ rfl (set6r HR7.out _ _ _ _ _ _).range Tryz.underlying39 (by rfl) (by rfl)) rfl ?_
  exact HD.out _ _ _ (HF.out.symm) ((H7.out.set6 HQ.out.2.1.1 HQB.out _ _ _ _ _ _).up (by omega:T+1≤T+3)).done
theorem m_link {w0 w:World} {P B Q room T:Nat} {X:Nat→Prop} {y:Sy} (h:SyX w0 w P B Q X y room T) (hT:T≤990) (hh:Hd room y) (c:Cal) :
  Calls Tryz.prog 73 #[Pq P,CV c] w (ME w0 w P B Q X room (T+3) (fun r y'=>(r,y')=doLink y c)):=by
 obtain ⟨co,cf,cl,cn,cx,ca,cb⟩:=c
 have hhR:=Lib.hid h
 have HH:=Lib.hid hh
 unfold CV
 dsimp only
 obtain ⟨g,b,w1,w2,hg,hw1,hb,hw2,HG2,HR2,HQ,H2⟩:=m_entry h co cf cl cn cx ca cb
 have HD:=Lib.hid (me_done (w0:=w0) (w:=w) (P:=P) (B:=B) (Q:=Q) (X:=X) (room:=room) (T:=T+3) (rel:=fun r y'=>(r,y')=doLink y ⟨co,cf,cl,cn,cx,ca,cb⟩))
 have HT:=Lib.hid hT
 obtain ⟨c0,c1,c2,c3,c4,c5,c6⟩:=HG2.out.seven
 unfold ME
 clear h hT hh
 have HC:=Lib.hid (find_any H2.out.sy ca false)
 unfold RetW at HC
 obtain ⟨fr,hfr⟩:∃ fr,findR y.S ca false=fr:=⟨_,rfl⟩
 rw [hfr] at HC
 obtain ⟨fi,fe⟩:=fr
 dsimp only at HC
 rcases lead_cases hfr with ⟨he,hl⟩|⟨he,hl,hi⟩
 ·have HF:=Lib.hid (show doLink y ⟨co,cf,cl,cn,cx,ca,cb⟩=(wrong fe,y) by unfold doLink;dsimp only;rw [if_pos (by rw [hl];exact he),hl])
  have qe:(fe != 0)=true:=by simpa using he
  clear he hl hfr
  go_enter Tryz.func73,Tryz.ntmps73
  go_wp2_with fail
  refine HC.out.mono ?_
  rintro _ w4 ⟨rfl,hb4⟩
  have H4:=Lib.hid (H2.out.grow hb4 rfl)
  have HG4:=Lib.hid (HG2.out.below hb4)
  have HR4:=Lib.hid (HR2.out.below hb4)
  have HN4:=Lib.hid (show w2.heap.size≤w4.heap.size from hb4.size)
  have HQB:=Lib.hid (show b<w4.heap.size by have h1:=HQ.out;have h2:=HN4.out;omega)
  have HQG:=Lib.hid (show g<w4.heap.size by have h1:=HQ.out;have h2:=HN4.out;omega)
  clear hb4 c0 c1 c2 c3 c4 c5 c6
  go_wp2_with fail
  refine (failed_any (fe) w4).mono ?_
  rintro _ w7 ⟨rfl,hb7⟩
  have H7:=Lib.hid ((H4.out).below hb7)
  have HR7:=Lib.hid ((HR4.out).below hb7)
  obtain ⟨x0,x1,x2,x3,x4,x5⟩:=HR7.out.six
  obtain ⟨y0,y1,y2,y3,y4,y5⟩:=HR7.out.z6
  clear hb7 
  go_wp2_with fail
  refine bodyPost_ret (results_cell1 rfl _ _ b _ _ rfl (set6r HR7.out _ _ _ _ _ _).range Tryz.underlying39 (by rfl) (by rfl)) rfl ?_
  exact HD.out _ _ _ (HF.out.symm) ((H7.out.set6 HQ.out.2.1.1 HQB.out _ _ _ _ _ _).up (by omega:T≤T+3)).done
 subst he
 have HF:=Lib.hid (link_is y ⟨co,cf,cl,cn,cx,ca,cb⟩ fi hl hi)
 have HSZ:=Lib.hid (placeN_sz cb)
 dsimp only at HF
 generalize doLink y ⟨co,cf,cl,cn,cx,ca,cb⟩=dd at *
 clear hl hi hfr
 by_cases hk:y.S.kindOf fi=2
 ·rw [if_pos hk] at HF
  go_enter Tryz.func73,Tryz.ntmps73
  go_wp2_with fail
  refine HC.out.mono ?_
  rintro _ w4 ⟨rfl,hb4⟩
  have H4:=Lib.hid (H2.out.grow hb4 rfl)
  have HG4:=Lib.hid (HG2.out.below hb4)
  have HR4:=Lib.hid (HR2.out.below hb4)
  have HN4:=Lib.hid (show w2.heap.size≤w4.heap.size from hb4.size)
  have HQB:=Lib.hid (show b<w4.heap.size by have h1:=HQ.out;have h2:=HN4.out;omega)
  have HQG:=Lib.hid (show g<w4.heap.size by have h1:=HQ.out;have h2:=HN4.out;omega)
  clear hb4 c0 c1 c2 c3 c4 c5 c6
  have HK:=Lib.hid (p_kind H4.out.sy fi)
  unfold RetI at HK
  rw [hk] at HK
  have k0:=H4.out.c0
  clear hk
  go_wp2_with fail
  refine HK.out.mono ?_
  rintro _ w5 ⟨rfl,hb5⟩
  have H5:=Lib.hid (H4.out.below hb5)
  have HR5:=Lib.hid (HR4.out.below hb5)
  clear hb5 k0
  go_wp2_with fail
  refine (failed_any (1) w5).mono ?_
  rintro _ w7 ⟨rfl,hb7⟩
  have H7:=Lib.hid ((H5.out).below hb7)
  have HR7:=Lib.hid ((HR5.out).below hb7)
  obtain ⟨x0,x1,x2,x3,x4,x5⟩:=HR7.out.six
  obtain ⟨y0,y1,y2,y3,y4,y5⟩:=HR7.out.z6
  clear hb7 
  go_wp2_with fail
  refine bodyPost_ret (results_cell1 rfl _ _ b _ _ rfl (set6r HR7.out _ _ _ _ _ _).range Tryz.underlying39 (by rfl) (by rfl)) rfl ?_
  exact HD.out _ _ _ (HF.out.symm) ((H7.out.set6 HQ.out.2.1.1 HQB.out _ _ _ _ _ _).up (by omega:T≤T+3)).done
 rw [if_neg hk] at HF
 go_enter Tryz.func73,Tryz.ntmps73
 go_wp2_with fail
 refine HC.out.mono ?_
 rintro _ w4 ⟨rfl,hb4⟩
 have H4:=Lib.hid (H2.out.grow hb4 rfl)
 have HG4:=Lib.hid (HG2.out.below hb4)
 have HR4:=Lib.hid (HR2.out.below hb4)
 have HN4:=Lib.hid (show w2.heap.size≤w4.heap.size from hb4.size)
 have HQB:=Lib.hid (show b<w4.heap.size by have h1:=HQ.out;have h2:=HN4.out;omega)
 have HQG:=Lib.hid (show g<w4.heap.size by have h1:=HQ.out;have h2:=HN4.out;omega)
 clear hb4 c0 c1 c2 c3 c4 c5 c6
 have HK:=Lib.hid (p_kind H4.out.sy fi)
 unfold RetI at HK
 generalize y.S.kindOf fi=kk at *
 have qk:(kk == 2)=false:=by simpa using hk
 have k0:=H4.out.c0
 clear hk
 go_wp2_with fail
 refine HK.out.mono ?_
 rintro _ w5 ⟨rfl,hb5⟩
 have H5:=Lib.hid (H4.out.grow hb5 rfl)
 have HR5:=Lib.hid (HR4.out.below hb5)
 have HG5:=Lib.hid (HG4.out.below hb5)
 have HQ5:=Lib.hid (show b<w5.heap.size from HR5.out.lt)
 obtain ⟨c0,c1,c2,c3,c4,c5,c6⟩:=HG5.out.seven
 have HC:=Lib.hid (newPlace_any H5.out.sy cb)
 unfold RetW at HC
 clear hb5 k0
 by_cases he:newE y.S cb=0
 case neg =>
  rw [newV_err he] at HC
  rw [if_pos he] at HF
  generalize newE y.S cb=er at *
  have qe:(er != 0)=true:=by simpa using he
  clear he
  go_wp2_with fail
  refine HC.out.mono ?_
  rintro _ w3 ⟨rfl,hb3⟩
  have H6:=Lib.hid (fun ob=>H5.out.grow (bel_step hb3 (bel_alloc w3 ob)) rfl)
  have HR6:=Lib.hid (fun ob=>HR5.out.below (bel_step hb3 (bel_alloc w3 ob)))
  have HQB':=Lib.hid (fun ob=>(show b<(w3.alloc ob).heap.size by have h1:=HQ5.out;have h3:=hb3.size;rw [World.size_alloc];omega))
  clear hb3
  go_wp2_with fail
  refine (failed_any (er) _).mono ?_
  rintro _ w7 ⟨rfl,hb7⟩
  have H7:=Lib.hid ((H6.out _).below hb7)
  have HR7:=Lib.hid ((HR6.out _).below hb7)
  obtain ⟨x0,x1,x2,x3,x4,x5⟩:=HR7.out.six
  obtain ⟨y0,y1,y2,y3,y4,y5⟩:=HR7.out.z6
  clear hb7 
  go_wp2_with fail
  refine bodyPost_ret (results_cell1 rfl _ _ b _ _ rfl (set6r HR7.out _ _ _ _ _ _).range Tryz.underlying39 (by rfl) (by rfl)) rfl ?_
  exact HD.out _ _ _ (HF.out.symm) ((H7.out.set6 HQ.out.2.1.1 (HQB'.out _) _ _ _ _ _ _).up (by omega:T≤T+3)).done
 rw [newV_ok he] at HC
 rw [if_neg (fun e=>e he)] at HF
 clear he
 generalize placeD y.S cb=pi at *
 generalize placeN cb=pnm at *
 obtain ⟨pf,hpf⟩:∃ pf:Bool,pf=false:=⟨_,rfl⟩
 rw [← hpf] at HC
 have HPF:=Lib.hid hpf
 clear hpf
 go_wp2_with fail
 refine HC.out.mono ?_
 rintro _ w3 ⟨rfl,hb3⟩
 obtain ⟨w6,hw6⟩:∃ w6,w3.alloc (.cells #[.int .i64 pi,.string pnm,.bool pf] 189)=w6:=⟨_,rfl⟩
 obtain ⟨g6,hg6⟩:∃ g6,w3.heap.size=g6:=⟨_,rfl⟩
 have hb34:Below w3.heap.size w3 w6:=by rw [← hw6];exact bel_alloc w3 _
 have hb6:=bel_step hb3 hb34
 have HP6:=Lib.hid (show Rw w6 g6 [.int .i64 pi,.string pnm,.bool pf] by rw [← hw6,← hg6];exact Rw.new w3 [.int .i64 pi,.string pnm,.bool pf] 189)
 have H6:=Lib.hid (H5.out.grow hb6 rfl)
 have HG6:=Lib.hid (HG5.out.below hb6)
 have HR6:=Lib.hid (HR5.out.below hb6)
 have HN6:=Lib.hid (show w5.heap.size≤w6.heap.size from hb6.size)
 have HQ6:=Lib.hid (show (w.heap.size≤g6∧g6<w6.heap.size)∧g6≠b by
  have h1:=HQ5.out;have h8:=HQ.out;have h5:=H5.out.wn;have h2:=HP6.out.lt;have h3:=hb3.size;omega)
 have HQB:=Lib.hid (show b<w6.heap.size by have h1:=HQ5.out;have h8:=HQ.out;have h2:=HN6.out;omega)
 have HQG:=Lib.hid (show g<w6.heap.size by have h1:=HQ5.out;have h8:=HQ.out;have h6:=HQ.out;have h2:=HN6.out;have h7:=HG6.out.lt;omega)
 clear hb3 hb34 hb6
 have H4d:=Lib.hid (H6.out.below (Below.refl w6.heap.size w6).drew)
 have HP6d:=Lib.hid (HP6.out.below (Below.refl w6.heap.size w6).drew)
 have HR4d:=Lib.hid (HR6.out.below (Below.refl w6.heap.size w6).drew)
 have HM:=Lib.hid (p_link H4d.out.sy pi pnm fi (by have:=HSZ.out;omega))
 unfold StepE at HM
 generalize (y.S.link pi pnm fi).1=re at *
 generalize (y.S.link pi pnm fi).2=S' at *
 clear c0 c1 c2 c3 c4 c5 c6
 have S0:w6.cell? ⟨P,0,none⟩=some (Pq B)∧w6.cell? ⟨g6,0,none⟩=some (.int .i64 pi)∧w6.cell? ⟨g6,1,none⟩=some (.string pnm):=⟨H6.out.c0,HP6.out.c 0 _ rfl,HP6.out.c 1 _ rfl⟩
 go_wp2_with fail
 go_region_held3 (fun w'=>w'.cell? ⟨P,0,none⟩=some (Pq B)∧w'.cell? ⟨g6,0,none⟩=some (.int .i64 pi)∧w'.cell? ⟨g6,1,none⟩=some (.string pnm))
  (first|with_reducible exact S0|with_reducible exact S8|with_reducible exact S9|with_reducible exact ST|assumption|go_keep)
  (first|(go_at_call 134;((with_reducible refine HM.out.mono ?_);rintro _ w8 ⟨rfl,k1,k2⟩;have H8:=Lib.hid (H4d.out.move k1 k2);have HR8:=Lib.hid (HR4d.out.keep k2 HQ.out.2.1.1 HQB.out k1);have HP68:=Lib.hid (HP6d.out.keep k2 HQ6.out.1.1 HQ6.out.1.2 k1);have S8:w8.cell? ⟨P,0,none⟩=some (Pq B)∧w8.cell? ⟨g6,0,none⟩=some (.int .i64 pi)∧w8.cell? ⟨g6,1,none⟩=some (.string pnm):=⟨k1.c0,(HP68.out).c 0 _ rfl,(HP68.out).c 1 _ rfl⟩;clear k1 k2))|(go_at_call 30;((with_reducible refine (failed_any re w8).mono ?_);rintro _ w9 ⟨rfl,hb9⟩;have H9:=Lib.hid (H8.out.below hb9);have HR9:=Lib.hid (HR8.out.below hb9);have HP69:=Lib.hid (HP68.out.below hb9);have S9:w9.cell? ⟨P,0,none⟩=some (Pq B)∧w9.cell? ⟨g6,0,none⟩=some (.int .i64 pi)∧w9.cell? ⟨g6,1,none⟩=some (.string pnm):=⟨H9.out.c0,(HP69.out).c 0 _ rfl,(HP69.out).c 1 _ rfl⟩;obtain ⟨x0,x1,x2,x3,x4,x5⟩:=HR9.out.six;obtain ⟨y0,y1,y2,y3,y4,y5⟩:=HR9.out.z6;have ST:((((((w9.setCell ⟨b,0,none⟩ (.int .i64 re)).setCell ⟨b,1,none⟩ (.int .i64 0)).setCell ⟨b,2,none⟩ (.string ⟨#[]⟩)).setCell ⟨b,3,none⟩ (.int .i64 0)).setCell ⟨b,4,none⟩ (.int .i64 0)).setCell ⟨b,5,none⟩ (.int .i64 0)).cell? ⟨P,0,none⟩=some (Pq B)∧((((((w9.setCell ⟨b,0,none⟩ (.int .i64 re)).setCell ⟨b,1,none⟩ (.int .i64 0)).setCell ⟨b,2,none⟩ (.string ⟨#[]⟩)).setCell ⟨b,3,none⟩ (.int .i64 0)).setCell ⟨b,4,none⟩ (.int .i64 0)).setCell ⟨b,5,none⟩ (.int .i64 0)).cell? ⟨g6,0,none⟩=some (.int .i64 pi)∧((((((w9.setCell ⟨b,0,none⟩ (.int .i64 re)).setCell ⟨b,1,none⟩ (.int .i64 0)).setCell ⟨b,2,none⟩ (.string ⟨#[]⟩)).setCell ⟨b,3,none⟩ (.int .i64 0)).setCell ⟨b,4,none⟩ (.int .i64 0)).setCell ⟨b,5,none⟩ (.int .i64 0)).cell? ⟨g6,1,none⟩=some (.string pnm):=⟨(H9.out.set6 (b:=b) HQ.out.2.1.1 HQB.out (.int .i64 (re)) (.int .i64 0) (.string ⟨#[]⟩) (.int .i64 0) (.int .i64 0) (.int .i64 0)).c0,(HP69.out.other HQ6.out.2).c 0 _ rfl,(HP69.out.other HQ6.out.2).c 1 _ rfl⟩;clear hb9)))
 all_goals
  clear S0 S8 S9 ST
  go_wp2_with fail
  refine bodyPost_ret (results_cell1 rfl _ _ b _ _ rfl (set6r HR9.out _ _ _ _ _ _).range Tryz.underlying39 (by rfl) (by rfl)) rfl ?_
  exact HD.out _ _ _ (HF.out.symm) ((H9.out.set6 HQ.out.2.1.1 HQB.out _ _ _ _ _ _).up (by omega:T+1≤T+3)).done
theorem m_readlink {w0 w:World} {P B Q room T:Nat} {X:Nat→Prop} {y:Sy} (h:SyX w0 w P B Q X y room T) (hT:T≤990) (hh:Hd room y) (c:Cal) :
  Calls Tryz.prog 75 #[Pq P,CV c] w (ME w0 w P B Q X room (T+3) (fun r y'=>r=doReadlink y c∧y'=y)):=by
 obtain ⟨co,cf,cl,cn,cx,ca,cb⟩:=c
 have hhR:=Lib.hid h
 have HH:=Lib.hid hh
 unfold CV
 dsimp only
 obtain ⟨g,b,w1,w2,hg,hw1,hb,hw2,HG2,HR2,HQ,H2⟩:=m_entry h co cf cl cn cx ca cb
 have HD:=Lib.hid (me_done (w0:=w0) (w:=w) (P:=P) (B:=B) (Q:=Q) (X:=X) (room:=room) (T:=T+3) (rel:=fun r y'=>r=doReadlink y ⟨co,cf,cl,cn,cx,ca,cb⟩∧y'=y))
 have HT:=Lib.hid hT
 obtain ⟨c0,c1,c2,c3,c4,c5,c6⟩:=HG2.out.seven
 unfold ME
 clear h hT hh
 have HC:=Lib.hid (find_any H2.out.sy ca false)
 unfold RetW at HC
 obtain ⟨fr,hfr⟩:∃ fr,findR y.S ca false=fr:=⟨_,rfl⟩
 rw [hfr] at HC
 obtain ⟨fi,fe⟩:=fr
 dsimp only at HC
 rcases lead_cases hfr with ⟨he,hl⟩|⟨he,hl,hi⟩
 ·have HF:=Lib.hid (show doReadlink y ⟨co,cf,cl,cn,cx,ca,cb⟩=wrong fe by unfold doReadlink;dsimp only;rw [if_pos (by rw [hl];exact he),hl])
  have qe:(fe != 0)=true:=by simpa using he
  clear he hl hfr
  go_enter Tryz.func75,Tryz.ntmps75
  go_wp2_with fail
  refine HC.out.mono ?_
  rintro _ w4 ⟨rfl,hb4⟩
  have H4:=Lib.hid (H2.out.grow hb4 rfl)
  have HG4:=Lib.hid (HG2.out.below hb4)
  have HR4:=Lib.hid (HR2.out.below hb4)
  have HN4:=Lib.hid (show w2.heap.size≤w4.heap.size from hb4.size)
  have HQB:=Lib.hid (show b<w4.heap.size by have h1:=HQ.out;have h2:=HN4.out;omega)
  have HQG:=Lib.hid (show g<w4.heap.size by have h1:=HQ.out;have h2:=HN4.out;omega)
  clear hb4 c0 c1 c2 c3 c4 c5 c6
  go_wp2_with fail
  refine (failed_any (fe) w4).mono ?_
  rintro _ w7 ⟨rfl,hb7⟩
  have H7:=Lib.hid ((H4.out).below hb7)
  have HR7:=Lib.hid ((HR4.out).below hb7)
  obtain ⟨x0,x1,x2,x3,x4,x5⟩:=HR7.out.six
  obtain ⟨y0,y1,y2,y3,y4,y5⟩:=HR7.out.z6
  clear hb7 
  go_wp2_with fail
  refine bodyPost_ret (results_cell1 rfl _ _ b _ _ rfl (set6r HR7.out _ _ _ _ _ _).range Tryz.underlying39 (by rfl) (by rfl)) rfl ?_
  exact HD.out _ _ _ (⟨HF.out.symm,rfl⟩) ((H7.out.set6 HQ.out.2.1.1 HQB.out _ _ _ _ _ _).up (by omega:T≤T+3)).done
 subst he
 have HF:=Lib.hid (show doReadlink y ⟨co,cf,cl,cn,cx,ca,cb⟩=⟨(y.S.targetOf fi).2,((y.S.targetOf fi).1.size:Int),(y.S.targetOf fi).1,(0,0,0)⟩ by unfold doReadlink;dsimp only;rw [if_neg (fun e=>e hl),hi])
 clear hl hi hfr
 go_enter Tryz.func75,Tryz.ntmps75
 go_wp2_with fail
 refine HC.out.mono ?_
 rintro _ w4 ⟨rfl,hb4⟩
 have H4:=Lib.hid (H2.out.grow hb4 rfl)
 have HG4:=Lib.hid (HG2.out.below hb4)
 have HR4:=Lib.hid (HR2.out.below hb4)
 have HN4:=Lib.hid (show w2.heap.size≤w4.heap.size from hb4.size)
 have HQB:=Lib.hid (show b<w4.heap.size by have h1:=HQ.out;have h2:=HN4.out;omega)
 have HQG:=Lib.hid (show g<w4.heap.size by have h1:=HQ.out;have h2:=HN4.out;omega)
 clear hb4 c0 c1 c2 c3 c4 c5 c6
 have HK:=Lib.hid (p_target H4.out.sy fi)
 have k0:=H4.out.c0
 generalize y.S.targetOf fi=tv at *
 obtain ⟨tt,te⟩:=tv
 dsimp only at HK HF
 go_wp2_with fail
 refine HK.out.mono ?_
 rintro _ w5 ⟨rfl,rfl⟩
 obtain ⟨x0,x1,x2,x3,x4,x5⟩:=HR4.out.six
 obtain ⟨y0,y1,y2,y3,y4,y5⟩:=HR4.out.z6
 go_wp2_with fail
 refine bodyPost_ret (results_cell1 rfl _ _ b _ _ rfl (set6r HR4.out _ _ _ _ _ _).range Tryz.underlying39 (by rfl) (by rfl)) rfl ?_
 exact HD.out _ _ _ (⟨HF.out.symm,rfl⟩) ((H4.out.set6 HQ.out.2.1.1 HQB.out _ _ _ _ _ _).up (by omega:T≤T+3)).done
end Go.Proofs.YtpmpbmjjlccbbaaGreat.tr
