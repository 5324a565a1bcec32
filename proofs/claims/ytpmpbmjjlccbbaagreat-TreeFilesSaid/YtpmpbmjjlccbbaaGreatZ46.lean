/- Part 46 of what is known of the program's functions and of the document's words: contracts, and the mathematics beneath them. -/
import Derived.Test.YtpmpbmjjlccbbaaGreatProg
import Derived.Test.YtpmpbmjjlccbbaaGreatZ45
set_option linter.unusedVariables false
set_option linter.unusedSimpArgs false
set_option maxRecDepth 100000
set_option maxHeartbeats 8000000
namespace Go.Proofs.YtpmpbmjjlccbbaaGreat.tr
open Go.RowKit
open br (BS Inv Ino)
open cb (BrX RetW RetI)
open bl (Pq)
open wk (walkT pe pn pd e0 r0 dot1 dot2)
open ds (De Tb DA DV DL GetE StE IntsE lowV openT getV errV setT closeT full allT dz)
open pa (Bs Sv Strs Own own_form info9 own_base)
open cb (readI)
theorem str_fn (n:Nat) (f:Nat→UInt8):bl.strF n f=⟨(List.ofFn (n:=n) fun j=>f j).toArray⟩:=by
 unfold bl.strF
 congr 2
 apply List.ext_getElem?
 intro j
 rw [List.getElem?_map,List.getElem?_ofFn]
 by_cases hj:j<n
 ·rw [List.getElem?_range hj,dif_pos hj];rfl
 ·rw [dif_neg hj,List.getElem?_eq_none (by rw [List.length_range];omega)];rfl
theorem min_if (n:Int):(if n<65536 then n else 65536)=min n 65536:=by omega
theorem read_take {y:Sy} {c:Cal} {p:Bool} {d:De} (h:fileD y.T c.fd (some 0)=(d,0)):takeV y.S d.ino (if p=true then c.off else d.off) c.n=RVr (doRead y c p).1 ∧
  (p=true→(doRead y c p).2=y)∧(p=false→(doRead y c p).2=⟨y.S,setT y.T c.fd { d with off:=d.off+(doRead y c p).1.n }⟩):=by
 obtain ⟨hg,hi⟩:=file_ok (T:=y.T) (fd:=c.fd) (k:=some 0) (by rw [h])
 rw [h] at hg hi
 dsimp only at hg hi
 have hsame:(⟨y.S,setT y.T c.fd { d with off:=d.off+0 }⟩:Sy)=y:=by
  have e:({ d with off:=d.off+0 }:De)=d:=by rw [Int.add_zero]
  rw [e,setT_same hg]
 have herr:∀ e:Int,doRead y c p=(wrong e,y)→(p=true→(doRead y c p).2=y)∧(p=false→(doRead y c p).2=⟨y.S,setT y.T c.fd { d with off:=d.off+(doRead y c p).1.n }⟩):=fun e he=>by
  rw [he]
  exact ⟨fun _=>rfl,fun _=>hsame.symm⟩
 have e0:doRead y c p=if c.n<0∨(if p=true then c.off else d.off)<0 then (wrong 22,y)
   else if (readI y.S d.ino (if p=true then c.off else d.off) (min c.n 65536)).1≠0 then (wrong (readI y.S d.ino (if p=true then c.off else d.off) (min c.n 65536)).1,y)
   else (⟨0,((readI y.S d.ino (if p=true then c.off else d.off) (min c.n 65536)).2:Int),⟨(List.ofFn (n:=(readI y.S d.ino (if p=true then c.off else d.off) (min c.n 65536)).2) fun j=>(y.S.at d.ino).body.dat ((if p=true then c.off else d.off).toNat+j)).toArray⟩,(0,0,0)⟩,
    if p=true then y else ⟨y.S,setT y.T c.fd { d with off:=(if p=true then c.off else d.off)+((readI y.S d.ino (if p=true then c.off else d.off) (min c.n 65536)).2:Int) }⟩):=by
  unfold doRead
  dsimp only
  rw [h,if_neg (fun e=>e rfl),min_if]
 generalize hat:(if p=true then c.off else d.off)=at_ at *
 by_cases h1:c.n<0∨at_<0
 ·rw [if_pos h1] at e0
  refine ⟨?_,herr _ e0⟩
  rw [take_no h1,e0];rfl
 rw [if_neg h1] at e0
 have hq:=read_none (S:=y.S) (i:=d.ino) (off:=at_) (n:=min c.n 65536)
 have htv:takeV y.S d.ino at_ c.n=RV (readI y.S d.ino at_ (min c.n 65536)).1 ((readI y.S d.ino at_ (min c.n 65536)).2:Int) (bl.strF (readI y.S d.ino at_ (min c.n 65536)).2 fun j=>(y.S.at d.ino).body.dat (at_.toNat+j)) 0 0 0:=if_neg h1
 generalize readI y.S d.ino at_ (min c.n 65536)=q at *
 by_cases h2:q.1≠0
 ·rw [if_pos h2] at e0
  refine ⟨?_,herr _ e0⟩
  rw [htv,e0,hq h2];rfl
 ·rw [if_neg h2] at e0
  have h2':q.1=0:=Classical.not_not.1 h2
  refine ⟨?_,?_,?_⟩
  ·rw [htv,e0,h2',str_fn];rfl
  ·intro hp;rw [e0];exact if_pos hp
  ·intro hp
   rw [e0]
   rw [if_neg (by rw [hp];decide)]
   rw [if_neg (by rw [hp];decide)] at hat
   subst hat
   rfl
theorem read_nn {room:Nat} {y:Sy} (hG:br.Good y.S room) {c:Cal} {p:Bool} {d:De} (h:fileD y.T c.fd (some 0)=(d,0)) (h0:0≤d.off) (h1:d.off≤1099511627776) (hp:p=false):0≤(doRead y c p).1.n∧d.off+(doRead y c p).1.n≤1099511627776:=by
 subst hp
 unfold doRead
 dsimp only
 rw [h,if_neg (fun e=>e rfl),min_if]
 generalize min c.n 65536=nn
 simp only [Bool.false_eq_true,if_false]
 split
 ·exact ⟨Int.le_refl 0,by show d.off+0≤_;omega⟩
 split
 ·exact ⟨Int.le_refl 0,by show d.off+0≤_;omega⟩
 ·have:=read_lim hG d.ino d.off nn h0 h1
  exact ⟨Int.natCast_nonneg _,this⟩
theorem read_err {y:Sy} {c:Cal} {p:Bool} {d:De} {e:Int} (h:fileD y.T c.fd (some 0)=(d,e)) (he:e≠0):doRead y c p=(wrong e,y):=by
 unfold doRead
 dsimp only
 rw [h,if_pos he]
theorem write_err9 {room:Nat} {y:Sy} {c:Cal} {p:Bool} {d:De} {e:Int} (h:fileD y.T c.fd (some 1)=(d,e)) (he:e≠0):DoWrite room y c p (wrong e) y:=by
 unfold DoWrite
 dsimp only
 rw [h,if_pos he]
 exact ⟨rfl,rfl⟩
theorem wri_err0 {S S':BS} {room:Nat} {i off:Int} {len p:Nat} {f:Nat→UInt8} {err:Int} (h:cb.WrI S room i off len f p err S') (he:err≠0):p=0:=by
 rcases h with ⟨_,e,_⟩|⟨_,h2,_⟩
 ·exact e
 ·unfold bl.WR at h2
  rcases h2 with ⟨_,e,_⟩|⟨_,_,e,_⟩|⟨_,_,e,_⟩|⟨_,_,_,_,e⟩
  ·exact e
  ·exact e
  ·exact e
  ·split at e
   ·assumption
   ·exact absurd e he
theorem write_does {room:Nat} {y:Sy} {c:Cal} {p:Bool} {d:De} (h:fileD y.T c.fd (some 1)=(d,0)) {q:Nat} {e:Int} {S':BS} (hw:cb.WrI y.S room d.ino (writeAt y c p d) c.a.size (sB c.a) q e S') :
  DoWrite room y c p ⟨e,(q:Int),e0,(0,0,0)⟩ (if e=0 then ⟨S',if p=true then y.T else setT y.T c.fd { d with off:=writeAt y c p d+(q:Int) }⟩ else ⟨S',y.T⟩):=by
 unfold DoWrite
 dsimp only
 rw [h,if_neg (fun e=>e rfl)]
 refine ⟨q,e,S',hw,fun he=>?_,fun he=>?_⟩
 ·rw [wri_err0 hw he,cb.write_err hw he,if_neg he]
  exact ⟨rfl,rfl⟩
 ·subst he
  exact ⟨rfl,if_pos rfl⟩
theorem m_pread {w0 w:World} {P B Q room T:Nat} {X:Nat→Prop} {y:Sy} (h:SyX w0 w P B Q X y room T) (hT:T≤990) (hh:Hd room y) (hl:Lim y.T) (c:Cal) :
  Calls Tryz.prog 64 #[Pq P,CV c] w (ME w0 w P B Q X room (T+3) (fun r y'=>(r,y')=doRead y c true)):=by
 obtain ⟨co,cf,cl,cn,cx,ca,cb⟩:=c
 have hhR:=Lib.hid h
 have HH:=Lib.hid hh
 unfold CV
 dsimp only
 obtain ⟨g,b,w1,w2,hg,hw1,hb,hw2,HG2,HR2,HQ,H2⟩:=m_entry h co cf cl cn cx ca cb
 have HD:=Lib.hid (me_done (w0:=w0) (w:=w) (P:=P) (B:=B) (Q:=Q) (X:=X) (room:=room) (T:=T+3) (rel:=fun r y'=>(r,y')=doRead y ⟨co,cf,cl,cn,cx,ca,cb⟩ true))
 have HT:=Lib.hid hT
 obtain ⟨c0,c1,c2,c3,c4,c5,c6⟩:=HG2.out.seven
 unfold ME
 clear h hT hh
 have HL:=Lib.hid hl
 clear hl
 have HC:=Lib.hid (file_any H2.out.sy cf 1 (some 0) ask_0)
 unfold FileE at HC
 obtain ⟨gv,hgv⟩:∃ gv,fileD y.T cf (some 0)=gv:=⟨_,rfl⟩
 have HGV:=Lib.hid hgv
 rw [hgv] at HC
 clear hgv
 obtain ⟨⟨d0,d1,d2,d3,xs,d5⟩,ge⟩:=gv
 unfold DV at HC
 dsimp only at HC
 obtain ⟨m,hm⟩:∃ m,xs.length=m:=⟨_,rfl⟩
 have HM:=Lib.hid hm
 rw [hm] at HC
 clear hm
 by_cases he:ge=0
 case neg =>
  have HF:=Lib.hid (read_err (c:=⟨co,cf,cl,cn,cx,ca,cb⟩) (p:=true) HGV.out he)
  generalize doRead y ⟨co,cf,cl,cn,cx,ca,cb⟩ true=dd at *
  have qe:(ge != 0)=true:=by simpa using he
  clear he
  go_enter Tryz.func64,Tryz.ntmps64
  go_wp2_with fail
  refine HC.out.mono ?_
  rintro _ w3 ⟨A,c,rfl,hda,hb3⟩
  have H4:=Lib.hid (fun ob=>H2.out.grow (bel_step hb3 (bel_alloc w3 ob)) rfl)
  have HR4:=Lib.hid (fun ob=>HR2.out.below (bel_step hb3 (bel_alloc w3 ob)))
  have HQB:=Lib.hid (fun ob=>(show b<(w3.alloc ob).heap.size by have h1:=HQ.out;have h3:=hb3.size;rw [World.size_alloc];omega))
  clear hb3 c0 c1 c2 c3 c4 c5 c6
  go_wp2_with fail
  refine (failed_any (ge) _).mono ?_
  rintro _ w7 ⟨rfl,hb7⟩
  have H7:=Lib.hid ((H4.out _).below hb7)
  have HR7:=Lib.hid ((HR4.out _).below hb7)
  obtain ⟨x0,x1,x2,x3,x4,x5⟩:=HR7.out.six
  obtain ⟨y0,y1,y2,y3,y4,y5⟩:=HR7.out.z6
  clear hb7 
  go_wp2_with fail
  refine bodyPost_ret (results_cell1 rfl _ _ b _ _ rfl (set6r HR7.out _ _ _ _ _ _).range Tryz.underlying39 (by rfl) (by rfl)) rfl ?_
  exact HD.out _ _ _ (HF.out.symm) ((H7.out.set6 HQ.out.2.1.1 (HQB.out _) _ _ _ _ _ _).up (by omega:T≤T+3)).done
 subst he
 have HRT:=Lib.hid (read_take (c:=⟨co,cf,cl,cn,cx,ca,cb⟩) (p:=true) HGV.out)
 have HF:=Lib.hid (Prod.ext (x:=doRead y ⟨co,cf,cl,cn,cx,ca,cb⟩ true) (y:=((doRead y ⟨co,cf,cl,cn,cx,ca,cb⟩ true).1,y)) rfl (HRT.out.2.1 rfl))
 have HTV:=Lib.hid (show takeV y.S d0 cx cn=RVr (doRead y ⟨co,cf,cl,cn,cx,ca,cb⟩ true).1 from HRT.out.1)
 clear HRT
 generalize (doRead y ⟨co,cf,cl,cn,cx,ca,cb⟩ true).1=r at *
 generalize doRead y ⟨co,cf,cl,cn,cx,ca,cb⟩ true=dd at *
 obtain ⟨re,rn,rs,⟨rk,rz,rl⟩⟩:=r
 go_enter Tryz.func64,Tryz.ntmps64
 go_wp2_with fail
 refine HC.out.mono ?_
 rintro _ w3 ⟨A,c,rfl,hda,hb3⟩
 obtain ⟨w4,g4,hw4,hg4,HP4,H4,HG4,HR4,HQ4,HN4,HQB,HQG,HDA,hmc⟩:=d_box H2 hb3 hda HG2 HR2 HQ
 clear hb3 hda c0 c1 c2 c3 c4 c5 c6
 have HTK:=Lib.hid (take_any H4.out.sy d0 cx cn)
 unfold RetW at HTK
 rw [HTV.out] at HTK
 unfold RVr at HTK
 dsimp only at HTK
 obtain ⟨z1,hz1⟩:∃ z1:Int,(rz:Int)=z1:=⟨_,rfl⟩
 have HZ:=Lib.hid hz1
 rw [hz1] at HTK
 clear hz1 HTV
 obtain ⟨t0,t1,t2,t3,t4,t5⟩:=HP4.out.six
 obtain ⟨c0,c1,c2,c3,c4,c5,c6⟩:=HG4.out.seven
 go_wp2_with fail
 refine HTK.out.mono ?_
 rintro _ w5 ⟨rfl,hb5⟩
 have H5:=Lib.hid (H4.out.below hb5)
 have HR5:=Lib.hid (HR4.out.below hb5)
 clear hb5 t0 t1 t2 t3 t4 t5 c0 c1 c2 c3 c4 c5 c6
 obtain ⟨x0,x1,x2,x3,x4,x5⟩:=HR5.out.six
 obtain ⟨y0,y1,y2,y3,y4,y5⟩:=HR5.out.z6
 go_wp2_with fail
 refine bodyPost_ret (results_cell1 rfl _ _ b _ _ rfl (set6r HR5.out _ _ _ _ _ _).range Tryz.underlying39 (by rfl) (by rfl)) rfl ?_
 have hz:=HZ.out
 subst hz
 exact HD.out _ _ _ (HF.out.symm) ((H5.out.set6 HQ.out.2.1.1 HQB.out _ _ _ _ _ _).up (by omega:T≤T+3)).done
theorem m_read {w0 w:World} {P B Q room T:Nat} {X:Nat→Prop} {y:Sy} (h:SyX w0 w P B Q X y room T) (hT:T≤990) (hh:Hd room y) (hl:Lim y.T) (c:Cal) :
  Calls Tryz.prog 62 #[Pq P,CV c] w (ME w0 w P B Q X room (T+3) (fun r y'=>(r,y')=doRead y c false)):=by
 obtain ⟨co,cf,cl,cn,cx,ca,cb⟩:=c
 have hhR:=Lib.hid h
 have HH:=Lib.hid hh
 unfold CV
 dsimp only
 obtain ⟨g,b,w1,w2,hg,hw1,hb,hw2,HG2,HR2,HQ,H2⟩:=m_entry h co cf cl cn cx ca cb
 have HD:=Lib.hid (me_done (w0:=w0) (w:=w) (P:=P) (B:=B) (Q:=Q) (X:=X) (room:=room) (T:=T+3) (rel:=fun r y'=>(r,y')=doRead y ⟨co,cf,cl,cn,cx,ca,cb⟩ false))
 have HT:=Lib.hid hT
 obtain ⟨c0,c1,c2,c3,c4,c5,c6⟩:=HG2.out.seven
 unfold ME
 clear h hT hh
 have HL:=Lib.hid hl
 clear hl
 have HC:=Lib.hid (file_any H2.out.sy cf 1 (some 0) ask_0)
 unfold FileE at HC
 obtain ⟨gv,hgv⟩:∃ gv,fileD y.T cf (some 0)=gv:=⟨_,rfl⟩
 have HGV:=Lib.hid hgv
 rw [hgv] at HC
 clear hgv
 obtain ⟨⟨d0,d1,d2,d3,xs,d5⟩,ge⟩:=gv
 unfold DV at HC
 dsimp only at HC
 obtain ⟨m,hm⟩:∃ m,xs.length=m:=⟨_,rfl⟩
 have HM:=Lib.hid hm
 rw [hm] at HC
 clear hm
 by_cases he:ge=0
 case neg =>
  have HF:=Lib.hid (read_err (c:=⟨co,cf,cl,cn,cx,ca,cb⟩) (p:=false) HGV.out he)
  generalize doRead y ⟨co,cf,cl,cn,cx,ca,cb⟩ false=dd at *
  have qe:(ge != 0)=true:=by simpa using he
  clear he
  go_enter Tryz.func62,Tryz.ntmps62
  go_wp2_with fail
  refine HC.out.mono ?_
  rintro _ w3 ⟨A,c,rfl,hda,hb3⟩
  have H4:=Lib.hid (fun ob=>H2.out.grow (bel_step hb3 (bel_alloc w3 ob)) rfl)
  have HR4:=Lib.hid (fun ob=>HR2.out.below (bel_step hb3 (bel_alloc w3 ob)))
  have HQB:=Lib.hid (fun ob=>(show b<(w3.alloc ob).heap.size by have h1:=HQ.out;have h3:=hb3.size;rw [World.size_alloc];omega))
  clear hb3 c0 c1 c2 c3 c4 c5 c6
  go_wp2_with fail
  refine (failed_any (ge) _).mono ?_
  rintro _ w7 ⟨rfl,hb7⟩
  have H7:=Lib.hid ((H4.out _).below hb7)
  have HR7:=Lib.hid ((HR4.out _).below hb7)
  obtain ⟨x0,x1,x2,x3,x4,x5⟩:=HR7.out.six
  obtain ⟨y0,y1,y2,y3,y4,y5⟩:=HR7.out.z6
  clear hb7 
  go_wp2_with fail
  refine bodyPost_ret (results_cell1 rfl _ _ b _ _ rfl (set6r HR7.out _ _ _ _ _ _).range Tryz.underlying39 (by rfl) (by rfl)) rfl ?_
  exact HD.out _ _ _ (HF.out.symm) ((H7.out.set6 HQ.out.2.1.1 (HQB.out _) _ _ _ _ _ _).up (by omega:T≤T+3)).done
 subst he
 obtain ⟨hg0,hi0⟩:=file_ok (T:=y.T) (fd:=cf) (k:=some 0) (by rw [HGV.out])
 rw [HGV.out] at hg0 hi0
 dsimp only at hi0
 obtain ⟨-,-,-,-,-,hp0,-,hn0⟩:=HH.out.get hg0
 obtain ⟨hp1,-,-⟩:=HL.out.get hg0
 dsimp only at hp0 hp1 hn0
 rw [HM.out] at hn0
 have HML:=Lib.hid (show m≤4000 from hn0)
 have HRT:=Lib.hid (read_take (c:=⟨co,cf,cl,cn,cx,ca,cb⟩) (p:=false) HGV.out)
 have HNN:=Lib.hid (read_nn hhR.out.good (c:=⟨co,cf,cl,cn,cx,ca,cb⟩) (p:=false) HGV.out hp0 hp1 rfl)
 have HF:=Lib.hid (show doRead y ⟨co,cf,cl,cn,cx,ca,cb⟩ false=((doRead y ⟨co,cf,cl,cn,cx,ca,cb⟩ false).1,(⟨y.S,setT y.T cf ⟨d0,d1,d2+(doRead y ⟨co,cf,cl,cn,cx,ca,cb⟩ false).1.n,d3,xs,d5⟩⟩:Sy)) from Prod.ext rfl (HRT.out.2.2 rfl))
 have HTV:=Lib.hid (show takeV y.S d0 d2 cn=RVr (doRead y ⟨co,cf,cl,cn,cx,ca,cb⟩ false).1 from HRT.out.1)
 clear HRT hg0 hi0 hn0
 generalize (doRead y ⟨co,cf,cl,cn,cx,ca,cb⟩ false).1=r at *
 generalize doRead y ⟨co,cf,cl,cn,cx,ca,cb⟩ false=dd at *
 obtain ⟨re,rn,rs,⟨rk,rz,rl⟩⟩:=r
 dsimp only at HNN HF
 go_enter Tryz.func62,Tryz.ntmps62
 go_wp2_with fail
 refine HC.out.mono ?_
 rintro _ w3 ⟨A,c,rfl,hda,hb3⟩
 obtain ⟨w4,g4,hw4,hg4,HP4,H4,HG4,HR4,HQ4,HN4,HQB,HQG,HDA,hmc⟩:=d_box H2 hb3 hda HG2 HR2 HQ
 clear hb3 hda c0 c1 c2 c3 c4 c5 c6
 have HTK:=Lib.hid (take_any H4.out.sy d0 d2 cn)
 unfold RetW at HTK
 rw [HTV.out] at HTK
 unfold RVr at HTK
 dsimp only at HTK
 obtain ⟨z1,hz1⟩:∃ z1:Int,(rz:Int)=z1:=⟨_,rfl⟩
 have HZ:=Lib.hid hz1
 rw [hz1] at HTK
 clear hz1 HTV
 obtain ⟨hr0,hr1⟩:=HNN.out
 obtain ⟨t0,t1,t2,t3,t4,t5⟩:=HP4.out.six
 obtain ⟨c0,c1,c2,c3,c4,c5,c6⟩:=HG4.out.seven
 go_wp2_with fail
 refine HTK.out.mono ?_
 rintro _ w5 ⟨rfl,hb5⟩
 obtain ⟨w6,hw6⟩:∃ w6,w5.alloc (.cells #[.int .i64 re,.int .i64 rn,.string rs,.int .i64 rk,.int .i64 z1,.int .i64 rl] 39)=w6:=⟨_,rfl⟩
 obtain ⟨g6,hg6⟩:∃ g6,w5.heap.size=g6:=⟨_,rfl⟩
 have hb56:Below w5.heap.size w5 w6:=by rw [← hw6];exact bel_alloc w5 _
 have hb6:=bel_step hb5 hb56
 have HV6:=Lib.hid (show Rw w6 g6 [.int .i64 re,.int .i64 rn,.string rs,.int .i64 rk,.int .i64 z1,.int .i64 rl] by rw [← hw6,← hg6];exact Rw.new w5 [.int .i64 re,.int .i64 rn,.string rs,.int .i64 rk,.int .i64 z1,.int .i64 rl] 39)
 have H6:=Lib.hid (H4.out.grow hb6 rfl)
 have HG6:=Lib.hid (HG4.out.below hb6)
 have HR6:=Lib.hid (HR4.out.below hb6)
 have HP6:=Lib.hid (HP4.out.below hb6)
 have HQ6:=Lib.hid (show (w.heap.size≤g6∧g6<w6.heap.size)∧g6≠g4∧g4<w6.heap.size∧b<w6.heap.size∧g<w6.heap.size by
  have h1:=HQ4.out;have h2:=HV6.out.lt;have h3:=hb5.size;have h4:=HQB.out;have h5:=HQG.out;have h6:=hb6.size;omega)
 have HDA6:=Lib.hid (fun (W:World) (d:De) (hd:d.ns=xs) (hk:∀ k,k<g4→W.heap[k]?=w6.heap[k]?) (hs:w6.heap.size≤W.heap.size)=>HDA.out W d hd (fun k hk2=>(hk k hk2).trans (hb6.block k (Nat.lt_trans hk2 HQ4.out.1.2))) (Nat.le_trans hb6.size hs))
 clear hb5 hb56 hb6 t0 t1 t2 t3 t4 t5 c0 c1 c2 c3 c4 c5 c6
 obtain ⟨t0,t1,t2,t3,t4,t5⟩:=HP6.out.six
 obtain ⟨u0,u1,u2,u3,u4,u5⟩:=HP6.out.z6
 obtain ⟨x0,x1,x2,x3,x4,x5⟩:=HV6.out.six
 have hwr:wrap64 (d2+rn)=d2+rn:=wrap64_id (by omega) (by omega)
 obtain ⟨w7,hw7⟩:∃ w7,w6.setCell ⟨g4,2,none⟩ (.int .i64 (d2+rn))=w7:=⟨_,rfl⟩
 have HP7:=Lib.hid (show Rw w7 g4 [.int .i64 d0,.int .i64 d1,.int .i64 (d2+rn),.bool d3,.slice A m c,.int .i64 d5] by rw [← hw7];exact set2f HP6.out _)
 have H7:=Lib.hid (show St w0 w w7 P B Q X w6.heap.size y room T by rw [← hw7];exact H6.out.set HQ4.out.1.1 HQ6.out.2.2.1 _)
 have HG7:=Lib.hid (show Rw w7 g _ by rw [← hw7];exact HG6.out.oth _ (Ne.symm HQ4.out.2.2))
 have HR7:=Lib.hid (show Rw w7 b _ by rw [← hw7];exact HR6.out.oth _ (Ne.symm HQ4.out.2.1))
 have HV7:=Lib.hid (show Rw w7 g6 _ by rw [← hw7];exact HV6.out.oth _ HQ6.out.2.1)
 have HDA7:=Lib.hid (HDA6.out w7.drew ⟨d0,d1,d2+rn,d3,xs,d5⟩ rfl (fun k hk=>by rw [← hw7];exact heap_set (Nat.ne_of_lt hk)) (by rw [← hw7];exact Nat.le_of_eq (size_set _ _ _).symm))
 go_wp2_with fail
 try rw [hwr]
 try rw [hw7]
 clear hwr hw7 t0 t1 t2 t3 t4 t5 u0 u1 u2 u3 u4 u5 x0 x1 x2 x3 x4 x5
 have H5d:=Lib.hid (H7.out.below (Below.refl w7.heap.size w7).drew)
 have HP5d:=Lib.hid (HP7.out.below (Below.refl w7.heap.size w7).drew)
 have HG5d:=Lib.hid (HG7.out.below (Below.refl w7.heap.size w7).drew)
 have HR5d:=Lib.hid (HR7.out.below (Below.refl w7.heap.size w7).drew)
 have HV7d:=Lib.hid (HV7.out.below (Below.refl w7.heap.size w7).drew)
 have HS:=Lib.hid (p_set H5d.out.sy (d:=⟨d0,d1,d2+rn,d3,xs,d5⟩) HDA7.out (by have:=HML.out;omega) cf)
 unfold StepE DV at HS
 dsimp only at HS
 have S0:w7.cell? ⟨P,1,none⟩=some (Pq Q)∧w7.cell? ⟨g,1,none⟩=some (.int .i64 cf)∧w7.cell? ⟨g4,0,none⟩=some (.int .i64 d0)∧w7.cell? ⟨g4,1,none⟩=some (.int .i64 d1)∧w7.cell? ⟨g4,2,none⟩=some (.int .i64 (d2+rn))∧w7.cell? ⟨g4,3,none⟩=some (.bool d3)∧w7.cell? ⟨g4,4,none⟩=some (.slice A m c)∧w7.cell? ⟨g4,5,none⟩=some (.int .i64 d5):=⟨H7.out.c1,HG7.out.c 1 _ rfl,HP7.out.six⟩
 go_wp2_with fail
 go_region_held3 (fun w'=>w'.cell? ⟨P,1,none⟩=some (Pq Q)∧w'.cell? ⟨g,1,none⟩=some (.int .i64 cf)∧w'.cell? ⟨g4,0,none⟩=some (.int .i64 d0)∧w'.cell? ⟨g4,1,none⟩=some (.int .i64 d1)∧w'.cell? ⟨g4,2,none⟩=some (.int .i64 (d2+rn))∧w'.cell? ⟨g4,3,none⟩=some (.bool d3)∧w'.cell? ⟨g4,4,none⟩=some (.slice A m c)∧w'.cell? ⟨g4,5,none⟩=some (.int .i64 d5))
  (first|with_reducible exact S0|with_reducible exact S8|assumption|go_keep)
  (first|(go_at_call 122;((with_reducible refine HS.out.mono ?_);rintro _ w8 ⟨rfl,k1,k2⟩;have l1:=k1;have l2:=k2;have H8:=Lib.hid (H5d.out.move l1 l2);have HR8:=Lib.hid (HR5d.out.keep l2 HQ.out.2.1.1 HQ6.out.2.2.2.1 l1);have HP8:=Lib.hid (HP5d.out.keep l2 HQ4.out.1.1 HQ6.out.2.2.1 l1);have HG8:=Lib.hid (HG5d.out.keep l2 HQ.out.1.1 HQ6.out.2.2.2.2 l1);have HV8:=Lib.hid (HV7d.out.keep l2 HQ6.out.1.1 HQ6.out.1.2 l1);have S8:w8.cell? ⟨P,1,none⟩=some (Pq Q)∧w8.cell? ⟨g,1,none⟩=some (.int .i64 cf)∧w8.cell? ⟨g4,0,none⟩=some (.int .i64 d0)∧w8.cell? ⟨g4,1,none⟩=some (.int .i64 d1)∧w8.cell? ⟨g4,2,none⟩=some (.int .i64 (d2+rn))∧w8.cell? ⟨g4,3,none⟩=some (.bool d3)∧w8.cell? ⟨g4,4,none⟩=some (.slice A m c)∧w8.cell? ⟨g4,5,none⟩=some (.int .i64 d5):=⟨l1.c1,HG8.out.c 1 _ rfl,HP8.out.six⟩;clear l1 l2 k1 k2)))
 all_goals
  clear S0 S8
  obtain ⟨v0,v1,v2,v3,v4,v5⟩:=HV8.out.six
  obtain ⟨x0,x1,x2,x3,x4,x5⟩:=HR8.out.six
  obtain ⟨y0,y1,y2,y3,y4,y5⟩:=HR8.out.z6
  go_wp2_with fail
  refine bodyPost_ret (results_cell1 rfl _ _ b _ _ rfl (set6r HR8.out _ _ _ _ _ _).range Tryz.underlying39 (by rfl) (by rfl)) rfl ?_
  have hz:=HZ.out
  subst hz
  exact HD.out _ _ _ (HF.out.symm) ((H8.out.set6 HQ.out.2.1.1 HQ6.out.2.2.2.1 _ _ _ _ _ _).up (by omega:T≤T+3)).done
end Go.Proofs.YtpmpbmjjlccbbaaGreat.tr
