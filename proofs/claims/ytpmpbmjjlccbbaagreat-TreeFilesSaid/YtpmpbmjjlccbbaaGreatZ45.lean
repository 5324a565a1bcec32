/- Part 45 of what is known of the program's functions and of the document's words: contracts, and the mathematics beneath them. -/
import Derived.Test.YtpmpbmjjlccbbaaGreatProg
import Derived.Test.YtpmpbmjjlccbbaaGreatZ33
import Derived.Test.YtpmpbmjjlccbbaaGreatZ41
import Derived.Test.YtpmpbmjjlccbbaaGreatZ43
import Derived.Test.YtpmpbmjjlccbbaaGreatZ44
set_option linter.unusedVariables false
set_option linter.unusedSimpArgs false
set_option maxRecDepth 100000
set_option maxHeartbeats 8000000
namespace Go.Proofs.YtpmpbmjjlccbbaaGreat.tr
open Go.RowKit
open br (BS Inv Ino)
open cb (BrX RetW RetI)
open bl (Pq)
open wk (walkT pe pn pd e0 r0 dot1 dot2)
open ds (De Tb DA DV DL GetE StE IntsE lowV openT getV errV setT closeT full allT dz)
open pa (Bs Sv Strs Own own_form info9 own_base)
theorem wrap64_id {n:Int} (h1:-9223372036854775808≤n) (h2:n≤9223372036854775807):wrap64 n=n:=by unfold wrap64;omega
theorem da_over {w W:World} {A:Option Addr} {n c:Nat} {d d':De} (h:DA w A n c d) (hk:∀ k,k<w.heap.size→W.heap[k]?=w.heap[k]?) (hs:w.heap.size≤W.heap.size) (hn:d'.ns=d.ns):DA W A n c d':=by
 refine ⟨by rw [hn];exact h.len,h.cap,?_⟩
 rw [hn]
 intro hp
 obtain ⟨ad,e,h1,h2⟩:=h.st hp
 exact ⟨ad,e,Nat.lt_of_lt_of_le h1 hs,fun j x hx=>(World.cell?_of_block (a:=ad.add j) (by rw [pa.addr_block];exact hk _ h1)).trans (h2 j x hx)⟩
theorem d_box {w0 w w2 w3:World} {P B Q room T g b m c:Nat} {X:Nat→Prop} {y:Sy} {A:Option Addr} {d0 d1 d2 d5:Int} {d3:Bool} {xs:List Bs} {vs us:List Value}
  (H2:Hid (St w0 w w2 P B Q X w2.heap.size y room T)) (hb3:Below w2.heap.size w2 w3) (hda:DA w3 A m c ⟨d0,d1,d2,d3,xs,d5⟩) (HG2:Hid (Rw w2 g vs)) (HR2:Hid (Rw w2 b us)) (HQ:Hid ((w.heap.size≤g∧g<w2.heap.size)∧(w.heap.size≤b∧b<w2.heap.size)∧g≠b)) :
  ∃ (w4:World) (g4:Nat),w3.alloc (.cells #[.int .i64 d0,.int .i64 d1,.int .i64 d2,.bool d3,.slice A m c,.int .i64 d5] 72)=w4∧w3.heap.size=g4∧Hid (Rw w4 g4 [.int .i64 d0,.int .i64 d1,.int .i64 d2,.bool d3,.slice A m c,.int .i64 d5])∧Hid (St w0 w w4 P B Q X w4.heap.size y room T)∧Hid (Rw w4 g vs)∧Hid (Rw w4 b us)∧Hid ((w.heap.size≤g4∧g4<w4.heap.size)∧g4≠b∧g4≠g)∧Hid (w2.heap.size≤w4.heap.size)∧Hid (b<w4.heap.size)∧Hid (g<w4.heap.size) ∧
   Hid (∀ (W:World) (d:De),d.ns=xs→(∀ k,k<g4→W.heap[k]?=w4.heap[k]?)→w4.heap.size≤W.heap.size→DA W A m c d)∧(m≤c∧c≤maxLen):=by
 have hb34:=bel_alloc w3 (.cells #[.int .i64 d0,.int .i64 d1,.int .i64 d2,.bool d3,.slice A m c,.int .i64 d5] 72)
 have hb4:=bel_step hb3 hb34
 have hsz:=World.size_alloc w3 (.cells #[.int .i64 d0,.int .i64 d1,.int .i64 d2,.bool d3,.slice A m c,.int .i64 d5] 72)
 have h1:=HQ.out
 have h3:=hb3.size
 have h4:=H2.out.wn
 refine ⟨_,_,rfl,rfl,Lib.hid (Rw.new w3 [.int .i64 d0,.int .i64 d1,.int .i64 d2,.bool d3,.slice A m c,.int .i64 d5] 72),Lib.hid (H2.out.grow hb4 rfl),Lib.hid (HG2.out.below hb4),Lib.hid (HR2.out.below hb4),Lib.hid (by omega),Lib.hid hb4.size,Lib.hid (by omega),Lib.hid (by omega),Lib.hid (fun W d hd hk hs=>?_),hda.cap⟩
 exact da_over (d':=d) hda (fun k h1=>(hk k h1).trans (hb34.block k h1)) (Nat.le_trans hb34.size hs) hd
theorem fileD_err {T:Tb} {fd:Int} {k:Option Nat} {d:De} {e:Int} (h:fileD T fd k=(d,e)) (he:e≠0):e=9:=by
 unfold fileD at h
 split at h
 ·injection h with _ h;exact h.symm
 ·injection h with _ h;exact absurd h.symm he
theorem dirD_err {T:Tb} {fd:Int} {d:De} {e:Int} (h:dirD T fd=(d,e)) (he:e≠0):e=9∧((getV T fd).2≠0∨(getV T fd).1.isd=false):=by
 unfold dirD at h
 split at h
 ·rename_i hc;injection h with _ h;exact ⟨h.symm,hc⟩
 ·injection h with _ h;exact absurd h.symm he
theorem dirD_ok {T:Tb} {fd:Int} {d:De} (h:dirD T fd=(d,0)):getV T fd=(d,0)∧d.isd=true:=by
 unfold dirD at h
 split at h
 ·injection h with _ h;exact absurd h (by decide)
 ·rename_i hc
  injection h with h1 _
  have e1:(getV T fd).2=0:=Classical.byContradiction fun e=>hc (.inl e)
  have e2:(getV T fd).1.isd=true:=by
   cases hx:(getV T fd).1.isd
   ·exact absurd (.inr hx) hc
   ·rfl
  subst h1
  exact ⟨Prod.ext rfl e1,e2⟩
theorem set6f {w:World} {b:Nat} {v0 v1 v2 v3 v4 v5:Value} (h:Rw w b [v0,v1,v2,v3,v4,v5]) (x:Value):Rw (w.setCell ⟨b,5,none⟩ x) b [v0,v1,v2,v3,v4,x]:=h.set (i:=5) (by simp) x
theorem set2f {w:World} {b:Nat} {v0 v1 v2 v3 v4 v5:Value} (h:Rw w b [v0,v1,v2,v3,v4,v5]) (x:Value):Rw (w.setCell ⟨b,2,none⟩ x) b [v0,v1,x,v3,v4,v5]:=h.set (i:=2) (by simp) x
theorem set4f {w:World} {b:Nat} {v0 v1 v2 v3 v4 v5:Value} (h:Rw w b [v0,v1,v2,v3,v4,v5]) (x:Value):Rw (w.setCell ⟨b,4,none⟩ x) b [v0,v1,v2,v3,x,v5]:=h.set (i:=4) (by simp) x
theorem Rw.oth {W:World} {b g i:Nat} {vs:List Value} (h:Rw W g vs) (v:Value) (hne:g≠b):Rw (W.setCell ⟨b,i,none⟩ v) g vs :=
 h.same (heap_set hne) (by have:=h.lt;simpa [World.setCell] using this)
theorem size_set (W:World) (a:Addr) (v:Value):(W.setCell a v).heap.size=W.heap.size:=by simp [World.setCell]
theorem rd_end {y:Sy} {c:Cal} {d:De} (hg:getV y.T c.fd=(d,0)) (hi:d.isd=true) (h:d.ns[d.pos.toNat]?=none):doReaddir y c=(wrong 0,y):=by
 unfold doReaddir
 dsimp only
 rw [hg,if_neg (fun e=>by rcases e with e|e;exact e rfl;rw [hi] at e;cases e),h]
theorem rd_next {y:Sy} {c:Cal} {d:De} {s:List UInt8} (hg:getV y.T c.fd=(d,0)) (hi:d.isd=true) (h:d.ns[d.pos.toNat]?=some s):doReaddir y c=(⟨0,1,⟨s.toArray⟩,(0,0,0)⟩,⟨y.S,setT y.T c.fd { d with pos:=d.pos+1 }⟩):=by
 unfold doReaddir
 dsimp only
 rw [hg,if_neg (fun e=>by rcases e with e|e;exact e rfl;rw [hi] at e;cases e),h]
theorem rd_err {y:Sy} {c:Cal} {d:De} {e:Int} (h:dirD y.T c.fd=(d,e)) (he:e≠0):doReaddir y c=(wrong e,y):=by
 obtain ⟨rfl,h1⟩:=dirD_err h he
 unfold doReaddir
 exact if_pos h1
theorem rw_err {y:Sy} {c:Cal} {d:De} {e:Int} (h:dirD y.T c.fd=(d,e)) (he:e≠0):doRewind y c=(wrong e,y):=by
 obtain ⟨rfl,h1⟩:=dirD_err h he
 unfold doRewind
 exact if_pos h1
theorem rw_ok {y:Sy} {c:Cal} {d:De} (hg:getV y.T c.fd=(d,0)) (hi:d.isd=true):doRewind y c=(wrong 0,⟨y.S,setT y.T c.fd { d with ns:=namesOf y.S d.ino,pos:=0 }⟩):=by
 unfold doRewind
 dsimp only
 rw [hg,if_neg (fun e=>by rcases e with e|e;exact e rfl;rw [hi] at e;cases e)]
theorem m_readdir {w0 w:World} {P B Q room T:Nat} {X:Nat→Prop} {y:Sy} (h:SyX w0 w P B Q X y room T) (hT:T≤990) (hh:Hd room y) (hl:Lim y.T) (c:Cal) :
  Calls Tryz.prog 78 #[Pq P,CV c] w (ME w0 w P B Q X room (T+3) (fun r y'=>(r,y')=doReaddir y c)):=by
 obtain ⟨co,cf,cl,cn,cx,ca,cb⟩:=c
 have hhR:=Lib.hid h
 have HH:=Lib.hid hh
 unfold CV
 dsimp only
 obtain ⟨g,b,w1,w2,hg,hw1,hb,hw2,HG2,HR2,HQ,H2⟩:=m_entry h co cf cl cn cx ca cb
 have HD:=Lib.hid (me_done (w0:=w0) (w:=w) (P:=P) (B:=B) (Q:=Q) (X:=X) (room:=room) (T:=T+3) (rel:=fun r y'=>(r,y')=doReaddir y ⟨co,cf,cl,cn,cx,ca,cb⟩))
 have HT:=Lib.hid hT
 obtain ⟨c0,c1,c2,c3,c4,c5,c6⟩:=HG2.out.seven
 unfold ME
 clear h hT hh
 have HL:=Lib.hid hl
 clear hl
 have HC:=Lib.hid (dir_any H2.out.sy cf)
 unfold FileE at HC
 obtain ⟨gv,hgv⟩:∃ gv,dirD y.T cf=gv:=⟨_,rfl⟩
 have HGV:=Lib.hid hgv
 rw [hgv] at HC
 clear hgv
 obtain ⟨⟨d0,d1,d2,d3,xs,d5⟩,ge⟩:=gv
 unfold DV at HC
 dsimp only at HC
 obtain ⟨m,hm⟩:∃ m,xs.length=m:=⟨_,rfl⟩
 have HM:=Lib.hid hm
 rw [hm] at HC
 clear hm
 by_cases he:ge=0
 case neg =>
  have HF:=Lib.hid (rd_err (c:=⟨co,cf,cl,cn,cx,ca,cb⟩) HGV.out he)
  generalize doReaddir y ⟨co,cf,cl,cn,cx,ca,cb⟩=dd at *
  have qe:(ge != 0)=true:=by simpa using he
  clear he
  go_enter Tryz.func78,Tryz.ntmps78
  go_wp2_with fail
  refine HC.out.mono ?_
  rintro _ w3 ⟨A,c,rfl,hda,hb3⟩
  have H4:=Lib.hid (fun ob=>H2.out.grow (bel_step hb3 (bel_alloc w3 ob)) rfl)
  have HR4:=Lib.hid (fun ob=>HR2.out.below (bel_step hb3 (bel_alloc w3 ob)))
  have HQB:=Lib.hid (fun ob=>(show b<(w3.alloc ob).heap.size by have h1:=HQ.out;have h3:=hb3.size;rw [World.size_alloc];omega))
  clear hb3 c0 c1 c2 c3 c4 c5 c6
  go_wp2_with fail
  refine (failed_any (ge) _).mono ?_
  rintro _ w7 ⟨rfl,hb7⟩
  have H7:=Lib.hid ((H4.out _).below hb7)
  have HR7:=Lib.hid ((HR4.out _).below hb7)
  obtain ⟨x0,x1,x2,x3,x4,x5⟩:=HR7.out.six
  obtain ⟨y0,y1,y2,y3,y4,y5⟩:=HR7.out.z6
  clear hb7 
  go_wp2_with fail
  refine bodyPost_ret (results_cell1 rfl _ _ b _ _ rfl (set6r HR7.out _ _ _ _ _ _).range Tryz.underlying39 (by rfl) (by rfl)) rfl ?_
  exact HD.out _ _ _ (HF.out.symm) ((H7.out.set6 HQ.out.2.1.1 (HQB.out _) _ _ _ _ _ _).up (by omega:T≤T+3)).done
 subst he
 obtain ⟨hg0,hi0⟩:=dirD_ok HGV.out
 dsimp only at hi0
 obtain ⟨-,-,-,-,-,-,hp0,hn0⟩:=HH.out.get hg0
 obtain ⟨-,hp1,-⟩:=HL.out.get hg0
 dsimp only at hp0 hp1 hn0
 obtain ⟨p,hp⟩:∃ p:Nat,d5=(p:Int):=⟨d5.toNat,by omega⟩
 subst hp
 rw [HM.out] at hp1 hn0
 have HML:=Lib.hid (show m≤4000 from hn0)
 by_cases hpm:p=m
 ·have hx:xs[p]?=none:=List.getElem?_eq_none (by rw [HM.out];omega)
  have HF:=Lib.hid (rd_end (c:=⟨co,cf,cl,cn,cx,ca,cb⟩) hg0 hi0 (by rw [Int.toNat_natCast];exact hx))
  generalize doReaddir y ⟨co,cf,cl,cn,cx,ca,cb⟩=dd at *
  subst hpm
  clear hg0 hi0 hp0 hp1 hn0 hx HGV
  go_enter Tryz.func78,Tryz.ntmps78
  go_wp2_with fail
  refine HC.out.mono ?_
  rintro _ w3 ⟨A,c,rfl,hda,hb3⟩
  obtain ⟨w4,g4,hw4,hg4,HP4,H4,HG4,HR4,HQ4,HN4,HQB,HQG,HDA,hmc⟩:=d_box H2 hb3 hda HG2 HR2 HQ
  clear hb3 hda c0 c1 c2 c3 c4 c5 c6
  obtain ⟨t0,t1,t2,t3,t4,t5⟩:=HP4.out.six
  obtain ⟨x0,x1,x2,x3,x4,x5⟩:=HR4.out.six
  obtain ⟨y0,y1,y2,y3,y4,y5⟩:=HR4.out.z6
  go_wp2_with fail
  refine bodyPost_ret (results_cell1 rfl _ _ b _ _ rfl (set6r HR4.out _ _ _ _ _ _).range Tryz.underlying39 (by rfl) (by rfl)) rfl ?_
  exact HD.out _ _ _ (HF.out.symm) ((H4.out.set6 HQ.out.2.1.1 HQB.out _ _ _ _ _ _).up (by omega:T≤T+3)).done
 ·have hpl:p<m:=by omega
  obtain ⟨s,hx⟩:∃ s,xs[p]?=some s:=⟨_,List.getElem?_eq_getElem (by rw [HM.out];exact hpl)⟩
  have HF:=Lib.hid (rd_next (c:=⟨co,cf,cl,cn,cx,ca,cb⟩) hg0 hi0 (by rw [Int.toNat_natCast];exact hx))
  dsimp only at HF
  generalize doReaddir y ⟨co,cf,cl,cn,cx,ca,cb⟩=dd at *
  have qe:((p:Int) == (m:Int))=false:=by simp;omega
  have hpi:(p:Int)<(m:Int):=by omega
  clear hg0 hi0 hp0 hp1 hn0 HGV hpm
  go_enter Tryz.func78,Tryz.ntmps78
  go_wp2_with fail
  refine HC.out.mono ?_
  rintro _ w3 ⟨A,c,rfl,hda,hb3⟩
  obtain ⟨w4,g4,hw4,hg4,HP4,H4,HG4,HR4,HQ4,HN4,HQB,HQG,HDA,hmc⟩:=d_box H2 hb3 hda HG2 HR2 HQ
  clear hb3 hda c0 c1 c2 c3 c4 c5 c6
  obtain ⟨ad,hA,-,hcell⟩:=(HDA.out w4 ⟨d0,d1,d2,d3,xs,(p:Int)⟩ rfl (fun _ _=>rfl) (Nat.le_refl _)).st (by rw [HM.out];omega)
  subst hA
  have hs:=hcell p s hx
  have hsv:Sv s=.string ⟨s.toArray⟩:=rfl
  rw [hsv] at hs
  obtain ⟨t0,t1,t2,t3,t4,t5⟩:=HP4.out.six
  obtain ⟨u0,u1,u2,u3,u4,u5⟩:=HP4.out.z6
  clear hcell hx hsv
  have hwr:wrap64 ((p:Int)+1)=(p:Int)+1:=by have:=HML.out;exact wrap64_id (by omega) (by omega)
  obtain ⟨w5,hw5⟩:∃ w5,w4.setCell ⟨g4,5,none⟩ (.int .i64 ((p:Int)+1))=w5:=⟨_,rfl⟩
  have HP5:=Lib.hid (show Rw w5 g4 [.int .i64 d0,.int .i64 d1,.int .i64 d2,.bool d3,.slice (some ad) m c,.int .i64 ((p:Int)+1)] by rw [← hw5];exact set6f HP4.out _)
  have H5:=Lib.hid (show St w0 w w5 P B Q X w4.heap.size y room T by rw [← hw5];exact H4.out.set HQ4.out.1.1 HQ4.out.1.2 _)
  have HG5:=Lib.hid (show Rw w5 g _ by rw [← hw5];exact HG4.out.oth _ (Ne.symm HQ4.out.2.2))
  have HR5:=Lib.hid (show Rw w5 b _ by rw [← hw5];exact HR4.out.oth _ (Ne.symm HQ4.out.2.1))
  have HDA5:=Lib.hid (HDA.out w5.drew ⟨d0,d1,d2,d3,xs,(p:Int)+1⟩ rfl (fun k hk=>by rw [← hw5];exact heap_set (Nat.ne_of_lt hk)) (by rw [← hw5];exact Nat.le_of_eq (size_set _ _ _).symm))
  go_wp2_with fail
  try rw [hwr]
  try rw [hw5]
  clear hwr hw5 t0 t1 t2 t3 t4 t5 u0 u1 u2 u3 u4 u5 hs
  have H5d:=Lib.hid (H5.out.below (Below.refl w5.heap.size w5).drew)
  have HP5d:=Lib.hid (HP5.out.below (Below.refl w5.heap.size w5).drew)
  have HG5d:=Lib.hid (HG5.out.below (Below.refl w5.heap.size w5).drew)
  have HR5d:=Lib.hid (HR5.out.below (Below.refl w5.heap.size w5).drew)
  have HS:=Lib.hid (p_set H5d.out.sy (d:=⟨d0,d1,d2,d3,xs,(p:Int)+1⟩) HDA5 (by have:=HML.out;omega) cf)
  unfold StepE DV at HS
  dsimp only at HS
  have S0:w5.cell? ⟨P,1,none⟩=some (Pq Q)∧w5.cell? ⟨g,1,none⟩=some (.int .i64 cf)∧w5.cell? ⟨g4,0,none⟩=some (.int .i64 d0)∧w5.cell? ⟨g4,1,none⟩=some (.int .i64 d1)∧w5.cell? ⟨g4,2,none⟩=some (.int .i64 d2)∧w5.cell? ⟨g4,3,none⟩=some (.bool d3)∧w5.cell? ⟨g4,4,none⟩=some (.slice (some ad) m c)∧w5.cell? ⟨g4,5,none⟩=some (.int .i64 ((p:Int)+1)):=⟨H5.out.c1,HG5.out.c 1 _ rfl,HP5.out.six⟩
  go_wp2_with fail
  go_region_held3 (fun w'=>w'.cell? ⟨P,1,none⟩=some (Pq Q)∧w'.cell? ⟨g,1,none⟩=some (.int .i64 cf)∧w'.cell? ⟨g4,0,none⟩=some (.int .i64 d0)∧w'.cell? ⟨g4,1,none⟩=some (.int .i64 d1)∧w'.cell? ⟨g4,2,none⟩=some (.int .i64 d2)∧w'.cell? ⟨g4,3,none⟩=some (.bool d3)∧w'.cell? ⟨g4,4,none⟩=some (.slice (some ad) m c)∧w'.cell? ⟨g4,5,none⟩=some (.int .i64 ((p:Int)+1)))
   (first|with_reducible exact S0|with_reducible exact S8|assumption|go_keep)
   (first|(go_at_call 122;((with_reducible refine HS.out.mono ?_);rintro _ w8 ⟨rfl,k1,k2⟩;have l1:=k1;have l2:=k2;have H8:=Lib.hid (H5d.out.move l1 l2);have HR8:=Lib.hid (HR5d.out.keep l2 HQ.out.2.1.1 HQB.out l1);have HP8:=Lib.hid (HP5d.out.keep l2 HQ4.out.1.1 HQ4.out.1.2 l1);have HG8:=Lib.hid (HG5d.out.keep l2 HQ.out.1.1 HQG.out l1);have S8:w8.cell? ⟨P,1,none⟩=some (Pq Q)∧w8.cell? ⟨g,1,none⟩=some (.int .i64 cf)∧w8.cell? ⟨g4,0,none⟩=some (.int .i64 d0)∧w8.cell? ⟨g4,1,none⟩=some (.int .i64 d1)∧w8.cell? ⟨g4,2,none⟩=some (.int .i64 d2)∧w8.cell? ⟨g4,3,none⟩=some (.bool d3)∧w8.cell? ⟨g4,4,none⟩=some (.slice (some ad) m c)∧w8.cell? ⟨g4,5,none⟩=some (.int .i64 ((p:Int)+1)):=⟨l1.c1,HG8.out.c 1 _ rfl,HP8.out.six⟩;clear l1 l2 k1 k2)))
  all_goals
   clear S0 S8
   obtain ⟨x0,x1,x2,x3,x4,x5⟩:=HR8.out.six
   obtain ⟨y0,y1,y2,y3,y4,y5⟩:=HR8.out.z6
   go_wp2_with fail
   refine bodyPost_ret (results_cell1 rfl _ _ b _ _ rfl (set6r HR8.out _ _ _ _ _ _).range Tryz.underlying39 (by rfl) (by rfl)) rfl ?_
   exact HD.out _ _ _ (HF.out.symm) ((H8.out.set6 HQ.out.2.1.1 HQB.out _ _ _ _ _ _).up (by omega:T≤T+3)).done
theorem m_rewind {w0 w:World} {P B Q room T:Nat} {X:Nat→Prop} {y:Sy} (h:SyX w0 w P B Q X y room T) (hT:T≤990) (hh:Hd room y) (hl:Lim y.T) (c:Cal) :
  Calls Tryz.prog 79 #[Pq P,CV c] w (ME w0 w P B Q X room (T+3) (fun r y'=>(r,y')=doRewind y c)):=by
 obtain ⟨co,cf,cl,cn,cx,ca,cb⟩:=c
 have hhR:=Lib.hid h
 have HH:=Lib.hid hh
 unfold CV
 dsimp only
 obtain ⟨g,b,w1,w2,hg,hw1,hb,hw2,HG2,HR2,HQ,H2⟩:=m_entry h co cf cl cn cx ca cb
 have HD:=Lib.hid (me_done (w0:=w0) (w:=w) (P:=P) (B:=B) (Q:=Q) (X:=X) (room:=room) (T:=T+3) (rel:=fun r y'=>(r,y')=doRewind y ⟨co,cf,cl,cn,cx,ca,cb⟩))
 have HT:=Lib.hid hT
 obtain ⟨c0,c1,c2,c3,c4,c5,c6⟩:=HG2.out.seven
 unfold ME
 clear h hT hh
 have HL:=Lib.hid hl
 clear hl
 have HC:=Lib.hid (dir_any H2.out.sy cf)
 unfold FileE at HC
 obtain ⟨gv,hgv⟩:∃ gv,dirD y.T cf=gv:=⟨_,rfl⟩
 have HGV:=Lib.hid hgv
 rw [hgv] at HC
 clear hgv
 obtain ⟨⟨d0,d1,d2,d3,xs,d5⟩,ge⟩:=gv
 unfold DV at HC
 dsimp only at HC
 obtain ⟨m,hm⟩:∃ m,xs.length=m:=⟨_,rfl⟩
 have HM:=Lib.hid hm
 rw [hm] at HC
 clear hm
 by_cases he:ge=0
 case neg =>
  have HF:=Lib.hid (rw_err (c:=⟨co,cf,cl,cn,cx,ca,cb⟩) HGV.out he)
  generalize doRewind y ⟨co,cf,cl,cn,cx,ca,cb⟩=dd at *
  have qe:(ge != 0)=true:=by simpa using he
  clear he
  go_enter Tryz.func79,Tryz.ntmps79
  go_wp2_with fail
  refine HC.out.mono ?_
  rintro _ w3 ⟨A,c,rfl,hda,hb3⟩
  have H4:=Lib.hid (fun ob=>H2.out.grow (bel_step hb3 (bel_alloc w3 ob)) rfl)
  have HR4:=Lib.hid (fun ob=>HR2.out.below (bel_step hb3 (bel_alloc w3 ob)))
  have HQB:=Lib.hid (fun ob=>(show b<(w3.alloc ob).heap.size by have h1:=HQ.out;have h3:=hb3.size;rw [World.size_alloc];omega))
  clear hb3 c0 c1 c2 c3 c4 c5 c6
  go_wp2_with fail
  refine (failed_any (ge) _).mono ?_
  rintro _ w7 ⟨rfl,hb7⟩
  have H7:=Lib.hid ((H4.out _).below hb7)
  have HR7:=Lib.hid ((HR4.out _).below hb7)
  obtain ⟨x0,x1,x2,x3,x4,x5⟩:=HR7.out.six
  obtain ⟨y0,y1,y2,y3,y4,y5⟩:=HR7.out.z6
  clear hb7 
  go_wp2_with fail
  refine bodyPost_ret (results_cell1 rfl _ _ b _ _ rfl (set6r HR7.out _ _ _ _ _ _).range Tryz.underlying39 (by rfl) (by rfl)) rfl ?_
  exact HD.out _ _ _ (HF.out.symm) ((H7.out.set6 HQ.out.2.1.1 (HQB.out _) _ _ _ _ _ _).up (by omega:T≤T+3)).done
 subst he
 obtain ⟨hg0,hi0⟩:=dirD_ok HGV.out
 have hft:=HH.out.get hg0
 have hal:=all_there hft.there
 rw [hft.kindOf,hi0,if_pos rfl,if_pos rfl] at hal
 have HF:=Lib.hid (rw_ok (c:=⟨co,cf,cl,cn,cx,ca,cb⟩) hg0 hi0)
 dsimp only at HF hal
 have HML:=Lib.hid (names_le hhR.out.good.1 d0)
 generalize doRewind y ⟨co,cf,cl,cn,cx,ca,cb⟩=dd at *
 go_enter Tryz.func79,Tryz.ntmps79
 go_wp2_with fail
 refine HC.out.mono ?_
 rintro _ w3 ⟨A,c,rfl,hda,hb3⟩
 obtain ⟨w4,g4,hw4,hg4,HP4,H4,HG4,HR4,HQ4,HN4,HQB,HQG,HDA,hmc⟩:=d_box H2 hb3 hda HG2 HR2 HQ
 clear hb3 hda c0 c1 c2 c3 c4 c5 c6
 have HN:=Lib.hid (names_any H4.out.sy d0)
 unfold NamE at HN
 rw [hal] at HN
 clear hal hft hg0 hi0
 generalize namesOf y.S d0=ns at *
 obtain ⟨q,hq⟩:∃ q,ns.length=q:=⟨_,rfl⟩
 have HQN:=Lib.hid hq
 rw [hq] at HN HML
 clear hq
 obtain ⟨t0,t1,t2,t3,t4,t5⟩:=HP4.out.six
 go_wp2_with fail
 refine HN.out.mono ?_
 rintro _ w5 ⟨A5,c5,rfl,hc5,hst5,hb5,hlo5⟩
 have HC5:=Lib.hid hc5
 have HST:=Lib.hid hst5
 have HLO:=Lib.hid hlo5
 have H5:=Lib.hid (H4.out.below hb5)
 have HP5:=Lib.hid (HP4.out.below hb5)
 have HG5:=Lib.hid (HG4.out.below hb5)
 have HR5:=Lib.hid (HR4.out.below hb5)
 clear hst5 hlo5 hb5 t0 t1 t2 t3 t4 t5
 obtain ⟨t0,t1,t2,t3,t4,t5⟩:=HP5.out.six
 obtain ⟨u0,u1,u2,u3,u4,u5⟩:=HP5.out.z6
 obtain ⟨w6,hw6⟩:∃ w6,(w5.setCell ⟨g4,4,none⟩ (.slice A5 q c5)).setCell ⟨g4,5,none⟩ (.int .i64 0)=w6:=⟨_,rfl⟩
 have HP6:=Lib.hid (show Rw w6 g4 [.int .i64 d0,.int .i64 d1,.int .i64 d2,.bool d3,.slice A5 q c5,.int .i64 0] by rw [← hw6];exact set6f (set4f HP5.out _) _)
 have H6:=Lib.hid (show St w0 w w6 P B Q X w4.heap.size y room T by rw [← hw6];exact (H5.out.set HQ4.out.1.1 HQ4.out.1.2 _).set HQ4.out.1.1 HQ4.out.1.2 _)
 have HG6:=Lib.hid (show Rw w6 g _ by rw [← hw6];exact (HG5.out.oth _ (Ne.symm HQ4.out.2.2)).oth _ (Ne.symm HQ4.out.2.2))
 have HR6:=Lib.hid (show Rw w6 b _ by rw [← hw6];exact (HR5.out.oth _ (Ne.symm HQ4.out.2.1)).oth _ (Ne.symm HQ4.out.2.1))
 have HDA6:=Lib.hid (show DA w6.drew A5 q c5 ⟨d0,d1,d2,d3,ns,0⟩ by
  refine ⟨HQN.out.symm,hc5,fun hn=>?_⟩
  obtain ⟨ad,e,h1,h2⟩:=HST.out hn
  have hne:ad.block≠g4:=by have:=HLO.out ad e;have:=HQ4.out.1.2;omega
  have hh:w6.heap[ad.block]?=w5.heap[ad.block]?:=by rw [← hw6];exact (heap_set hne).trans (heap_set hne)
  exact ⟨ad,e,by rw [← hw6];show _<((w5.setCell _ _).setCell _ _).heap.size;rw [size_set,size_set];exact h1,fun j x hx=>(World.cell?_of_block (a:=ad.add j) (by rw [pa.addr_block];exact hh)).trans (h2 j x hx)⟩)
 go_wp2_with fail
 try rw [hw6]
 clear hw6 t0 t1 t2 t3 t4 t5 u0 u1 u2 u3 u4 u5 hc5
 have H5d:=Lib.hid (H6.out.below (Below.refl w6.heap.size w6).drew)
 have HP5d:=Lib.hid (HP6.out.below (Below.refl w6.heap.size w6).drew)
 have HG5d:=Lib.hid (HG6.out.below (Below.refl w6.heap.size w6).drew)
 have HR5d:=Lib.hid (HR6.out.below (Below.refl w6.heap.size w6).drew)
 have HS:=Lib.hid (p_set H5d.out.sy (d:=⟨d0,d1,d2,d3,ns,0⟩) HDA6.out (by have:=HML.out;omega) cf)
 unfold StepE DV at HS
 dsimp only at HS
 have S0:w6.cell? ⟨P,1,none⟩=some (Pq Q)∧w6.cell? ⟨g,1,none⟩=some (.int .i64 cf)∧w6.cell? ⟨g4,0,none⟩=some (.int .i64 d0)∧w6.cell? ⟨g4,1,none⟩=some (.int .i64 d1)∧w6.cell? ⟨g4,2,none⟩=some (.int .i64 d2)∧w6.cell? ⟨g4,3,none⟩=some (.bool d3)∧w6.cell? ⟨g4,4,none⟩=some (.slice A5 q c5)∧w6.cell? ⟨g4,5,none⟩=some (.int .i64 0):=⟨H6.out.c1,HG6.out.c 1 _ rfl,HP6.out.six⟩
 go_wp2_with fail
 go_region_held3 (fun w'=>w'.cell? ⟨P,1,none⟩=some (Pq Q)∧w'.cell? ⟨g,1,none⟩=some (.int .i64 cf)∧w'.cell? ⟨g4,0,none⟩=some (.int .i64 d0)∧w'.cell? ⟨g4,1,none⟩=some (.int .i64 d1)∧w'.cell? ⟨g4,2,none⟩=some (.int .i64 d2)∧w'.cell? ⟨g4,3,none⟩=some (.bool d3)∧w'.cell? ⟨g4,4,none⟩=some (.slice A5 q c5)∧w'.cell? ⟨g4,5,none⟩=some (.int .i64 0))
  (first|with_reducible exact S0|with_reducible exact S8|assumption|go_keep)
  (first|(go_at_call 122;((with_reducible refine HS.out.mono ?_);rintro _ w8 ⟨rfl,k1,k2⟩;have l1:=k1;have l2:=k2;have H8:=Lib.hid (H5d.out.move l1 l2);have HR8:=Lib.hid (HR5d.out.keep l2 HQ.out.2.1.1 HQB.out l1);have HP8:=Lib.hid (HP5d.out.keep l2 HQ4.out.1.1 HQ4.out.1.2 l1);have HG8:=Lib.hid (HG5d.out.keep l2 HQ.out.1.1 HQG.out l1);have S8:w8.cell? ⟨P,1,none⟩=some (Pq Q)∧w8.cell? ⟨g,1,none⟩=some (.int .i64 cf)∧w8.cell? ⟨g4,0,none⟩=some (.int .i64 d0)∧w8.cell? ⟨g4,1,none⟩=some (.int .i64 d1)∧w8.cell? ⟨g4,2,none⟩=some (.int .i64 d2)∧w8.cell? ⟨g4,3,none⟩=some (.bool d3)∧w8.cell? ⟨g4,4,none⟩=some (.slice A5 q c5)∧w8.cell? ⟨g4,5,none⟩=some (.int .i64 0):=⟨l1.c1,HG8.out.c 1 _ rfl,HP8.out.six⟩;clear l1 l2 k1 k2)))
 all_goals
  clear S0 S8
  obtain ⟨x0,x1,x2,x3,x4,x5⟩:=HR8.out.six
  obtain ⟨y0,y1,y2,y3,y4,y5⟩:=HR8.out.z6
  go_wp2_with fail
  refine bodyPost_ret (results_cell1 rfl _ _ b _ _ rfl (set6r HR8.out _ _ _ _ _ _).range Tryz.underlying39 (by rfl) (by rfl)) rfl ?_
  exact HD.out _ _ _ (HF.out.symm) ((H8.out.set6 HQ.out.2.1.1 HQB.out _ _ _ _ _ _).up (by omega:T≤T+3)).done
theorem low_ok {T:Tb} (h:full T=false):(lowV T).2=0:=by
 unfold full at h
 unfold lowV
 cases hl:ds.low T with
 | none=>rw [hl] at h;exact absurd h (by decide)
 | some k=>rfl
theorem od_full {y:Sy} {c:Cal} (h:full y.T=true):doOpendir y c=(wrong 24,y):=if_pos h
theorem od_err {y:Sy} {c:Cal} (h:full y.T=false) (hl:(lead y.S c.a true).2≠0):doOpendir y c=(wrong (lead y.S c.a true).2,y):=by
 unfold doOpendir
 dsimp only
 rw [if_neg (by rw [h];decide),if_pos hl]
theorem od_kind {y:Sy} {c:Cal} (h:full y.T=false) (hl:(lead y.S c.a true).2=0) (hk:y.S.kindOf (lead y.S c.a true).1.2.2≠2):doOpendir y c=(wrong 20,y):=by
 unfold doOpendir
 dsimp only
 rw [if_neg (by rw [h];decide),if_neg (fun e=>e hl),if_pos hk]
theorem od_ok {y:Sy} {c:Cal} (h:full y.T=false) (hl:(lead y.S c.a true).2=0) (hk:y.S.kindOf (lead y.S c.a true).1.2.2=2):doOpendir y c=opened y ⟨(lead y.S c.a true).1.2.2,0,0,true,namesOf y.S (lead y.S c.a true).1.2.2,0⟩:=by
 unfold doOpendir
 dsimp only
 rw [if_neg (by rw [h];decide),if_neg (fun e=>e hl),if_neg (fun e=>e hk)]
theorem m_opendir {w0 w:World} {P B Q room T:Nat} {X:Nat→Prop} {y:Sy} (h:SyX w0 w P B Q X y room T) (hT:T≤990) (hh:Hd room y) (hl:Lim y.T) (c:Cal) :
  Calls Tryz.prog 77 #[Pq P,CV c] w (ME w0 w P B Q X room (T+3) (fun r y'=>(r,y')=doOpendir y c)):=by
 obtain ⟨co,cf,cl,cn,cx,ca,cb⟩:=c
 have hhR:=Lib.hid h
 have HH:=Lib.hid hh
 unfold CV
 dsimp only
 obtain ⟨g,b,w1,w2,hg,hw1,hb,hw2,HG2,HR2,HQ,H2⟩:=m_entry h co cf cl cn cx ca cb
 have HD:=Lib.hid (me_done (w0:=w0) (w:=w) (P:=P) (B:=B) (Q:=Q) (X:=X) (room:=room) (T:=T+3) (rel:=fun r y'=>(r,y')=doOpendir y ⟨co,cf,cl,cn,cx,ca,cb⟩))
 have HT:=Lib.hid hT
 obtain ⟨c0,c1,c2,c3,c4,c5,c6⟩:=HG2.out.seven
 unfold ME
 clear h hT hh
 have HFU:=Lib.hid (show Calls Tryz.prog 114 #[Pq Q] w2 (fun e w'=>e=.returned (.bool (full y.T))∧w2=w') from (p_full H2.out.sy).mono fun _ _ h=>⟨h.1,h.2.symm⟩)
 have HC:=Lib.hid (find_any H2.out.sy ca true)
 unfold RetW at HC
 have k1:=H2.out.c1
 cases hfu:full y.T with
 | true =>
  have HF:=Lib.hid (od_full (c:=⟨co,cf,cl,cn,cx,ca,cb⟩) hfu)
  generalize doOpendir y ⟨co,cf,cl,cn,cx,ca,cb⟩=dd at *
  rw [hfu] at HFU
  clear hfu
  go_enter Tryz.func77,Tryz.ntmps77
  go_wp2_with fail
  refine HFU.out.mono ?_
  rintro _ w3 ⟨rfl,rfl⟩
  clear k1 c0 c1 c2 c3 c4 c5 c6
  go_wp2_with fail
  refine (failed_any (24) w2).mono ?_
  rintro _ w7 ⟨rfl,hb7⟩
  have H7:=Lib.hid ((H2.out).below hb7)
  have HR7:=Lib.hid ((HR2.out).below hb7)
  obtain ⟨x0,x1,x2,x3,x4,x5⟩:=HR7.out.six
  obtain ⟨y0,y1,y2,y3,y4,y5⟩:=HR7.out.z6
  clear hb7 
  go_wp2_with fail
  refine bodyPost_ret (results_cell1 rfl _ _ b _ _ rfl (set6r HR7.out _ _ _ _ _ _).range Tryz.underlying39 (by rfl) (by rfl)) rfl ?_
  exact HD.out _ _ _ (HF.out.symm) ((H7.out.set6 HQ.out.2.1.1 HQ.out.2.1.2 _ _ _ _ _ _).up (by omega:T≤T+3)).done
 | false =>
 rw [hfu] at HFU
 obtain ⟨fr,hfr⟩:∃ fr,findR y.S ca true=fr:=⟨_,rfl⟩
 rw [hfr] at HC
 obtain ⟨fi,fe⟩:=fr
 dsimp only at HC
 rcases lead_cases hfr with ⟨he,hl⟩|⟨he,hl,hi⟩
 ·have HF:=Lib.hid (od_err (c:=⟨co,cf,cl,cn,cx,ca,cb⟩) hfu (show (lead y.S ca true).2≠0 by rw [hl];exact he))
  dsimp only at HF
  rw [hl] at HF
  have qe:(fe != 0)=true:=by simpa using he
  clear he hl hfr hfu
  go_enter Tryz.func77,Tryz.ntmps77
  go_wp2_with fail
  refine HFU.out.mono ?_
  rintro _ w3 ⟨rfl,rfl⟩
  go_wp2_with fail
  refine HC.out.mono ?_
  rintro _ w4 ⟨rfl,hb4⟩
  have H4:=Lib.hid (H2.out.grow hb4 rfl)
  have HG4:=Lib.hid (HG2.out.below hb4)
  have HR4:=Lib.hid (HR2.out.below hb4)
  have HN4:=Lib.hid (show w2.heap.size≤w4.heap.size from hb4.size)
  have HQB:=Lib.hid (show b<w4.heap.size by have h1:=HQ.out;have h2:=HN4.out;omega)
  have HQG:=Lib.hid (show g<w4.heap.size by have h1:=HQ.out;have h2:=HN4.out;omega)
  clear hb4 c0 c1 c2 c3 c4 c5 c6
  clear k1
  go_wp2_with fail
  refine (failed_any (fe) w4).mono ?_
  rintro _ w7 ⟨rfl,hb7⟩
  have H7:=Lib.hid ((H4.out).below hb7)
  have HR7:=Lib.hid ((HR4.out).below hb7)
  obtain ⟨x0,x1,x2,x3,x4,x5⟩:=HR7.out.six
  obtain ⟨y0,y1,y2,y3,y4,y5⟩:=HR7.out.z6
  clear hb7 
  go_wp2_with fail
  refine bodyPost_ret (results_cell1 rfl _ _ b _ _ rfl (set6r HR7.out _ _ _ _ _ _).range Tryz.underlying39 (by rfl) (by rfl)) rfl ?_
  exact HD.out _ _ _ (HF.out.symm) ((H7.out.set6 HQ.out.2.1.1 HQB.out _ _ _ _ _ _).up (by omega:T≤T+3)).done
 subst he
 have hth:=lead_there hhR.out.good hl
 have hal:=all_there hth
 rw [hi] at hth hal
 by_cases hk:y.S.kindOf fi=2
 case neg =>
  have HF:=Lib.hid (od_kind (c:=⟨co,cf,cl,cn,cx,ca,cb⟩) hfu hl (by dsimp only;rw [hi];exact hk))
  rw [if_neg hk] at hal
  clear hk hl hi hfr hfu hth
  go_enter Tryz.func77,Tryz.ntmps77
  go_wp2_with fail
  refine HFU.out.mono ?_
  rintro _ w3 ⟨rfl,rfl⟩
  go_wp2_with fail
  refine HC.out.mono ?_
  rintro _ w4 ⟨rfl,hb4⟩
  have H4:=Lib.hid (H2.out.grow hb4 rfl)
  have HG4:=Lib.hid (HG2.out.below hb4)
  have HR4:=Lib.hid (HR2.out.below hb4)
  have HN4:=Lib.hid (show w2.heap.size≤w4.heap.size from hb4.size)
  have HQB:=Lib.hid (show b<w4.heap.size by have h1:=HQ.out;have h2:=HN4.out;omega)
  have HQG:=Lib.hid (show g<w4.heap.size by have h1:=HQ.out;have h2:=HN4.out;omega)
  clear hb4 c0 c1 c2 c3 c4 c5 c6
  clear k1
  have HN:=Lib.hid (names_any H4.out.sy fi)
  unfold NamE at HN
  rw [hal] at HN
  clear hal
  go_wp2_with fail
  refine HN.out.mono ?_
  rintro _ w5 ⟨A5,c5,rfl,-,-,hb5,-⟩
  have H5:=Lib.hid (H4.out.below hb5)
  have HR5:=Lib.hid (HR4.out.below hb5)
  clear hb5
  go_wp2_with fail
  refine (failed_any (20) w5).mono ?_
  rintro _ w7 ⟨rfl,hb7⟩
  have H7:=Lib.hid ((H5.out).below hb7)
  have HR7:=Lib.hid ((HR5.out).below hb7)
  obtain ⟨x0,x1,x2,x3,x4,x5⟩:=HR7.out.six
  obtain ⟨y0,y1,y2,y3,y4,y5⟩:=HR7.out.z6
  clear hb7 
  go_wp2_with fail
  refine bodyPost_ret (results_cell1 rfl _ _ b _ _ rfl (set6r HR7.out _ _ _ _ _ _).range Tryz.underlying39 (by rfl) (by rfl)) rfl ?_
  exact HD.out _ _ _ (HF.out.symm) ((H7.out.set6 HQ.out.2.1.1 HQB.out _ _ _ _ _ _).up (by omega:T≤T+3)).done
 have HF:=Lib.hid (od_ok (c:=⟨co,cf,cl,cn,cx,ca,cb⟩) hfu hl (by dsimp only;rw [hi];exact hk))
 dsimp only at HF
 rw [hi] at HF
 rw [if_pos hk] at hal
 have HLO:=Lib.hid (low_ok hfu)
 have HHO:=Lib.hid (hold_ok hth)
 clear hk hl hi hfr hfu hth
 generalize doOpendir y ⟨co,cf,cl,cn,cx,ca,cb⟩=dd at *
 go_enter Tryz.func77,Tryz.ntmps77
 go_wp2_with fail
 refine HFU.out.mono ?_
 rintro _ w3 ⟨rfl,rfl⟩
 go_wp2_with fail
 refine HC.out.mono ?_
 rintro _ w4 ⟨rfl,hb4⟩
 have H4:=Lib.hid (H2.out.grow hb4 rfl)
 have HG4:=Lib.hid (HG2.out.below hb4)
 have HR4:=Lib.hid (HR2.out.below hb4)
 have HN4:=Lib.hid (show w2.heap.size≤w4.heap.size from hb4.size)
 have HQB:=Lib.hid (show b<w4.heap.size by have h1:=HQ.out;have h2:=HN4.out;omega)
 have HQG:=Lib.hid (show g<w4.heap.size by have h1:=HQ.out;have h2:=HN4.out;omega)
 clear hb4 c0 c1 c2 c3 c4 c5 c6
 clear k1
 have HN:=Lib.hid (names_any H4.out.sy fi)
 have HML:=Lib.hid (names_le hhR.out.good.1 fi)
 unfold NamE at HN
 rw [hal] at HN
 clear hal
 generalize namesOf y.S fi=ns at *
 obtain ⟨q,hq⟩:∃ q,ns.length=q:=⟨_,rfl⟩
 have HQN:=Lib.hid hq
 rw [hq] at HN HML
 clear hq
 go_wp2_with fail
 refine HN.out.mono ?_
 rintro _ w5 ⟨A5,c5,rfl,hc5,hst5,hb5,hlo5⟩
 have HDA5:=Lib.hid (show DA w5 A5 q c5 ⟨fi,0,0,true,ns,0⟩ from ⟨HQN.out.symm,hc5,hst5⟩)
 have H5:=Lib.hid (H4.out.grow hb5 rfl)
 have HR5:=Lib.hid (HR4.out.below hb5)
 have HB5:=Lib.hid (show b<w5.heap.size from HR5.out.lt)
 have HDX:=Lib.hid (show 0<q→∃ ad,A5=some ad∧(X ad.block∨(w.heap.size≤ad.block∧ad.block<w5.heap.size)) from fun hn=>by
  obtain ⟨ad,e,h1,_⟩:=hst5 (by rw [HQN.out];exact hn)
  exact ⟨ad,e,.inr ⟨by have:=hlo5 ad e;have:=H4.out.wn;omega,h1⟩⟩)
 have HHA:=Lib.hid (hand_any H5.out.sy (by have:=HT.out;omega) HDA5.out HDX.out HML.out HHO.out)
 unfold StepE DV at HHA
 dsimp only at HHA
 rw [HLO.out] at HHA
 clear hc5 hst5 hb5 hlo5
 unfold opened at HF
 dsimp only at HF
 generalize (lowV y.T).1=lv at *
 generalize (y.S.hold fi).2=S' at *
 generalize openT y.T ⟨fi,0,0,true,ns,0⟩=T' at *
 go_wp2_with fail
 refine HHA.out.mono ?_
 rintro _ w6 ⟨rfl,k1,k2⟩
 have H6:=Lib.hid (H5.out.move k1 k2)
 have HR6:=Lib.hid (HR5.out.keep k2 HQ.out.2.1.1 HB5.out k1)
 clear k1 k2
 obtain ⟨x0,x1,x2,x3,x4,x5⟩:=HR6.out.six
 obtain ⟨y0,y1,y2,y3,y4,y5⟩:=HR6.out.z6
 go_wp2_with fail
 refine bodyPost_ret (results_cell1 rfl _ _ b _ _ rfl (set6r HR6.out _ _ _ _ _ _).range Tryz.underlying39 (by rfl) (by rfl)) rfl ?_
 exact HD.out _ _ _ (HF.out.symm) ((H6.out.set6 HQ.out.2.1.1 HB5.out _ _ _ _ _ _).up (by omega:T+1≤T+3)).done
end Go.Proofs.YtpmpbmjjlccbbaaGreat.tr
