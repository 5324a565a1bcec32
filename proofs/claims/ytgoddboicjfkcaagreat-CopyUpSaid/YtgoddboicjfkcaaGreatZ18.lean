/- Contracts and mathematics, part 18. -/
import Derived.Test.YtgoddboicjfkcaaGreatZ17
import Derived.Lib.SortBridge
set_option linter.unusedVariables false
set_option linter.unusedSimpArgs false
set_option maxRecDepth 100000
set_option maxHeartbeats 8000000
namespace Go.Proofs.YtgoddboicjfkcaaGreat
namespace cu
open Go.RowKit Go.Deep
open br (BS Ino Inv)
open cb (BrX RetW RetI No KB KD Res HB Stab NxR Same WrI Wz)
open bl (Pq Only U8)
open mg (Vx Nd Nv Nb R2 bel_step bel_alloc kindV getV rootV set_below set2_below heap_set)
def ChainE (w0 w:World) (c:Cp) (L:BS) (r T:Nat) (M:List Res) (X:Nat→Prop) (v er:Int) (S':BS) (e:Ending) (w':World):Prop :=
 e=.returned (.tuple #[.int .i64 v,.int .i64 er])∧Zs w0 w' c S' L r T M X∧Same X w w'
theorem chain_any {w0 w:World} {c:Cp} {S L:BS} {r T:Nat} {M:List Res} {X:Nat→Prop} (h:Zs w0 w c S L r T M X) {A:Option Addr} {l:List ByteArray} {cap:Nat} (hl:NL w X A l) (hn:l.length≤1000) (hT:T≤700000) :
  Calls Tryz.prog 49 #[Pq c.C,.slice A l.length cap] w (ChainE w0 w c L r (T+l.length) M X (descF L S c.u (rootV S L c.u c.l) l).1.1.1 (descF L S c.u (rootV S L c.u c.l) l).1.2 (descF L S c.u (rootV S L c.u c.l) l).2):=by
 have HD:=Qa (descend_any (cap:=cap) h hl hn hT)
 unfold DescE at HD
 unfold ChainE
 generalize descF L S c.u (rootV S L c.u c.l) l=res at *
 obtain ⟨⟨⟨d,a1,a2⟩,er⟩,S'⟩:=res
 dsimp only at HD ⊢
 generalize l.length=m at *
 have Qb:=Qa (fun b (hb:X b)=>h.lt hb)
 clear h hl hn hT
 go_enter Tryz.func49,Tryz.ntmps49
 go_wp2_with fail
 refine HD.out.mono ?_
 rintro _ w1 ⟨rfl,hz1,hs1⟩
 have HZ:=Qa hz1
 have HS:=Qa hs1
 clear hz1 hs1 HD
 go_wp2_with fail
 go_ret2
 exact ⟨rfl,HZ.out.below (bel_alloc _ _),same_trans HS.out (same_below HZ.out (bel_alloc _ _))⟩
theorem view_any {w0 w:World} {c:Cp} {S L:BS} {r T:Nat} {M:List Res} {X:Nat→Prop} (h:Zs w0 w c S L r T M X):Calls Tryz.prog 55 #[Pq c.C] w (fun e w'=>e=.returned (Pq c.V)∧w'=w):=by
 have c1:=h.x.c1
 clear h
 go_enter Tryz.func55,Tryz.ntmps55
 go_wp2_with fail
 go_ret
 exact ⟨rfl,rfl⟩
theorem walkV_drop {S L:BS} {a:Nd} {l:List ByteArray} {j:Nat} {t:ByteArray} (h:l[j]?=some t):walkV S L a (l.drop j)=if (getV S L a t).2≠0 then ((0,0),(getV S L a t).2) else walkV S L (getV S L a t).1 (l.drop (j+1)):=by
 have hj:=(List.getElem?_eq_some_iff.1 h).1
 rw [List.drop_eq_getElem_cons hj,(List.getElem?_eq_some_iff.1 h).2];rfl
theorem NL.below {w w':World} {X:Nat→Prop} {A:Option Addr} {l:List ByteArray} (h:NL w X A l) (hb:Below w.heap.size w w'):NL w' X A l:=fun j s hj=>by
 obtain ⟨b,off,e,hx,c0,c1⟩:=h j s hj
 exact ⟨b,off,e,hx,(hb.cell (p:=⟨b,off+j,none⟩) (World.block_lt_of_cell? _ _ c0)).trans c0,c1⟩
theorem node_any {w0 w:World} {c:Cp} {S L:BS} {r T:Nat} {M:List Res} {X:Nat→Prop} (h:Zs w0 w c S L r T M X) {A:Option Addr} {l:List ByteArray} {cap:Nat} (hl:NL w X A l) (hn:l.length≤1000) :
  Calls Tryz.prog 56 #[Pq c.C,.slice A l.length cap] w (RetW w (.tuple #[Nv (walkV S L (rootV S L c.u c.l) l).1,.int .i64 (walkV S L (rootV S L c.u c.l) l).2])):=by
 obtain ⟨w1,hw1⟩:∃w1,w.alloc (.cells #[.int .i64 0,.int .i64 0] 24)=w1:=⟨_,rfl⟩
 obtain ⟨g,hg⟩:∃g,w.heap.size=g:=⟨_,rfl⟩
 have ma:Below w.heap.size w w1:=by rw [←hw1];exact bel_alloc _ _
 have qa:w1.heap.size=g+1:=by rw [←hw1,←hg,World.size_alloc]
 have Qp:=Qa (show R2 w1 g 0 0 by rw [←hw1,←hg];exact R2.new w 0 0)
 have Qj:=Qa (show w.heap.size≤g by omega)
 have Qe:=Qa ma
 have HV:=Qa (fun W (hb:Below w.heap.size w W)=>view_any (h.below hb))
 have Qf:=Qa (fun W (hb:Below w.heap.size w W)=>mg.root_any (h.below hb).vx)
 have Qc:=Qa (fun W (hb:Below w.heap.size w W) n t=>mg.get_any (h.below hb).vx n t)
 have Qq:=Qa (fun W (hb:Below w.heap.size w W)=>hl.below hb)
 obtain ⟨m,hm⟩:∃m,l.length=m:=⟨_,rfl⟩
 have Qr:=Qa (show ∀j,j<m→∃x,l[j]?=some x from fun j hj=>⟨l[j]'(by omega),List.getElem?_eq_getElem _⟩)
 have ja:(m:Int)≤1000:=by omega
 rw [hm]
 have Qs:=Qa hm
 unfold RetW at Qf Qc
 obtain ⟨rt,hrt⟩:∃x,rootV S L c.u c.l=x:=⟨_,rfl⟩
 rw [hrt] at Qf ⊢
 obtain ⟨x1,x2⟩:=rt
 obtain ⟨res,hres⟩:∃x,walkV S L (x1,x2) l=x:=⟨_,rfl⟩
 have Qt:=Qa hres
 rw [hres]
 have HE:=Qa (show ∀(W:World) (y1 y2 er:Int),res=((y1,y2),er)→Below w.heap.size w W→RetW w (.tuple #[Nv res.1,.int .i64 res.2]) (.returned (.tuple #[.agg #[.int .i64 y1,.int .i64 y2],.int .i64 er])) W from
  fun W y1 y2 er e a=>by rw [e];exact ⟨rfl,a⟩)
 obtain ⟨PQ,hPQ⟩:∃P,RetW w (.tuple #[Nv res.1,.int .i64 res.2])=P:=⟨_,rfl⟩
 rw [hPQ] at HE ⊢
 clear h ma hPQ hrt hres hl hm hn
 obtain ⟨cC,hcC⟩:∃x,x=c.C:=⟨_,rfl⟩
 rw [←hcC] at HV ⊢
 clear hcC
 go_enter Tryz.func56,Tryz.ntmps56
 go_upto_region 1 with fail
 try rw [hw1]
 try rw [hg]
 clear hw1
 go_wp2_with fail
 refine (HV.out w1 Qe.out).mono ?_
 rintro _ w2 ⟨rfl,rfl⟩
 go_wp2_with fail
 refine (Qf.out w2 Qe.out).mono ?_
 rintro _ w3 ⟨rfl,hb3⟩
 obtain ⟨w4,hw4⟩:∃w4,w3.alloc (.cells #[.int .i64 x1,.int .i64 x2] 24)=w4:=⟨_,rfl⟩
 obtain ⟨G,hG⟩:∃G,w3.heap.size=G:=⟨_,rfl⟩
 have Qv:=Qa (show Below w.heap.size w w4 by rw [←hw4];exact bel_step (bel_step Qe.out hb3) (bel_alloc _ _))
 have Qw:=Qa (show R2 w4 G x1 x2 by rw [←hw4,←hG];exact R2.new w3 x1 x2)
 have Hg4:=Qa (show R2 w4 g 0 0 by rw [←hw4];exact (Qp.out.below hb3).below (bel_alloc _ _))
 have Qk:=Qa (show g<G by have:=hb3.size;omega)
 clear hb3 Qe Qp Qf HV qa
 go_upto_region 4 with fail
 try rw [hw4]
 try rw [hG]
 clear hw4 hG
 go_loopg [18] m (fun gh s18 wr=>∃(j:Nat) (a1 a2:Int),gh+j=m∧s18=.int .i64 j∧Hid (res=walkV S L (a1,a2) (l.drop j))∧Hid (R2 wr G a1 a2)∧Hid (R2 wr g 0 0)∧Hid (Below w.heap.size w wr))
 case atStart=>exact ⟨0,x1,x2,by omega,rfl,Qa Qt.out.symm,Qw,Hg4,Qv⟩
 case round =>
  obtain ⟨j,a1,a2,hgj,rfl,Ql,Qg,Qh,Qd⟩:=hrel
  by_cases hj:j<m
  case neg =>
   obtain rfl:j=m:=by omega
   have HF:=Qa (HE.out ((wr.setCell ⟨g,0,none⟩ (.int .i64 a1)).setCell ⟨g,1,none⟩ (.int .i64 a2)) a1 a2 0 (by rw [Ql.out,List.drop_eq_nil_of_le (by rw [Qs.out];exact Nat.le_refl _)];rfl) (set2_below Qd.out Qj.out _ _))
   obtain ⟨t0,t1,f0,f1⟩:=Qg.out
   obtain ⟨s0,s1,v0,v1⟩:=Qh.out
   have Qm:=Qa (fun a b=>Qh.out.range a b)
   go_wp2_with fail
   refine bodyPost_ret (mg.results_row_tmp rfl _ _ g _ _ rfl (Qm.out _ _) Tryz.underlying24 (by rfl) (by rfl)) rfl ?_
   exact HF.out
  obtain ⟨t,htj⟩:=Qr.out j hj
  obtain ⟨nb,off,hA,-,nc,hts⟩:=Qq.out wr Qd.out j t htj
  subst hA
  have Qb:=Qa (Ql.out.trans (walkV_drop htj))
  have Qi:=Qa (Qc.out wr Qd.out (a1,a2) t)
  obtain ⟨gv,hgv⟩:∃x,getV S L (a1,a2) t=x:=⟨_,rfl⟩
  rw [hgv] at Qi Qb
  clear hgv htj Ql
  obtain ⟨⟨y1,y2⟩,er⟩:=gv
  dsimp only at Qi Qb
  obtain ⟨t0,t1,f0,f1⟩:=Qg.out
  go_wp2_with fail
  refine Qi.out.mono ?_
  rintro _ w5 ⟨rfl,hb5⟩
  obtain ⟨w6,hw6⟩:∃w6,w5.alloc (.cells #[.int .i64 y1,.int .i64 y2] 24)=w6:=⟨_,rfl⟩
  obtain ⟨g6,hg6⟩:∃g6,w5.heap.size=g6:=⟨_,rfl⟩
  have Qn:=Qa (show Below w.heap.size w w6 by rw [←hw6];exact bel_step (bel_step Qd.out hb5) (bel_alloc _ _))
  have Qo:=Qa (show R2 w6 G a1 a2 by rw [←hw6];exact (Qg.out.below hb5).below (bel_alloc _ _))
  have Hg6:=Qa (show R2 w6 g 0 0 by rw [←hw6];exact (Qh.out.below hb5).below (bel_alloc _ _))
  have Qx:=Qa (show R2 w6 g6 y1 y2 by rw [←hw6,←hg6];exact R2.new w5 y1 y2)
  clear t0 t1 f0 f1 nc hb5 Qg Qh Qd Qi
  go_upto_region 7 with fail
  try rw [hw6]
  try rw [hg6]
  clear hw6 hg6
  obtain ⟨t0,t1,f0,f1⟩:=Qo.out
  obtain ⟨s0,s1,v0,v1⟩:=Hg6.out
  obtain ⟨k0,k1,_,_⟩:=Qx.out
  by_cases he:er=0
  case neg =>
   rw [Jb he] at Qb
   have HF:=Qa (HE.out ((w6.setCell ⟨g,0,none⟩ (.int .i64 0)).setCell ⟨g,1,none⟩ (.int .i64 0)) 0 0 er Qb.out (set2_below Qn.out Qj.out _ _))
   have Qm:=Qa (fun a b=>Hg6.out.range a b)
   have qe:(er != 0)=true:=by simpa using he
   clear he
   go_wp2_with fail
   refine bodyPost_ret (mg.results_row_tmp rfl _ _ g _ _ rfl (Qm.out _ _) Tryz.underlying24 (by rfl) (by rfl)) rfl ?_
   exact HF.out
  subst he
  rw [Ja (by decide)] at Qb
  have Qy:=Qa (R2.put Qo.out y1 y2)
  have Qz:=Qa (set2_below Qn.out (show w.heap.size≤G by have:=Qk.out;have:=Qj.out;omega) (.int .i64 y1) (.int .i64 y2))
  have Q2:=Qa (show R2 ((w6.setCell ⟨G,0,none⟩ (.int .i64 y1)).setCell ⟨G,1,none⟩ (.int .i64 y2)) g 0 0 from (Hg6.out.same (heap_set (by have:=Qk.out;omega))).same (heap_set (by have:=Qk.out;omega)))
  clear Qn Qo Hg6
  go_wp2_with fail
  go_roundg (gk - 1)
  case measure=>omega
  case rel=>exact ⟨j+1,y1,y2,by omega,by go_num,Qb,Qy,Q2,Qz⟩
end cu
namespace cu
open Go.RowKit Go.Deep
open cb (RetW)
open bl (U8)
def BR (w:World) (X:Nat→Prop) (A:Option Addr) (n:Nat) (f:Nat→UInt8):Prop:=∀j,j<n→∃b o,A=some ⟨b,o,none⟩∧X b∧w.cell? ⟨b,o+j,none⟩=some (U8 (f j))
def allZ (n:Nat) (f:Nat→UInt8):Bool:=(List.range n).all fun j=>f j == 0
theorem allZ_iff {n:Nat} {f:Nat→UInt8}:allZ n f=true↔∀j,j<n→f j=0:=by unfold allZ;simp
theorem isnt_any (x:UInt8) (w:World):Calls Tryz.prog 243 #[U8 x] w (fun e w'=>e=.returned (.bool (x != 0))∧w'=w):=by
 have hx:(((x.toNat:Nat):Int) != 0)=(x != 0):=by
  by_cases h:x=0
  ·subst h;rfl
  ·have h1:x.toNat≠0:=fun e=>h (UInt8.toNat_inj.1 e)
   have h2:((x.toNat:Nat):Int)≠0:=by omega
   rw [show (x != 0)=true from by simpa using h];simpa using h2
 unfold U8
 generalize x.toNat=n at *
 generalize (x != 0)=q at *
 go_enter Tryz.func243,Tryz.ntmps243
 go_wp2_with fail
 go_ret
 exact ⟨by rw [←hx] <;> rfl,rfl⟩
def IdxE (w:World) (n:Nat) (f:Nat→UInt8) (e:Ending) (w':World):Prop :=
 ((∃i:Nat,i<n∧f i≠0∧e=.returned (.int .i64 i))∨((∀j,j<n→f j=0)∧e=.returned (.int .i64 (-1))))∧w'=w
theorem index_any {w:World} {X:Nat→Prop} {A:Option Addr} {n c:Nat} {f:Nat→UInt8} (h:BR w X A n f) (hn:n≤1000):Calls Tryz.prog 252 #[.slice A n c,.func (.func 243) #[] #[]] w (IdxE w n f):=by
 have HB:=Qa h
 have Qb:=Qa (show ∀i:Nat,i<n→f i≠0→IdxE w n f (.returned (.int .i64 i)) w from fun i a b=>⟨.inl ⟨i,a,b,rfl⟩,rfl⟩)
 have Qc:=Qa (show (∀j,j<n→f j=0)→IdxE w n f (.returned (.int .i64 (-1))) w from fun a=>⟨.inr ⟨a,rfl⟩,rfl⟩)
 obtain ⟨PQ,hPQ⟩:∃P,IdxE w n f=P:=⟨_,rfl⟩
 rw [hPQ] at Qb Qc ⊢
 clear h hPQ
 go_enter Tryz.func252,Tryz.ntmps252
 go_wp2_with fail
 go_loopg [8] n (fun gk s wr=>∃k:Nat,gk+k=n∧s=.int .i64 k∧Hid (∀j,j<k→f j=0)∧wr=w)
 case atStart=>exact ⟨0,by omega,rfl,Qa (by omega),rfl⟩
 case round =>
  obtain ⟨k,hgk,rfl,HF,rfl⟩:=hrel
  by_cases hlt:k<n
  ·obtain ⟨b,o,hA,_,hc⟩:=HB.out k hlt
   subst hA
   have HC:=Qa (isnt_any (f k) wr)
   unfold U8 at HC hc
   obtain ⟨xk,hxk⟩:∃z,((f k).toNat:Int)=z:=⟨_,rfl⟩
   rw [hxk] at HC hc
   have Qd:=Qa (fun h:f k=0=>(fun j hj=>by
    rcases Nat.lt_succ_iff_lt_or_eq.1 hj with h1|h1
    ·exact HF.out j h1
    ·rw [h1];exact h:∀j,j<k+1→f j=0))
   have HY:=Qa (Qb.out k hlt)
   generalize f k=x at *
   clear HF
   by_cases he:x=0
   ·have HX:=Qa (Qd.out he)
    have hq:(x != 0)=false:=by simp [he]
    rw [hq] at HC
    clear hq he
    go_wp2_with fail
    refine HC.out.mono ?_
    rintro _ w2 ⟨rfl,rfl⟩
    go_wp2_with fail
    go_roundg (gk - 1)
    case measure=>omega
    case rel=>exact ⟨k+1,by omega,by go_num,HX,rfl⟩
   ·have HX:=Qa (HY.out he)
    have hq:(x != 0)=true:=by simpa using he
    rw [hq] at HC
    clear hq he
    go_wp2_with fail
    refine HC.out.mono ?_
    rintro _ w2 ⟨rfl,rfl⟩
    go_wp2_with fail
    exact HX.out
  ·obtain rfl:k=n:=by omega
   have HX:=Qa (Qc.out HF.out)
   go_wp2_with fail
   exact HX.out
theorem zero_any {w:World} {X:Nat→Prop} {A:Option Addr} {n c:Nat} {f:Nat→UInt8} (h:BR w X A n f) (hn:n≤1000):Calls Tryz.prog 230 #[.slice A n c] w (fun e w'=>e=.returned (.bool (allZ n f))∧w'=w):=by
 have HI:=Qa (index_any (c:=c) h hn)
 unfold IdxE at HI
 have HC:Hid (Calls Tryz.prog 242 #[.slice A n c,.func (.func 243) #[] #[]] w (fun e w'=>e=.returned (.bool (!allZ n f))∧w'=w)):=Qa (by
  obtain ⟨q,hq⟩:∃q,allZ n f=q:=⟨_,rfl⟩
  have HQ:=Qa hq
  rw [hq]
  clear hq h
  go_enter Tryz.func242,Tryz.ntmps242
  go_wp2_with fail
  refine HI.out.mono ?_
  rintro e w' ⟨⟨i,hi,hf,rfl⟩|⟨hf,rfl⟩,rfl⟩
  ·have e1:q=false:=by rw [←HQ.out,Bool.eq_false_iff];exact fun e=>hf (allZ_iff.1 e i hi)
   subst e1
   have h0:(0:Int)≤(i:Int):=by omega
   go_wp2_with fail
   go_ret
   exact ⟨rfl,rfl⟩
  ·have e1:q=true:=by rw [←HQ.out];exact allZ_iff.2 hf
   subst e1
   go_wp2_with fail
   go_ret
   exact ⟨rfl,rfl⟩)
 generalize allZ n f=q at *
 clear HI h
 go_enter Tryz.func230,Tryz.ntmps230
 go_wp2_with fail
 refine HC.out.mono ?_
 rintro _ w' ⟨rfl,rfl⟩
 go_wp2_with fail
 go_ret
 exact ⟨by cases q <;> rfl,rfl⟩
end cu
namespace cu
open Go.RowKit
open br (BS Ino Inv at_nat upd_same upd_other abE)
open bl (AB wr wrB WR thW over cut cutB cutR IsStop)
open cb (WrI)
def nz (B:AB) (k:Nat):Bool:=!allZ 16 (fun j=>B.dat (16*k+j))
def copyB (B:AB):AB:=⟨B.size,nz B,B.dat⟩
structure PB (B b:AB) (m:Nat):Prop where
 sz:b.size≤B.size
 th:∀k,b.th k=(decide (k<m) && nz B k)
 dat:∀i,b.dat i=if i<16*m then B.dat i else 0
def chL (B:AB) (m:Nat):Nat:=min 16 (B.size - 16*m)
def chF (B:AB) (m:Nat):Nat→UInt8:=fun j=>B.dat (16*m+j)
theorem PB.zero (B:AB):PB B abE 0:=⟨Nat.zero_le _,fun k=>by simp [abE],fun i=>by simp [abE]⟩
theorem chunk_z {B:AB} (ok:B.Ok) (m:Nat):allZ (chL B m) (chF B m)=!nz B m:=by
 unfold nz
 rw [Bool.not_not,Bool.eq_iff_iff,allZ_iff,allZ_iff]
 refine ⟨fun h j hj=>?_,fun h j hj=>h j (by unfold chL at hj;omega)⟩
 by_cases e:j<chL B m
 ·exact h j e
 ·exact ok.dat _ (by unfold chL at e;omega)
theorem PB.skip {B b:AB} {m:Nat} (h:PB B b m) (ok:B.Ok) (hz:allZ (chL B m) (chF B m)=true):PB B b (m+1):=by
 rw [chunk_z ok] at hz
 have hn:nz B m=false:=by simpa using hz
 refine ⟨h.sz,fun k=>?_,fun i=>?_⟩
 ·rw [h.th k]
  by_cases e:k=m
  ·subst e;simp [hn]
  ·have:decide (k<m)=decide (k<m+1):=decide_eq_decide.2 (by omega)
   rw [this]
 ·rw [h.dat i]
  by_cases e:i<16*m
  ·rw [Jb e,Jb (by omega)]
  ·rw [Ja e]
   by_cases e2:i<16*(m+1)
   ·rw [Jb e2]
    have ma:allZ 16 (fun j=>B.dat (16*m+j))=true:=by unfold nz at hn;simpa using hn
    have:=allZ_iff.1 ma (i - 16*m) (by omega)
    rw [show 16*m+(i - 16*m)=i from by omega] at this
    exact this.symm
   ·rw [Ja e2]
theorem PB.step {B b:AB} {m:Nat} (h:PB B b m) (ok:B.Ok) (hm:16*m<B.size) (hz:allZ (chL B m) (chF B m)=false):PB B (wr b ((16*m:Nat):Int) (chL B m) (chF B m)) (m+1):=by
 rw [chunk_z ok] at hz
 have hn:nz B m=true:=by simpa using hz
 have hp:0<chL B m∧chL B m≤16∧16*m+chL B m≤B.size∧(16*m+chL B m<16*(m+1)→16*m+chL B m=B.size):=by unfold chL;omega
 unfold wr
 rw [Int.toNat_natCast]
 unfold wrB
 obtain ⟨p1,p2,p3,p4⟩:=hp
 refine ⟨?_,fun k=>?_,fun i=>?_⟩
 ·dsimp only
  rw [Ja (by omega)]
  have:=h.sz
  omega
 ·dsimp only
  unfold thW
  rw [h.th k]
  by_cases e:k=m
  ·subst e
   have h1:decide (16*k<16*k+chL B k∧16*k<16*k+16∧16*k<16*k+chL B k)=true:=decide_eq_true ⟨by omega,by omega,by omega⟩
   rw [h1,hn];simp
  ·have h1:decide (16*m<16*m+chL B m∧16*m<16*k+16∧16*k<16*m+chL B m)=false:=decide_eq_false (by omega)
   have h2:decide (k<m)=decide (k<m+1):=decide_eq_decide.2 (by omega)
   rw [h1,h2];simp
 ·dsimp only
  unfold over
  by_cases e:16*m≤i∧i<16*m+chL B m
  ·rw [Jb e,Jb (by omega)]
   show B.dat (16*m+(i - 16*m))=_
   rw [show 16*m+(i - 16*m)=i from by omega]
  ·rw [Ja e,h.dat i]
   by_cases e2:i<16*m
   ·rw [Jb e2,Jb (by omega)]
   ·rw [Ja e2]
    by_cases e3:i<16*(m+1)
    ·rw [Jb e3];exact (ok.dat i (by omega)).symm
    ·rw [Ja e3]
theorem PB.last {B b:AB} {m:Nat} (h:PB B b m) (ok:B.Ok) (hm:B.size≤16*m):cut b (B.size:Int)=copyB B:=by
 have h1:=ok.size
 unfold cut
 rw [Jb ⟨by omega,by omega⟩,Int.toNat_natCast]
 unfold cutB copyB
 congr 1
 ·funext k
  rw [h.th k]
  cases hn:nz B k with
  | false=>simp
  | true =>
   have:16*k<B.size:=by
    unfold nz at hn
    apply Classical.byContradiction
    intro e
    have:allZ 16 (fun j=>B.dat (16*k+j))=true:=allZ_iff.2 fun j hj=>ok.dat _ (by omega)
    rw [this] at hn;cases hn
   rw [decide_eq_true (show k<m by omega),decide_eq_true this];rfl
 ·funext i
  by_cases e:i<B.size
  ·rw [Jb e,h.dat i,Jb (by omega)]
  ·rw [Ja e];exact (ok.dat i (by omega)).symm
def setB (S:BS) (I:Nat) (b:AB):BS:=⟨br.upd S.ino I { S.ino I with body:=b },S.used+b.n⟩
theorem setB_at (S:BS) (I:Nat) (b:AB):(setB S I b).ino I={ S.ino I with body:=b }:=upd_same _ _ _
theorem setB_ino (S:BS) (I:Nat) (b:AB) {k:Nat} (h:k≠I):(setB S I b).ino k=S.ino k:=upd_other _ _ h
theorem setB_abE {S:BS} {I:Nat} (h:(S.ino I).body=abE):setB S I abE=S:=by
 refine br.BS.ext' (fun k=>?_) (by show S.used+abE.n=S.used;rw [br.abE_n];rfl)
 by_cases e:k=I
 ·subst e
  rw [setB_at,←h]
 ·rw [setB_ino _ _ _ e]
theorem setB_fileE {S:BS} {I:Nat} {b:AB} (h1:1≤I) (h2:I≤200) (hk:(S.ino I).kind=1):(setB S I b).fileE (I:Int)=0:=cb.fileE_of h1 h2 (by rw [setB_at];exact hk)
theorem setB_wrote (S:BS) (I:Nat) (b:AB) (off:Int) (p:Nat) (f:Nat→UInt8):(setB S I b).wrote (I:Int) off p f=setB S I (wr b off p f):=by
 unfold BS.wrote
 rw [at_nat,setB_at,Int.toNat_natCast]
 dsimp only
 refine br.BS.ext' (fun k=>?_) ?_
 ·show br.upd (br.upd S.ino I _) I _ k=br.upd S.ino I _ k
  by_cases e:k=I
  ·subst e;rw [upd_same,upd_same]
  ·rw [upd_other _ _ e,upd_other _ _ e,upd_other _ _ e]
 ·show S.used+b.n+(wr b off p f).n - b.n=S.used+(wr b off p f).n
  omega
theorem setB_cut {S:BS} {I:Nat} {b:AB} (h1:1≤I) (h2:I≤200) (hk:(S.ino I).kind=1) (off:Int):(setB S I b).cutI (I:Int) off=(cutR off,setB S I (cut b off)):=by
 unfold BS.cutI
 rw [setB_fileE h1 h2 hk,Ja (fun e=>e rfl),at_nat,setB_at,Int.toNat_natCast]
 dsimp only
 congr 1
 refine br.BS.ext' (fun k=>?_) ?_
 ·show br.upd (br.upd S.ino I _) I _ k=br.upd S.ino I _ k
  by_cases e:k=I
  ·subst e;rw [upd_same,upd_same]
  ·rw [upd_other _ _ e,upd_other _ _ e,upd_other _ _ e]
 ·show S.used+b.n+(cut b off).n - b.n=S.used+(cut b off).n
  omega
theorem chunk_wrote {S S':BS} {r I m p:Nat} {B b:AB} {e:Int} (h1:1≤I) (h2:I≤200) (hk:(S.ino I).kind=1) (ok:B.Ok) (hm:16*m<B.size) (hw:WrI (setB S I b) r (I:Int) ((16*m:Nat):Int) (chL B m) (chF B m) p e S') :
  p≤chL B m∧S'=setB S I (wr b ((16*m:Nat):Int) p (chF B m))∧(e=0∨(e=28∧p<chL B m)):=by
 have hc:0<chL B m∧16*m+chL B m≤B.size:=by unfold chL;omega
 have hs:=ok.size
 rcases hw with ⟨h,_⟩|⟨_,hw,_,_,rfl⟩
 ·exact absurd (setB_fileE h1 h2 hk) h
 ·rw [setB_wrote]
  rcases hw with ⟨a,_⟩|⟨_,a,_⟩|⟨a,_⟩|⟨_,_,_,hst,he⟩
  ·omega
  ·omega
  ·omega
  ·have:=hst.le
   rw [Int.toNat_natCast] at this
   refine ⟨by omega,rfl,?_⟩
   by_cases e0:p=0
   ·rw [Jb e0] at he;exact .inr ⟨he,by omega⟩
   ·rw [Ja e0] at he;exact .inl he
theorem chunk_full {S S':BS} {r I m p:Nat} {B b:AB} {e:Int} (h1:1≤I) (h2:I≤200) (hk:(S.ino I).kind=1) (ok:B.Ok) (hm:16*m<B.size) (hb:PB B b m) (hz:allZ (chL B m) (chF B m)=false)
  (hw:WrI (setB S I b) r (I:Int) ((16*m:Nat):Int) (chL B m) (chF B m) p e S') (hp:p≠chL B m):r<S.used+(copyB B).n:=by
 have hs:=ok.size
 have hc:0<chL B m∧chL B m≤16∧16*m+chL B m≤B.size:=by unfold chL;omega
 rw [chunk_z ok] at hz
 have hn:nz B m=true:=by simpa using hz
 have qa:b.th m=false:=by rw [hb.th m];simp
 have ja:b.n+1≤(copyB B).n:=by
  have h3:=bl.cnt_add (N:=4096) (k:=m) (th:=b.th) (by omega) qa
  have h4:bl.cnt 4096 (bl.updB b.th m true)≤bl.cnt 4096 (nz B):=bl.cnt_le fun k hk2=>by
   unfold bl.updB at hk2
   by_cases e1:k=m
   ·rw [e1];exact hn
   ·simp only [e1,if_false] at hk2
    rw [hb.th k] at hk2
    exact (Bool.and_eq_true_iff.1 hk2).2
  show bl.cnt 4096 b.th+1≤bl.cnt 4096 (nz B)
  omega
 rcases hw with ⟨h,_⟩|⟨_,hw,_,_,rfl⟩
 ·exact absurd (setB_fileE h1 h2 hk) h
 ·rcases hw with ⟨a,_⟩|⟨_,a,_⟩|⟨a,_⟩|⟨_,_,_,hst,he⟩
  ·omega
  ·omega
  ·omega
  ·rw [at_nat,setB_at,Int.toNat_natCast] at hst
   have ma:IsStop b (S.used+b.n) r (16*m) (min (chL B m) (65536 - 16*m)) p:=hst
   have hle:=ma.le
   rcases ma.stop with e1|e1
   ·omega
   ·unfold bl.okW at e1
    have h5:=not_or.1 e1
    have xa:p=0:=Classical.byContradiction fun h0=>h5.1 (by
     have h6:(16*m+p) / 16=m:=by omega
     rw [h6]
     unfold thW
     rw [decide_eq_true (show 16*m<16*m+p∧16*m<16*m+16∧16*m<16*m+p by omega)]
     simp)
    subst xa
    have h7:bl.usedW b (S.used+b.n) (16*m) (16*m+0)=S.used+b.n:=by
     unfold bl.usedW
     have h8:thW b (16*m) (16*m+0)=b.th:=funext fun k=>by
      unfold thW
      rw [decide_eq_false (by omega)];simp
     rw [h8]
     show S.used+b.n+b.n - b.n=_
     omega
    rw [h7] at h5
    omega
end cu
namespace mg
open Go.RowKit
open Go.Maps (Keyed IsMap isMap_empty atKey_put_same atKey_put_other string_keyed has_put_same has_put_other atKey_of_not_has)
open Go.WideMaps (keyOf_string_mk string_of_keyOf)
def RV:Value→Option (DataW Value×List MemPlace):=fun v=>some (.held v,[])
set_option maxRecDepth 100000
abbrev Nf:=ByteArray→Option Nd
def nput (f:Nf) (a:ByteArray) (v:Nd):Nf:=fun x=>if x=a then some v else f x
theorem k9:Tryz.prog.underlying 9=some .string:=Tryz.underlying9
def MapN (w:World) (M S:Nat) (f:Nf):Prop :=
 ∃D:DataW Value,w.ownsMap Tryz.prog 9 RV M S D∧IsMap D∧(∀a:ByteArray,Maps.has D (.string a.data.toList)=(f a).isSome)∧(∀(a:ByteArray) v zd,f a=some v→D.atKey (.string a.data.toList) zd=.held (Nv v))
theorem MapN.made (w:World):MapN (w.alloc (.map #[] 0)) w.heap.size 0 (fun _=>none):=⟨.map [],World.ownsMap_made _ _ _ _,isMap_empty,fun a=>rfl,fun a v zd h=>(nomatch h)⟩
theorem str_inj {a b:ByteArray} (h:Lit.string a.data.toList=Lit.string b.data.toList):a=b:=by
 injection h with h
 rw [←Lib.mk_data a,←Lib.mk_data b,h]
section
variable {w:World} {M S:Nat} {f:Nf}
theorem MapN.lt (h:MapN w M S f):M<w.heap.size:=by obtain ⟨D,h,_⟩:=h;exact h.lt
theorem MapN.of_block {w':World} (h:MapN w M S f) (hb:w'.heap[M]?=w.heap[M]?):MapN w' M S f:=by
 obtain ⟨D,⟨es,clock,h1,h2⟩,r⟩:=h
 exact ⟨D,⟨es,clock,hb.trans h1,h2⟩,r⟩
theorem MapN.below {w':World} (h:MapN w M S f) (hb:Below w.heap.size w w'):MapN w' M S f:=h.of_block (hb.block M h.lt)
theorem MapN.put (h:MapN w M S f) (hn:S≤1000000) {a:ByteArray} (ha:a.size≤maxLen) (v:Nd) :
  ∃w',(Instr.mapUpdate 119 (.map (some M)) (.string a) (Nv v)).run Tryz.prog w=.ok () w'∧MapN w' M (S+1) (nput f a v)∧w.grownBy w' (some M):=by
 obtain ⟨D,h1,h2,h3,h4⟩:=h
 obtain ⟨w',hrun,hown,hg⟩:=h1.update (string_keyed k9) Tryz.underlying119 (by unfold maxLen;omega) (keyOf_string_mk k9 ha) (show RV (Nv v)=some (.held (Nv v),[]) from rfl)
 refine ⟨w',hrun,⟨_,hown,h2.put _ _,fun x=>?_,fun x u zd hx=>?_⟩,hg⟩
 ·unfold nput
  by_cases e:x=a
  ·subst e;rw [Jb rfl,has_put_same h2 (show WideAt.IsKeyLit (.string x.data.toList) from trivial)];rfl
  ·rw [Ja e,has_put_other (fun h=>e (str_inj h)),h3]
 ·unfold nput at hx
  by_cases e:x=a
  ·subst e
   rw [Jb rfl] at hx
   injection hx with hx
   subst hx
   exact atKey_put_same h2 (show WideAt.IsKeyLit (.string x.data.toList) from trivial) _ _
  ·rw [Ja e] at hx
   rw [atKey_put_other (fun h=>e (str_inj h))]
   exact h4 x u zd hx
theorem MapN.look (h:MapN w M S f) {a:ByteArray} (ha:a.size≤maxLen) :
  (Instr.lookup 119 (.map (some M)) (.string a) false).run Tryz.prog w=.ok (Nv ((f a).getD (0,0))) w:=by
 obtain ⟨D,h1,h2,h3,h4⟩:=h
 obtain ⟨v,ps,hrun,hv⟩:=h1.lookup (string_keyed k9) Tryz.underlying119 (z:=Nv (0,0)) (by kernel_rfl) (show RV (Nv (0,0))=some (.held (Nv (0,0)),[]) from rfl) (keyOf_string_mk k9 ha)
 rw [hrun]
 unfold RV at hv
 injection hv with hv
 injection hv with hv
 cases hf:f a with
 | some u=>rw [h4 a u _ hf] at hv;injection hv with hv;rw [hv];rfl
 | none =>
  rw [atKey_of_not_has (by rw [h3,hf];rfl)] at hv
  injection hv with hv;rw [hv];rfl
def MapRN (w:World) (M r S:Nat) (f:Nf) (left:ByteArray→Bool) (cnt:Nat):Prop :=
 ∃(D:DataW Value) (lf:Lit→Bool),w.ranges Tryz.prog 9 RV M r S D lf cnt∧(∀a:ByteArray,lf (.string a.data.toList)=left a)∧(∀a,left a=true→(f a).isSome=true)∧(∀(a:ByteArray) v zd,f a=some v→D.atKey (.string a.data.toList) zd=.held (Nv v))
theorem MapRN.kept {w':World} {r cnt:Nat} {left:ByteArray→Bool} (h:MapRN w M r S f left cnt) (hb:Below w.heap.size w w'):MapRN w' M r S f left cnt:=by
 obtain ⟨D,lf,h1,h2,h3,h4⟩:=h
 exact ⟨D,lf,h1.kept (row:=none) ⟨hb.os,hb.tape,hb.output,hb.size,fun k hk _=>hb.block k hk⟩ (by simp) (by simp),h2,h3,h4⟩
section
variable {ops:Array Oper} {rest:List Oper} {o:Oper} {a:Act} {Q:Exit→Act→World→Prop}
theorem list_rangeN (w:World) (hg:o.guard=none) (m:Operand) (hop:o.op=Op.range 119 m) (M S:Nat) (f:Nf) (hm:a.eval m=.map (some M)) (r:Nat) (hr:w.heap.size=r) (h:MapN w M S f)
  (hK:∀w' cnt,MapRN w' M r S f (fun a=>(f a).isSome) cnt→Below w.heap.size w w'→w'.heap.size=r+1→wpList Tryz.prog ops Q rest (a.put o.dst (.pointer (some ⟨r,0,none⟩))) w'):wpList Tryz.prog ops Q (o::rest) a w:=by
 subst hr
 obtain ⟨D,h1,h2,h3,h4⟩:=h
 exact wpList_range_own w hg m 119 hop 9 24 (string_keyed k9) Tryz.underlying119 RV M S D hm h1 fun w' hr hg hs=>hK w' _ ⟨D,_,hr,fun b=>h3 b,fun b hb=>hb,h4⟩ ⟨hg.os,hg.tape,hg.output,hg.size,fun k hk=>hg.block k hk (by simp)⟩ hs
theorem list_nextN (w:World) (hg:o.guard=none) (it:Operand) (hop:o.op=Op.next it false) (M r S cnt:Nat) (f:Nf) (left:ByteArray→Bool) (hit:a.eval it=.pointer (some ⟨r,0,none⟩)) (h:MapRN w M r S f left cnt)
  (hDone:(∀s,left s=false)→wpList Tryz.prog ops Q rest (a.put o.dst (.tuple #[.bool false])) w)
  (hMore:∀(x:ByteArray) (v:Nd) (w':World) (cnt':Nat),f x=some v→left x=true→x.size≤maxLen→MapRN w' M r S f (fun s=>left s && !decide (s=x)) cnt'→cnt'<cnt→w.grownBy w' (some r)→w'.heap.size=w.heap.size→(Instr.entry (.pointer (some ⟨r,0,none⟩))).run Tryz.prog w'=.ok (.tuple #[.string x,Nv v]) w' →
   wpList Tryz.prog ops Q rest (a.put o.dst (.tuple #[.bool true,.string x,Nv v])) w'):wpList Tryz.prog ops Q (o::rest) a w:=by
 obtain ⟨D,lf,h1,h2,h3,h4⟩:=h
 refine wpList_next_ranges w hg it hop 9 (string_keyed k9) RV Value.string (fun v:Value=>v) (fun key kl hkey=>by obtain ⟨x,rfl,_⟩:=string_of_keyOf k9 hkey;exact ⟨x,rfl⟩) (fun v y _=>⟨v,rfl⟩)
  M r S D lf cnt hit h1 (fun _ hl=>hDone fun s=>by rw [←h2];exact hl _) (fun x c kl y w' cnt' hkey hlk hv hat hrg hlt hgr hsz hen=>?_)
 obtain ⟨x',ex,rfl,hxm⟩:=string_of_keyOf k9 hkey
 injection ex with ex
 subst ex
 rw [h2] at hlk
 have hs:=h3 x hlk
 cases hf:f x with
 | none=>rw [hf] at hs;cases hs
 | some v =>
  have e1:=h4 x v (.held (Nv v)) hf
  rw [hat] at e1
  unfold RV at hv
  injection hv with hv
  rw [←hv] at e1
  injection e1 with e1
  subst e1
  refine hMore x v w' cnt' hf hlk hxm ⟨D,_,hrg,fun b=>?_,fun b hb=>h3 b (by simp only [Bool.and_eq_true] at hb;exact hb.1),h4⟩ hlt hgr hsz hen
  dsimp only
  rw [h2]
  have:Lit.sameKey (.string b.data.toList) (.string x.data.toList)=decide (b=x):=by
   show (b.data.toList == x.data.toList)=_
   by_cases e:b=x
   ·subst e;simp
   ·rw [decide_eq_false e]
    have:b.data.toList≠x.data.toList:=fun e2=>e (str_inj (by rw [e2]))
    simpa using this
  rw [this]
end
end
end mg
namespace mg
open Go.RowKit
open dn (En lget lset ldel nerr dotB Sorted lessB)
open br (BS Ino Inv fresh)
def st1 (f:Nf) (e:En):Nf:=nput f e.1 (e.2,0)
def st2 (f:Nf) (e:En):Nf:=nput f e.1 (((f e.1).getD (0,0)).1,e.2)
theorem lget_cons (s:ByteArray) (e:En) (l:List En):lget s (e::l)=if e.1=s then some e.2 else lget s l:=by
 unfold lget
 by_cases h:e.1=s
 ·simp [List.find?,h]
 ·simp [List.find?,h]
theorem lget_ahead {e:En} {l:List En} (h:Sorted (e::l)):lget e.1 l=none:=by
 refine dn.lget_none.2 fun x hx hxe=>?_
 have:=h.cons.2 x hx
 rw [hxe,dn.less_irrefl] at this
 cases this
theorem fold1:∀(l:List En) (g:Nf) (s:ByteArray),Sorted l→l.foldl st1 g s=match lget s l with|some v=>some (v,0)|none=>g s
 | [],g,s,_=>rfl
 | e::l,g,s,h=>by
  rw [List.foldl_cons,fold1 l _ s h.cons.1,lget_cons]
  by_cases he:e.1=s
  ·subst he
   rw [Jb rfl,lget_ahead h]
   show nput g e.1 (e.2,0) e.1=_
   unfold nput;rw [Jb rfl]
  ·rw [Ja he]
   cases lget s l with
   | some v=>rfl
   | none=>show nput g e.1 (e.2,0) s=_;unfold nput;rw [Ja (fun h=>he h.symm)]
theorem fold2:∀(l:List En) (g:Nf) (s:ByteArray),Sorted l→l.foldl st2 g s=match lget s l with|some v=>some (((g s).getD (0,0)).1,v)|none=>g s
 | [],g,s,_=>rfl
 | e::l,g,s,h=>by
  rw [List.foldl_cons,fold2 l _ s h.cons.1,lget_cons]
  by_cases he:e.1=s
  ·subst he
   rw [Jb rfl,lget_ahead h]
   show nput g e.1 _ e.1=_
   unfold nput;rw [Jb rfl]
  ·rw [Ja he]
   have:st2 g e s=g s:=by show nput g e.1 _ s=_;unfold nput;rw [Ja (fun h=>he h.symm)]
   rw [this]
theorem fold_take {α β:Type} (f:β→α→β) (b:β) (l:List α) (k:Nat) (x:α) (h:l[k]?=some x):(l.take (k+1)).foldl f b=f ((l.take k).foldl f b) x:=by
 have hk:k<l.length:=(List.getElem?_eq_some_iff.1 h).1
 have hx:l[k]=x:=(List.getElem?_eq_some_iff.1 h).2
 rw [List.take_succ_eq_append_getElem hk,List.foldl_append,hx];rfl
def pairF (U L:BS) (n:Nd):Nf:=(L.all (belV U n)).1.foldl st2 ((U.all n.1).1.foldl st1 (fun _=>none))
section
variable {S U L:BS} {room:Nat}
theorem all_sorted (hI:Inv S room) (d:Int):Sorted (S.all d).1:=by
 unfold BS.all
 split
 ·exact List.Pairwise.nil
 ·exact hI.sorted _
theorem all_get (S:BS) (d:Int) (s:ByteArray):(S.get d s).1=(lget s (S.all d).1).getD 0:=by
 unfold BS.get BS.all
 by_cases h:S.dirE d false≠0
 ·rw [Jb h,Jb h];rfl
 ·rw [Ja h,Ja h]
  cases lget s (S.at d).dir with
  | none=>rfl
  | some v=>rfl
theorem all_len (hI:Inv S room) (d:Int):(S.all d).1.length≤4000:=by
 unfold BS.all
 split
 ·exact Nat.zero_le _
 ·exact hI.dirLen _
theorem all_size (hI:Inv S room) (d:Int):∀x,x∈(S.all d).1→x.1.size≤60:=fun x hx=>by
 unfold BS.all at hx
 split at hx
 ·cases hx
 ·exact (cb.nerr_len (hI.good _ x hx).1).2
theorem pairF_is {r1 r2:Nat} (hU:Inv U r1) (hL:Inv L r2) (n:Nd) (s:ByteArray):(pairF U L n s=none∧pairV U L n s=(0,0))∨pairF U L n s=some (pairV U L n s):=by
 unfold pairF pairV
 rw [fold2 _ _ _ (all_sorted hL _),fold1 _ _ _ (all_sorted hU _),all_get,all_get]
 cases lget s (L.all (belV U n)).1 with
 | some v =>
  right
  cases lget s (U.all n.1).1 <;> rfl
 | none =>
  cases lget s (U.all n.1).1 with
  | some v=>right;rfl
  | none=>left;exact ⟨rfl,rfl⟩
theorem seen_names {r1 r2:Nat} (hU:Inv U r1) (hL:Inv L r2) (n:Nd) (s:ByteArray) (hl:lstV U L n=0):(getV U L n s).2=0↔∃p,pairF U L n s=some p∧seenV U L p≠(0,0):=by
 unfold getV
 rw [Ja (by rw [hl];decide)]
 have h0:seenV U L (0,0)=(0,0):=by rw [seen_none (kind_zero U),kind_zero L];rfl
 rcases pairF_is hU hL n s with ⟨h1,h2⟩|h1
 ·rw [h1,h2,h0,Jb rfl]
  exact ⟨fun e=>absurd e (by decide),fun ⟨p,e,_⟩=>nomatch e⟩
 ·rw [h1]
  by_cases h3:seenV U L (pairV U L n s)=(0,0)
  ·rw [Jb h3]
   exact ⟨fun e=>absurd e (by decide),fun ⟨p,e,e2⟩=>by injection e with e;rw [←e] at e2;exact absurd h3 e2⟩
  ·rw [Ja h3]
   exact ⟨fun _=>⟨_,rfl,h3⟩,fun _=>rfl⟩
end
end mg
namespace mg
open Go.RowKit
open dn (En lget lset ldel nerr dotB Sorted lessB ERow Sl Ao)
open br (BS Ino Inv fresh)
open cb (BrX RetW RetI No)
open bl (Pq Only)
def SE (w:World) (M:Nat) (o:Option Nat) (L:List En):Prop:=∀k x,L[k]?=some x→∃G,o=some G∧M<G∧G<w.heap.size∧w.cell? ⟨G,k*2,none⟩=some (.string x.1)∧w.cell? ⟨G,k*2+1,none⟩=some (.int .i64 x.2)
theorem SE.of {w:World} {M lo c:Nat} {o:Option Nat} {L:List En} (h:Sl w lo o c L) (hM:M<lo):SE w M o L:=fun k x hk=>by
 cases o with
 | none=>obtain ⟨rfl,_⟩:=h;cases hk
 | some G =>
  obtain ⟨h1,h2⟩:=h
  exact ⟨G,rfl,by omega,h2.lt,(h2.at_ hk).1,(h2.at_ hk).2⟩
theorem SE.only {w w':World} {M:Nat} {o:Option Nat} {L:List En} (h:SE w M o L) (ho:Only (fun b=>b=M) w w'):SE w' M o L:=fun k x hk=>by
 obtain ⟨G,e,h1,h2,h3,h4⟩:=h k x hk
 have hb:=ho.block G h2 (by omega)
 exact ⟨G,e,h1,Nat.lt_of_lt_of_le h2 ho.size,(World.cell?_of_block (a:=⟨G,k*2,none⟩) hb).trans h3,(World.cell?_of_block (a:=⟨G,k*2+1,none⟩) hb).trans h4⟩
theorem only_grown {w w':World} {M:Nat} (h:w.grownBy w' (some M)):Only (fun b=>b=M) w w':=⟨h.os,h.tape,h.output,h.size,fun k hk hF=>h.block k hk (fun e=>hF (by cases e;rfl))⟩
theorem only_bel {w w':World} {F:Nat→Prop} (h:Below w.heap.size w w'):Only F w w':=⟨h.os,h.tape,h.output,h.size,fun k hk _=>h.block k hk⟩
theorem bel_only {w0 w w':World} {M:Nat} (hb:Below w0.heap.size w0 w) (h:Only (fun b=>b=M) w w') (hM:w0.heap.size≤M):Below w0.heap.size w0 w' :=
 hb.trans ⟨h.os,h.tape,h.output,h.size,fun k hk=>h.block k (Nat.lt_of_lt_of_le hk hb.size) fun e=>by omega⟩
theorem Vx.allU {w:World} {V P1 P2:Nat} {u l:Int} {U L:BS} (h:Vx w V P1 P2 u l U L) (i:Int):Calls Tryz.prog 53 #[Pq P1,.int .i64 i] w (fun e w'=>∃o c,e=.returned (.tuple #[.slice (dn.Ao o) (U.all i).1.length c,.int .i64 (U.all i).2])∧(U.all i).1.length≤c∧c≤maxLen∧dn.Sl w' w.heap.size o c (U.all i).1∧Below w.heap.size w w'):=by obtain ⟨_,_,_,k⟩:=h.b1;exact cb.x_all k i
theorem Vx.allL {w:World} {V P1 P2:Nat} {u l:Int} {U L:BS} (h:Vx w V P1 P2 u l U L) (i:Int):Calls Tryz.prog 53 #[Pq P2,.int .i64 i] w (fun e w'=>∃o c,e=.returned (.tuple #[.slice (dn.Ao o) (L.all i).1.length c,.int .i64 (L.all i).2])∧(L.all i).1.length≤c∧c≤maxLen∧dn.Sl w' w.heap.size o c (L.all i).1∧Below w.heap.size w w'):=by obtain ⟨_,_,_,k⟩:=h.b2;exact cb.x_all k i
def PairsE (w:World) (f:Nf) (e:Ending) (w':World):Prop:=∃M S,e=.returned (.map (some M))∧MapN w' M S f∧w.heap.size≤M∧Below w.heap.size w w'
theorem pairs_any {w:World} {V P1 P2:Nat} {u l:Int} {U L:BS} {r1 r2:Nat} (h:Vx w V P1 P2 u l U L) (hU:Inv U r1) (hL:Inv L r2) (n:Nd):Calls Tryz.prog 78 #[Pq V,Nv n] w (PairsE w (pairF U L n)):=by
 obtain ⟨n1,n2⟩:=n
 obtain ⟨w2,hw2⟩:∃w2,(w.alloc (.cells #[.int .i64 n1,.int .i64 n2] 24)).alloc (.map #[] 0)=w2:=⟨_,rfl⟩
 have da:Below w.heap.size w w2:=by rw [←hw2];exact bel_step (bel_alloc _ _) (bel_alloc _ _)
 have ga:Nb w2 w.heap.size (n1,n2):=by rw [←hw2];exact (Nb.new w n1 n2).below (bel_alloc _ _)
 have sa:MapN w2 (w.heap.size+1) 0 (fun _=>none):=by rw [←hw2];have:=MapN.made (w.alloc (.cells #[.int .i64 n1,.int .i64 n2] 24));rwa [World.size_alloc] at this
 have HB:=Qa da
 have HN:=Qa ga
 have HM:=Qa sa
 have Q3:=Qa (fun W (hb:Below w.heap.size w W)=>h.below hb)
 have Qh:=Qa (show ∀W,Below w.heap.size w W→W.cell? ⟨V,0,none⟩=some (Pq P1)∧W.cell? ⟨V,1,none⟩=some (Pq P2) from fun W hb=>⟨(h.below hb).c0,(h.below hb).c1⟩)
 have Qt:=Qa (fun W (hb:Below w.heap.size w W)=>(h.below hb).allU n1)
 have Qv:=Qa (fun W (hb:Below w.heap.size w W)=>(h.below hb).allL (belV U (n1,n2)))
 have Qw:=Qa (show pairF U L (n1,n2)=(L.all (belV U (n1,n2))).1.foldl st2 ((U.all n1).1.foldl st1 (fun _=>none)) from rfl)
 have Qn:=Qa (And.intro (all_len hU n1) (all_size hU n1))
 have Qx:=Qa (And.intro (all_len hL (belV U (n1,n2))) (all_size hL (belV U (n1,n2))))
 have Qo:=Qa (fun W (hb:Below w.heap.size w W)=>below_any (h.below hb) (n1,n2))
 unfold RetI at Qo
 generalize pairF U L (n1,n2)=pf at *
 generalize belV U (n1,n2)=be at *
 generalize (U.all n1).1=lu at *
 generalize (U.all n1).2=eu at *
 generalize (L.all be).1=ll at *
 generalize (L.all be).2=el at *
 clear h hU hL da ga sa
 obtain ⟨g,hg⟩:∃g,w.heap.size=g:=⟨_,rfl⟩
 have Q4:=Qa hg
 rw [hg] at HN HM
 have ba:=@run_makeMap Tryz.prog 119 (w.alloc (.cells #[.int .i64 n1,.int .i64 n2] 24))
 obtain ⟨k0,k1⟩:=Qh.out _ HB.out
 obtain ⟨t0,t1⟩:=HN.out
 dsimp only at t0 t1
 unfold PairsE
 go_enter Tryz.func78,Tryz.ntmps78
 go_wp2_with fail
 go_region_held3 (fun w'=>w'.cell? ⟨V,0,none⟩=some (Pq P1)∧w'.cell? ⟨g,0,none⟩=some (.int .i64 n1))
  (first|exact ⟨k0,t0⟩|exact S8|assumption|go_keep)
  (first|(go_at_call 53;((with_reducible refine (Qt.out _ HB.out.drew).mono ?_);rintro _ w8 ⟨o1,c1,rfl,hlc1,hcm1,hsl1,hb8⟩;have Qc:=Qa ((Below.refl w2.heap.size w2).drew.trans hb8);have Qe:=Qa (bel_step HB.out Qc.out);have Qd:=Qa (HN.out.below Qc.out);have Qi:=Qa (HM.out.below Qc.out);have Q5:=Qa (SE.of hsl1 (show g+1<_ from HM.out.lt));have S8:=And.intro (Qh.out _ Qe.out).1 Qd.out.c0)))
 all_goals
  clear k0 k1 t0 t1 S8 hb8 hsl1 hw2 ba Qc
  have Qp:=Qa (show w.heap.size≤g+1 by have:=Q4.out;omega)
  have Qq:=Qa (show 0≤4000 by omega)
  go_wp2_with fail
  go_loopg [27] lu.length (fun g' sk wr=>∃k:Nat,g'+k=lu.length∧sk=.int .i64 k∧Hid (MapN wr (g+1) (0+k) ((lu.take k).foldl st1 (fun _=>none)))∧Hid (Only (fun b=>b=(g+1)) w8 wr))
  case atStart=>exact ⟨0,by omega,rfl,Qi,Qa (Only.refl _ _)⟩
  case round =>
   clear Qi
   obtain ⟨k,hgk,rfl,Qb,HO⟩:=hrel
   by_cases hgo:k<lu.length
   ·have hx:lu[k]?=some lu[k]:=List.getElem?_eq_getElem hgo
    have ma:=fold_take st1 (fun _=>none) lu k _ hx
    have xa:=Qn.out.2 _ (List.getElem_mem hgo)
    obtain ⟨Fk,hFk⟩:∃F,(lu.take k).foldl st1 (fun _=>none)=F:=⟨_,rfl⟩
    rw [hFk] at ma Qb
    clear hFk
    obtain ⟨G,hGe,hMG,hGl,f0,f1⟩:=(Q5.out.only HO.out) k _ hx
    generalize lu[k]=x at *
    obtain ⟨xs,xv⟩:=x
    dsimp only at f0 f1 xa
    have ja:xs.size≤maxLen:=by unfold maxLen;omega
    obtain ⟨w9,hw9⟩:∃w9,wr.alloc (.cells #[.string xs,.int .i64 xv] 125)=w9:=⟨_,rfl⟩
    have qa:Below wr.heap.size wr w9:=by rw [←hw9];exact bel_alloc _ _
    have b0:w9.cell? ⟨wr.heap.size,0,none⟩=some (.string xs):=by rw [←hw9];simp
    have b1:w9.cell? ⟨wr.heap.size,1,none⟩=some (.int .i64 xv):=by rw [←hw9];simp
    obtain ⟨gb,hgb⟩:∃gb,wr.heap.size=gb:=⟨_,rfl⟩
    have Qj:=Qa (Qb.out.below qa)
    have Qk:=Qa (HO.out.trans (only_bel qa))
    rw [hgb] at b0 b1
    have ya:0+k≤1000000:=by have:=Qn.out.1;have:=Qq.out;omega
    obtain ⟨w10,hrun,hm10,hg10⟩:=Qj.out.put ya ja (xv,0)
    have Qf:=Qa (show MapN w10 (g+1) (0+(k+1)) ((lu.take (k+1)).foldl st1 (fun _=>none)) by rw [ma];exact hm10)
    have Qg:=Qa (Qk.out.trans (only_grown hg10))
    unfold Nv at hrun
    clear ma xa hMG hm10 hg10 Qb HO Qj Qk qa ja 
    subst hGe
    go_wp2_with fail
    go_roundg (lu.length - (k+1))
    case measure=>omega
    case rel=>exact ⟨k+1,by omega,by go_num,Qf,Qg⟩
   ·have hk:k=lu.length:=by omega
    subst hk
    have Qy:=Qa (show MapN wr (g+1) lu.length (lu.foldl st1 (fun _=>none)) by have:=Qb.out;rwa [List.take_length,Nat.zero_add] at this)
    have Qm:=Qa (bel_only Qe.out HO.out Qp.out)
    have Qr:=Qa (show Nb wr g (n1,n2) from Qd.out.same (HO.out.block g Qd.out.lt (by omega)))
    clear Qb HO Qe Qd Qt HB HN HM
    obtain ⟨k0,k1⟩:=Qh.out _ Qm.out
    obtain ⟨t0,t1⟩:=Qr.out
    dsimp only at t0 t1
    go_wp2_with fail
    go_region_held3 (fun w'=>w'.cell? ⟨V,1,none⟩=some (Pq P2)∧w'.cell? ⟨g,0,none⟩=some (.int .i64 n1)∧w'.cell? ⟨g,1,none⟩=some (.int .i64 n2))
     (first|exact ⟨k1,t0,t1⟩|exact S8|exact S9|assumption|go_keep)
     (first|(go_at_call 73;((with_reducible refine (Qo.out _ Qm.out.drew).mono ?_);rintro _ w8 ⟨rfl,hb8⟩;have Qc:=Qa ((Below.refl wr.heap.size wr).drew.trans hb8);have Qe:=Qa (bel_step Qm.out Qc.out);have Qd:=Qa (Qr.out.below Qc.out);have Qi:=Qa (Qy.out.below Qc.out);have S8:=And.intro (Qh.out _ Qe.out).2 (And.intro Qd.out.c0 Qd.out.c1)))|(go_at_call 53;((with_reducible refine (Qv.out _ Qe.out).mono ?_);rintro _ wa ⟨o2,c2,rfl,hlc2,hcm2,hsl2,hba⟩;have Qz:=Qa (bel_step Qe.out hba);have Q2:=Qa (Qd.out.below hba);have Qs:=Qa (Qi.out.below hba);have Q6:=Qa (SE.of hsl2 (show (g+1)<_ from Qi.out.lt));have S9:=And.intro (Qh.out _ Qz.out).2 (And.intro Q2.out.c0 Q2.out.c1))))
    all_goals
     clear k0 k1 t0 t1 S8 S9 hb8 Qc Qe Qd Qi Qm Qr Qy hba hsl2 Qo Qv Qh Q3
     have Ql:=Qa (show lu.foldl st1 (fun _=>none)=lu.foldl st1 (fun _=>none) from rfl)
     generalize hbase:lu.foldl st1 (fun _=>none)=base at Qs Ql Qw
     have Qq:=Qa (show lu.length≤4000 from Qn.out.1)
     go_wp2_with fail
     go_loopg [51] ll.length (fun g' sk wr=>∃k:Nat,g'+k=ll.length∧sk=.int .i64 k∧Hid (MapN wr (g+1) (lu.length+k) ((ll.take k).foldl st2 base))∧Hid (Only (fun b=>b=(g+1)) wa wr))
     case atStart=>exact ⟨0,by omega,rfl,Qs,Qa (Only.refl _ _)⟩
     case round =>
      clear Qs
      obtain ⟨k,hgk,rfl,Qb,HO⟩:=hrel
      by_cases hgo:k<ll.length
      ·have hx:ll[k]?=some ll[k]:=List.getElem?_eq_getElem hgo
       have ma:=fold_take st2 base ll k _ hx
       have xa:=Qx.out.2 _ (List.getElem_mem hgo)
       obtain ⟨Fk,hFk⟩:∃F,(ll.take k).foldl st2 base=F:=⟨_,rfl⟩
       rw [hFk] at ma Qb
       clear hFk
       obtain ⟨G,hGe,hMG,hGl,f0,f1⟩:=(Q6.out.only HO.out) k _ hx
       generalize ll[k]=x at *
       obtain ⟨xs,xv⟩:=x
       dsimp only at f0 f1 xa
       have ja:xs.size≤maxLen:=by unfold maxLen;omega
       obtain ⟨w9,hw9⟩:∃w9,wr.alloc (.cells #[.string xs,.int .i64 xv] 125)=w9:=⟨_,rfl⟩
       have qa:Below wr.heap.size wr w9:=by rw [←hw9];exact bel_alloc _ _
       have b0:w9.cell? ⟨wr.heap.size,0,none⟩=some (.string xs):=by rw [←hw9];simp
       have b1:w9.cell? ⟨wr.heap.size,1,none⟩=some (.int .i64 xv):=by rw [←hw9];simp
       obtain ⟨gb,hgb⟩:∃gb,wr.heap.size=gb:=⟨_,rfl⟩
       have Qj:=Qa (Qb.out.below qa)
       have Qk:=Qa (HO.out.trans (only_bel qa))
       rw [hgb] at b0 b1
       have ya:lu.length+k≤1000000:=by have:=Qx.out.1;have:=Qq.out;omega
       obtain ⟨pr,hpr⟩:∃pr,((Fk xs).getD (0,0))=pr:=⟨_,rfl⟩
       have la:=Qj.out.look ja
       rw [hpr] at la
       obtain ⟨pr1,pr2⟩:=pr
       have fa:∀W,(Instr.field 24 (.agg #[.int .i64 pr1,.int .i64 pr2]) 0).run Tryz.prog W=.ok (.int .i64 pr1) W:=fun _=>rfl
       obtain ⟨w10,hrun,hm10,hg10⟩:=Qj.out.put ya ja (pr1,xv)
       have Qf:=Qa (show MapN w10 (g+1) (lu.length+(k+1)) ((ll.take (k+1)).foldl st2 base) by rw [ma];show MapN w10 (g+1) _ (nput Fk xs (((Fk xs).getD (0,0)).1,xv));rw [hpr];exact hm10)
       have Qg:=Qa (Qk.out.trans (only_grown hg10))
       dsimp only [Nv] at hrun la
       clear ma xa hMG hm10 hg10 Qb HO Qj Qk qa ja hpr
       subst hGe
       go_wp2_with fail
       go_roundg (ll.length - (k+1))
       case measure=>omega
       case rel=>exact ⟨k+1,by omega,by go_num,Qf,Qg⟩
      ·have hk:k=ll.length:=by omega
       subst hk
       have Q7:=Qa (show MapN wr (g+1) (lu.length+ll.length) pf by rw [Qw.out];have:=Qb.out;rwa [List.take_length] at this)
       have Q8:=Qa (bel_only Qz.out HO.out Qp.out)
       clear Qb HO
       go_wp2_with fail
       go_ret
       exact ⟨g+1,_,rfl,Q7.out,Qp.out,Q8.out⟩
end mg
namespace mg
open Go.Shelf Go.RowKit Go.Lib Go.Sort
open dn (lessB)
set_option maxRecDepth 100000
def sl6_ren:Go.Shelf.Ren:=⟨fun|6=>79|10=>148|11=>149|12=>150|13=>151|14=>152|24=>194|25=>195|26=>196|27=>197|28=>198|29=>199|30=>200|31=>201|32=>202|33=>203|34=>221|35=>222|36=>223|37=>224|38=>225|39=>235|n=>n,fun|20=>20|26=>123|35=>208|0=>0|37=>210|3=>3|41=>213|44=>216|49=>265|51=>204|4=>4|54=>269|53=>268|58=>236|5=>5|9=>9|60=>301|64=>305|66=>318|67=>319|17=>17|32=>205|33=>206|82=>339|12=>12|75=>333|76=>334|77=>335|78=>253|79=>336|80=>337|n=>n,fun|n=>n⟩
theorem sl6:Go.Proofs.LaysGg.n6 Tryz.prog sl6_ren:={
 mixed:=by kernel_rfl
 f6:=Tryz.func79.trans (congrArg some (by kernel_rfl))
 f10:=Tryz.func148.trans (congrArg some (by kernel_rfl))
 f11:=Tryz.func149.trans (congrArg some (by kernel_rfl))
 f12:=Tryz.func150.trans (congrArg some (by kernel_rfl))
 f13:=Tryz.func151.trans (congrArg some (by kernel_rfl))
 f14:=Tryz.func152.trans (congrArg some (by kernel_rfl))
 f24:=Tryz.func194.trans (congrArg some (by kernel_rfl))
 f25:=Tryz.func195.trans (congrArg some (by kernel_rfl))
 f26:=Tryz.func196.trans (congrArg some (by kernel_rfl))
 f27:=Tryz.func197.trans (congrArg some (by kernel_rfl))
 f28:=Tryz.func198.trans (congrArg some (by kernel_rfl))
 f29:=Tryz.func199.trans (congrArg some (by kernel_rfl))
 f30:=Tryz.func200.trans (congrArg some (by kernel_rfl))
 f31:=Tryz.func201.trans (congrArg some (by kernel_rfl))
 f32:=Tryz.func202.trans (congrArg some (by kernel_rfl))
 f33:=Tryz.func203.trans (congrArg some (by kernel_rfl))
 f34:=Tryz.func221.trans (congrArg some (by kernel_rfl))
 f35:=Tryz.func222.trans (congrArg some (by kernel_rfl))
 f36:=Tryz.func223.trans (congrArg some (by kernel_rfl))
 f37:=Tryz.func224.trans (congrArg some (by kernel_rfl))
 f38:=Tryz.func225.trans (congrArg some (by kernel_rfl))
 f39:=Tryz.func235.trans (congrArg some (by kernel_rfl))
 t0:=Tryz.underlying0
 a0:=Tryz.isAgg0
 z0:=Tryz.sizeOf0
 v0:=Tryz.zeroValue0
 i0:=by kernel_rfl
 t3:=Tryz.underlying3
 a3:=Tryz.isAgg3
 z3:=Tryz.sizeOf3
 v3:=Tryz.zeroValue3
 i3:=by kernel_rfl
 t4:=Tryz.underlying4
 a4:=Tryz.isAgg4
 z4:=Tryz.sizeOf4
 v4:=Tryz.zeroValue4
 i4:=by kernel_rfl
 t5:=Tryz.underlying5
 a5:=Tryz.isAgg5
 z5:=Tryz.sizeOf5
 v5:=Tryz.zeroValue5
 i5:=by kernel_rfl
 t9:=Tryz.underlying9
 a9:=Tryz.isAgg9
 z9:=Tryz.sizeOf9
 v9:=Tryz.zeroValue9
 i9:=by kernel_rfl
 t12:=Tryz.underlying12
 a12:=Tryz.isAgg12
 z12:=Tryz.sizeOf12
 v12:=Tryz.zeroValue12
 i12:=by kernel_rfl
 t17:=Tryz.underlying17
 a17:=Tryz.isAgg17
 z17:=Tryz.sizeOf17
 v17:=Tryz.zeroValue17
 i17:=by kernel_rfl
 t20:=Tryz.underlying20
 a20:=Tryz.isAgg20
 z20:=Tryz.sizeOf20
 v20:=Tryz.zeroValue20
 i20:=by kernel_rfl
 t26:=Tryz.underlying123
 a26:=Tryz.isAgg123
 z26:=Tryz.sizeOf123
 v26:=Tryz.zeroValue123
 i26:=by kernel_rfl
 t32:=Tryz.underlying205
 a32:=Tryz.isAgg205
 z32:=Tryz.sizeOf205
 v32:=Tryz.zeroValue205
 i32:=by kernel_rfl
 t33:=Tryz.underlying206
 a33:=Tryz.isAgg206
 z33:=Tryz.sizeOf206
 v33:=Tryz.zeroValue206
 i33:=by kernel_rfl
 t35:=Tryz.underlying208
 a35:=Tryz.isAgg208
 z35:=Tryz.sizeOf208
 v35:=Tryz.zeroValue208
 i35:=by kernel_rfl
 t37:=Tryz.underlying210
 a37:=Tryz.isAgg210
 z37:=Tryz.sizeOf210
 v37:=Tryz.zeroValue210
 i37:=by kernel_rfl
 t41:=Tryz.underlying213
 a41:=Tryz.isAgg213
 z41:=Tryz.sizeOf213
 v41:=Tryz.zeroValue213
 i41:=by kernel_rfl
 t44:=Tryz.underlying216
 a44:=Tryz.isAgg216
 z44:=Tryz.sizeOf216
 v44:=Tryz.zeroValue216
 i44:=by kernel_rfl
 t49:=Tryz.underlying265
 a49:=Tryz.isAgg265
 z49:=Tryz.sizeOf265
 v49:=Tryz.zeroValue265
 i49:=by kernel_rfl
 t51:=Tryz.underlying204
 a51:=Tryz.isAgg204
 z51:=Tryz.sizeOf204
 v51:=Tryz.zeroValue204
 i51:=by kernel_rfl
 t53:=Tryz.underlying268
 a53:=Tryz.isAgg268
 z53:=Tryz.sizeOf268
 v53:=Tryz.zeroValue268
 i53:=by kernel_rfl
 t54:=Tryz.underlying269
 a54:=Tryz.isAgg269
 z54:=Tryz.sizeOf269
 v54:=Tryz.zeroValue269
 i54:=by kernel_rfl
 t58:=Tryz.underlying236
 a58:=Tryz.isAgg236
 z58:=Tryz.sizeOf236
 v58:=Tryz.zeroValue236
 i58:=by kernel_rfl
 t60:=Tryz.underlying301
 a60:=Tryz.isAgg301
 z60:=Tryz.sizeOf301
 v60:=Tryz.zeroValue301
 i60:=by kernel_rfl
 t64:=Tryz.underlying305
 a64:=Tryz.isAgg305
 z64:=Tryz.sizeOf305
 v64:=Tryz.zeroValue305
 i64:=by kernel_rfl
 t66:=Tryz.underlying318
 a66:=Tryz.isAgg318
 z66:=Tryz.sizeOf318
 v66:=Tryz.zeroValue318
 i66:=by kernel_rfl
 t67:=Tryz.underlying319
 a67:=Tryz.isAgg319
 z67:=Tryz.sizeOf319
 v67:=Tryz.zeroValue319
 i67:=by kernel_rfl
 t75:=Tryz.underlying333
 a75:=Tryz.isAgg333
 z75:=Tryz.sizeOf333
 v75:=Tryz.zeroValue333
 i75:=by kernel_rfl
 t76:=Tryz.underlying334
 a76:=Tryz.isAgg334
 z76:=Tryz.sizeOf334
 v76:=Tryz.zeroValue334
 i76:=by kernel_rfl
 t77:=Tryz.underlying335
 a77:=Tryz.isAgg335
 z77:=Tryz.sizeOf335
 v77:=Tryz.zeroValue335
 i77:=by kernel_rfl
 t78:=Tryz.underlying253
 a78:=Tryz.isAgg253
 z78:=Tryz.sizeOf253
 v78:=Tryz.zeroValue253
 i78:=by kernel_rfl
 t79:=Tryz.underlying336
 a79:=Tryz.isAgg336
 z79:=Tryz.sizeOf336
 v79:=Tryz.zeroValue336
 i79:=by kernel_rfl
 t80:=Tryz.underlying337
 a80:=Tryz.isAgg337
 z80:=Tryz.sizeOf337
 v80:=Tryz.zeroValue337
 i80:=by kernel_rfl
 t82:=Tryz.underlying339
 a82:=Tryz.isAgg339
 z82:=Tryz.sizeOf339
 v82:=Tryz.zeroValue339
 i82:=by kernel_rfl }
noncomputable def siT:TypeInfo:=(Tryz.prog.info? 43).get (by kernel_rfl)
noncomputable def siE:TypeInfo:=(Tryz.prog.info? 9).get (by kernel_rfl)
theorem siK (n:Nat) (h2:2≤n):Lib.swapperK n siE 24=4:=by
 have a:siE.hasPointers=true:=by kernel_rfl
 have b:siE.bytes=16:=by kernel_rfl
 have c:(n == 0)=false:=by simp;omega
 have d:(n == 1)=false:=by simp;omega
 simp [Lib.swapperK,a,b,c,d]
theorem swo_less:SWO lessB where
 irrefl:=dn.less_irrefl
 trans:=fun x y z h1 h2=>dn.less_trans h1 h2
 ntrans:=fun x y z h1 h2=>by
  by_cases e1:x=y
  ·rw [e1];exact h2
  ·by_cases e2:y=z
   ·rw [←e2];exact h1
   ·exact dn.less_asymm (dn.less_trans (dn.less_of e2 h2) (dn.less_of e1 h1))
theorem less_names (blk off c Bs size:Nat) (W:World) (G:Nat→ByteArray) (hs:W.cell? ⟨Bs,0,none⟩=some (.slice (some ⟨blk,off,none⟩) size c))
  (hc:∀t,t<size→W.cell? ⟨blk,off+t,none⟩=some (.string (G t))) (i j:Nat) (hi:i<size) (hj:j<size) :
  Calls Tryz.prog 80 #[.int .i64 i,.int .i64 j,.pointer (some ⟨Bs,0,none⟩)] W fun e w'=>e=.returned (.bool (lessB (G i) (G j)))∧∃q,w'=W.drewN q:=by
 have ci:=hc i hi
 have cj:=hc j hj
 have hC:=Qa (fun W=>dn.less_any (G i) (G j) W)
 clear hc
 generalize lessB (G i) (G j)=r at *
 generalize G i=x at *
 generalize G j=y at *
 go_enter Tryz.func80,Tryz.ntmps80
 go_wp2_with fail
 go_quiet ((go_at_call 81;with_reducible exact Calls.quiet_of_same (hC.out _)))
 go_wp2_with fail
 go_ret
 exact ⟨rfl,nq,rfl⟩
theorem sort_more (blk off c Bs:Nat) (d:Array ByteArray) (h2:2≤d.size) (h12:d.size<4611686018427387904) (w:World) (hB:w.cell? ⟨Bs,0,none⟩=some (.slice (some ⟨blk,off,none⟩) d.size c)) (hne:Bs≠blk) (hH:Holds Value.string w blk off d) (hblk:blk<w.heap.size) :
  Calls Tryz.prog 79 #[.iface 43 (.slice (some ⟨blk,off,none⟩) d.size c),.func (.func 80) #[] #[.pointer (some ⟨Bs,0,none⟩)]] w fun e w' =>
   e=.returned (.tuple #[])∧∃d' n os,PermIn 0 d.size d d'∧SortedIn lessB 0 d.size d'∧w'=grow (putRow Value.string (Sort.ahead w n) blk off d') os:=by
 have qa:Bs<w.heap.size:=World.block_lt_of_cell? _ _ hB
 have ma:LessReads Tryz.prog 80 #[.pointer (some ⟨Bs,0,none⟩)] Value.string lessB blk off d.size w:=by
  intro m os dk hs i j hi hj
  have e:sortWorld Value.string w blk off m dk os=putRow Value.string (grow (Sort.ahead w m) os) blk off dk:=by
   unfold sortWorld;rw [putRow_grow _ (Sort.ahead w m) _ blk off _ hblk]
  have ja:Holds Value.string (grow (Sort.ahead w m) os) blk off d:=holds_grow _ _ _ blk off d hblk (holds_ahead _ _ _ _ _ _ hH)
  refine less_names blk off c Bs d.size _ (fun t=>dk[t]!) ?_ (fun t ht=>?_) i j hi hj
  ·rw [e,cell?_putRow_other _ _ blk off dk _ (Or.inl hne),cell?_grow _ _ _ (show Bs<w.heap.size from qa)]
   exact hB
  ·rw [e];exact cell?_putRow _ _ blk off d dk ja hs t (by omega)
 exact Any.sort_Slice_sorted sl6 43 9 siT siE (by kernel_rfl) (by kernel_rfl) (by kernel_rfl) (by kernel_rfl) 24 (fun _=>by kernel_rfl) (by kernel_rfl) (fun _=>by kernel_rfl) Value.string (fun _=>rfl) lessB swo_less 80 _
  (enters_of Tryz.func80 (by kernel_rfl) rfl) blk off c d h2 h12 188 (by rw [siK _ h2];kernel_rfl) true
  (fun args W=>run_callFunc_extern Tryz.func188 (by kernel_rfl) (by kernel_rfl) (by kernel_rfl) (e:=Extern.ReflectliteSwapper.swap true) (by kernel_rfl) args W) _ ma hH hblk
theorem sort_few (p:Option Addr) (n c:Nat) (h1:n≤1) (cl:Array Value) (w:World) :
  Calls Tryz.prog 79 #[.iface 43 (.slice p n c),.func (.func 80) #[] cl] w fun e w'=>e=.returned (.tuple #[])∧∃os,w'=grow w os:=by
 have hK:Lib.swapperK n siE 24=n+1:=by
  rcases Nat.eq_zero_or_pos n with h|h
  ·subst h;simp [Lib.swapperK]
  ·obtain rfl:n=1:=by omega
   simp [Lib.swapperK]
 exact Any.sort_Slice_tiny sl6 43 9 siT siE (by kernel_rfl) (by kernel_rfl) (by kernel_rfl) (by kernel_rfl) 24 (fun _=>by kernel_rfl) p n c h1 (185+n) (by
  rw [hK]
  rcases Nat.eq_zero_or_pos n with h|h
  ·subst h;kernel_rfl
  ·obtain rfl:n=1:=by omega
   kernel_rfl) (.func 80) #[] cl w
end mg
namespace mg
open Go.RowKit
open dn (En lget lset ldel nerr dotB Sorted lessB)
open br (BS Ino Inv fresh)
open cb (BrX RetW RetI No)
open bl (Pq Only)
open Go.Maps (IsMap)
theorem info_parts9:∃i:TypeInfo,Tryz.prog.info? 9=some i∧i.zero=some (.string ⟨#[]⟩)∧i.size=1∧i.bytes=16:=⟨(Tryz.prog.info? 9).get (by kernel_rfl),by kernel_rfl,by kernel_rfl,by kernel_rfl,by kernel_rfl⟩
def NR (w:World) (lo:Nat) (A:Option Addr) (l:List ByteArray):Prop:=∀k x,l[k]?=some x→∃G,A=some ⟨G,0,none⟩∧lo≤G∧G<w.heap.size∧w.cell? ⟨G,k,none⟩=some (.string x)∧w.frozen? ⟨G,k,none⟩=false
theorem NR.same {w w':World} {lo:Nat} {A:Option Addr} {l:List ByteArray} (h:NR w lo A l) (hs:w.heap.size≤w'.heap.size) (hk:∀b,lo≤b→b<w.heap.size→w'.heap[b]?=w.heap[b]?):NR w' lo A l:=fun k x hx=>by
 obtain ⟨G,e,h1,h2,h3,h4⟩:=h k x hx
 exact ⟨G,e,h1,Nat.lt_of_lt_of_le h2 hs,(World.cell?_of_block (a:=⟨G,k,none⟩) (hk G h1 h2)).trans h3,(World.frozen?_of_block (a:=⟨G,k,none⟩) (hk G h1 h2)).trans h4⟩
theorem NR.nil (w:World) (lo:Nat) (A:Option Addr):NR w lo A []:=fun k x h=>by cases h
def AllE (w:World) (U L:BS) (n:Nd) (e:Ending) (w':World):Prop :=
 ∃A c l,e=.returned (.tuple #[.slice A l.length c,.int .i64 (lstV U L n)])∧AllV U L n l∧NR w' w.heap.size A l∧l.length≤c∧c≤maxLen∧l.length≤8000∧Below w.heap.size w w'
theorem grown_set (w:World) (g i:Nat) (v:Value):w.grownBy (w.setCell ⟨g,i,none⟩ v) (some g):=have h:=(Below.refl 0 w).setCell (p:=⟨g,i,none⟩) (Nat.zero_le _) v
 ⟨h.os,h.tape,h.output,h.size,fun k hk hne=>heap_set (fun e=>hne (by rw [e]))⟩
theorem MapRN.keptG {w w':World} {M r S cnt:Nat} {f:Nf} {left:ByteArray→Bool} {row:Option Nat} (h:MapRN w M r S f left cnt) (hg:w.grownBy w' row) (h1:row≠some M) (h2:row≠some r):MapRN w' M r S f left cnt:=by
 obtain ⟨D,lf,k1,k2,k3,k4⟩:=h
 exact ⟨D,lf,k1.kept hg h1.symm h2.symm,k2,k3,k4⟩
abbrev Ow (w:World) (B:Nat) (v:Value) (ns:List ByteArray):Prop:=w.ownsRow B 9 1 v ns.length (ns.map Value.string)
theorem Ow.same {w w':World} {B:Nat} {v:Value} {ns:List ByteArray} (h:Ow w B v ns) (hk:∀g,B≤g→g<w.heap.size→w'.heap[g]?=w.heap[g]?):Ow w' B v ns:=by
 refine ⟨h.1,?_⟩
 rcases h.2 with e|⟨g,cap,cur,hv,hb,hg,r⟩
 ·exact .inl e
 ·exact .inr ⟨g,cap,cur,hv,hb,(hk g hb (Array.getElem?_eq_some_iff.1 hg).1).trans hg,r⟩
theorem Ow.below {w w':World} {B:Nat} {v:Value} {ns:List ByteArray} (h:Ow w B v ns) (hb:Below w.heap.size w w'):Ow w' B v ns:=h.same fun g _ hg=>hb.block g hg
theorem Ow.grown {w w':World} {B x:Nat} {v:Value} {ns:List ByteArray} (h:Ow w B v ns) (hg:w.grownBy w' (some x)) (hx:x<B):Ow w' B v ns:=h.same fun g h1 h2=>hg.block g h2 (fun e=>by injection e with e;omega)
theorem Ow.form {w:World} {B:Nat} {v:Value} {ns:List ByteArray} (h:Ow w B v ns):∃A c,v=.slice A ns.length c∧ns.length≤c∧c≤maxLen∧NR w B A ns:=by
 rcases h.2 with ⟨hv,h0⟩|⟨g,cap,cur,hv,hb,hg,h1,h2,h3,h4⟩
 ·have e:ns=[]:=List.eq_nil_of_length_eq_zero h0
  subst e
  exact ⟨none,0,hv,Nat.le_refl _,by unfold maxLen;omega,NR.nil _ _ _⟩
 ·refine ⟨some ⟨g,0,none⟩,cap,hv,h1,h2,fun k x hx=>⟨g,rfl,hb,(Array.getElem?_eq_some_iff.1 hg).1,?_,?_⟩⟩
  ·have hk:=(List.getElem?_eq_some_iff.1 hx).1
   have:cur[k]?=some (.string x):=by
    rw [←Array.getElem?_toList]
    have h5:(cur.toList.take (ns.length*1))[k]?=some (.string x):=by rw [h4,List.getElem?_map,hx];rfl
    rw [List.getElem?_take] at h5
    split at h5
    ·exact h5
    ·cases h5
   simp [World.cell?,hg,this]
  ·simp [World.frozen?,hg]
structure Coll (U L:BS) (f:Nf) (left:ByteArray→Bool) (ns:List ByteArray):Prop where
 nd:ns.Nodup
 mem:∀s,s∈ns↔(∃p,f s=some p∧seenV U L p≠(0,0))∧left s=false
theorem Coll.start (U L:BS) (f:Nf):Coll U L f (fun a=>(f a).isSome) []:=⟨List.nodup_nil,fun s=>⟨fun e=>(nomatch e),fun ⟨⟨p,e,_⟩,h⟩=>by rw [e] at h;cases h⟩⟩
theorem Coll.skip {U L:BS} {f:Nf} {left:ByteArray→Bool} {ns:List ByteArray} (h:Coll U L f left ns) {x:ByteArray} {p:Nd} (hx:f x=some p) (hp:seenV U L p=(0,0)):Coll U L f (fun s=>left s && !decide (s=x)) ns :=
 ⟨h.nd,fun s=>by
  rw [h.mem s]
  refine ⟨fun ⟨h1,h2⟩=>⟨h1,by rw [h2];rfl⟩,fun ⟨h1,h2⟩=>⟨h1,?_⟩⟩
  obtain ⟨q,e,hq⟩:=h1
  by_cases es:s=x
  ·subst es;rw [hx] at e;injection e with e;rw [←e] at hq;exact absurd hp hq
  ·rw [decide_eq_false es] at h2;simpa using h2⟩
theorem Coll.add {U L:BS} {f:Nf} {left:ByteArray→Bool} {ns:List ByteArray} (h:Coll U L f left ns) {x:ByteArray} {p:Nd} (hx:f x=some p) (hl:left x=true) (hp:seenV U L p≠(0,0)):Coll U L f (fun s=>left s && !decide (s=x)) (ns++[x]):=by
 have hn:x∉ns:=fun e=>by have:=((h.mem x).1 e).2;rw [hl] at this;cases this
 refine ⟨?_,fun s=>?_⟩
 ·rw [List.nodup_append]
  exact ⟨h.nd,by simp,fun a ha b hb=>by simp at hb;subst hb;exact fun e=>hn (e▸ha)⟩
 ·rw [List.mem_append,h.mem s]
  by_cases es:s=x
  ·subst es
   rw [decide_eq_true rfl]
   exact ⟨fun _=>⟨⟨p,hx,hp⟩,by simp⟩,fun _=>.inr (by simp)⟩
  ·rw [decide_eq_false es]
   simp [es]
theorem Coll.all {U L:BS} {n:Nd} {r1 r2:Nat} {left:ByteArray→Bool} {ns l:List ByteArray} (hU:Inv U r1) (hL:Inv L r2) (hl:lstV U L n=0) (h:Coll U L (pairF U L n) left ns) (h0:∀s,left s=false) (hp:l.Perm ns) (hs:l.Pairwise fun a b=>lessB b a=false):AllV U L n l:=by
 refine ⟨?_,fun s=>?_⟩
 ·have hn:l.Nodup:=hp.nodup_iff.2 h.nd
  have:=hs.and hn
  refine this.imp fun {a b} ⟨h1,h2⟩=>?_
  rw [dn.less_total h2,h1];rfl
 ·rw [hp.mem_iff,h.mem s,seen_names hU hL n s hl]
  exact ⟨fun e=>e.1,fun e=>⟨e,h0 s⟩⟩
end mg
namespace mg
open Go.Shelf Go.RowKit Go.Lib Go.Sort
open dn (lessB)
theorem heap_putRow {α:Type} [Inhabited α] (enc:α→Value) (w:World) (blk off:Nat) (d:Array α) {k:Nat} (h:k≠blk):(putRow enc w blk off d).heap[k]?=w.heap[k]?:=by
 unfold putRow mapBlock
 simp [Array.getElem?_modify,h.symm]
def SortE (w:World) (lo:Nat) (A:Option Addr) (ns:List ByteArray) (e:Ending) (w':World):Prop :=
 ∃l:List ByteArray,e=.returned (.tuple #[])∧l.Perm ns∧(l.Pairwise fun a b=>lessB b a=false)∧NR w' lo A l∧Below lo w w'
theorem pair_few {ns:List ByteArray} (h:ns.length≤1):ns.Pairwise fun a b=>lessB b a=false:=by
 match ns,h with
 | [],_=>exact List.Pairwise.nil
 | [x],_=>exact List.pairwise_singleton _ _
 | x::y::r,h=>simp at h
theorem sort_any {w:World} {lo gq c:Nat} {A:Option Addr} {ns:List ByteArray} (hN:NR w lo A ns) (hl:ns.length≤8000) (hB:w.cell? ⟨gq,0,none⟩=some (.slice A ns.length c)) (hg:gq<lo) (hlo:lo≤w.heap.size) :
  Calls Tryz.prog 79 #[.iface 43 (.slice A ns.length c),.func (.func 80) #[] #[.pointer (some ⟨gq,0,none⟩)]] w (SortE w lo A ns):=by
 by_cases h1:ns.length≤1
 ·refine (sort_few A ns.length c h1 _ w).mono ?_
  rintro e w' ⟨rfl,os,rfl⟩
  refine ⟨ns,rfl,List.Perm.refl _,pair_few h1,hN.same (by simp) (fun b _ hb=>heap_grow_old w os hb),⟨rfl,rfl,rfl,by simp,fun k hk=>heap_grow_old w os (by omega)⟩⟩
 ·have h0:ns[0]?=some ns[0]:=List.getElem?_eq_getElem (by omega)
  obtain ⟨G,hA,hG1,hG2,_,_⟩:=hN 0 _ h0
  subst hA
  have ma:ns.toArray.size=ns.length:=by simp
  have hH:Holds Value.string w G 0 ns.toArray:=fun j hj=>by
   rw [ma] at hj
   obtain ⟨G',e,_,_,h3,h4⟩:=hN j _ (List.getElem?_eq_getElem hj)
   injection e with e
   injection e with e
   subst e
   rw [Nat.zero_add]
   refine ⟨?_,h4⟩
   rw [h3,getElem!_pos _ j (by rw [ma];exact hj)]
   simp
  have hS:=sort_more G 0 c gq ns.toArray (by rw [ma];omega) (by rw [ma];omega) w (by rw [ma];exact hB) (by omega) hH hG2
  rw [ma] at hS
  refine hS.mono ?_
  rintro e w' ⟨rfl,d',n,os,hp,hso,rfl⟩
  obtain ⟨p1,_,p3⟩:=hp
  rw [ma] at p1
  have qa:Holds Value.string (grow (putRow Value.string (Sort.ahead w n) G 0 d') os) G 0 d':=holds_grow _ _ _ _ _ _ (by rw [size_putRow];exact hG2) (holds_putRow _ _ _ _ ns.toArray _ (holds_ahead _ _ _ _ _ _ hH) (by rw [ma];exact p1))
  refine ⟨d'.toList,rfl,?_,?_,?_,?_⟩
  ·have e1:d'.extract 0 ns.length=d':=by rw [←p1];simp
   have e2:ns.toArray.extract 0 ns.length=ns.toArray:=by rw [←ma];simp
   rw [e1,e2] at p3
   simpa using p3
  ·rw [List.pairwise_iff_getElem]
   intro i j hi hj hij
   have:=hso i j (Nat.zero_le _) hij (by simpa [p1] using hj)
   rw [getElem!_pos _ j (by simpa using hj),getElem!_pos _ i (by simpa using hi)] at this
   simpa using this
  ·intro k x hx
   have hk:k<d'.size:=by have:=(List.getElem?_eq_some_iff.1 hx).1;simpa using this
   obtain ⟨h3,h4⟩:=qa k hk
   rw [Nat.zero_add] at h3 h4
   refine ⟨G,rfl,hG1,by rw [size_grow,size_putRow];show G<w.heap.size+_;omega,?_,h4⟩
   rw [h3,getElem!_pos _ k hk]
   have:d'[k]=x:=by
    have h5:=(List.getElem?_eq_some_iff.1 hx).2
    simpa using h5
   rw [this]
  ·refine ⟨rfl,rfl,rfl,by rw [size_grow,size_putRow];show w.heap.size≤w.heap.size+_;omega,fun k hk=>?_⟩
   rw [heap_grow_old _ _ (by rw [size_putRow];show k<w.heap.size;omega),heap_putRow _ _ _ _ _ (by omega)]
   rfl
end mg
end Go.Proofs.YtgoddboicjfkcaaGreat
