/- Contracts and mathematics, part 20. -/
import Derived.Test.YtgoddboicjfkcaaGreatZ19
import Derived.Lib.SmallJoins
set_option linter.unusedVariables false
set_option linter.unusedSimpArgs false
set_option maxRecDepth 100000
set_option maxHeartbeats 8000000
namespace Go.Proofs.YtgoddboicjfkcaaGreat
namespace cu
open Go.RowKit
open dn (En lget lset ldel nerr dotB Sorted)
open br (BS Ino Inv at_nat upd_same upd_other abE nameE halfD)
open bl (AB)
open cb (newI MadeI)
def fileI (b:AB):Ino:=⟨1,1,0,0,0,b,[],⟨#[]⟩⟩
section
variable {S S1:BS} {r W n T:Nat} {s u:ByteArray} {b:AB} {d:Int}
theorem Mk.made (h:Mk S S1 W n s (newI 1 d ⟨#[]⟩)) (b:AB):MadeI S (setB S1 n b) W n s 1:=by
 have eN:(setB S1 n b).ino n={ S1.ino n with body:=b }:=setB_at _ _ _
 refine ⟨h.d1,h.d2,h.hD,h.hl,h.hn,h.n1,h.n2,h.hz,h.ne,fun k h1 h2=>?_,?_,?_,?_⟩
 ·rw [setB_ino _ _ _ h2,h.oth k h1 h2]
 ·rw [setB_ino _ _ _ (fun e=>h.ne e.symm),h.eD]
 ·rw [eN,h.eN];exact ⟨rfl,rfl,rfl,rfl⟩
 ·rw [eN]
  show S1.used+b.n=S.used+b.n
  rw [h.us]
  show S.used+abE.n+b.n=_
  rw [br.abE_n]
  omega
theorem undo_same (hG:br.Good S r) (h:Mk S S1 W n s (newI 1 d ⟨#[]⟩)) (b:AB):(setB S1 n b).unlink (W:Int) s=(0,S):=cb.back_file hG (h.made b) (by decide)
theorem named_of (hG:br.Good S r) (h:Mk S S1 W n s (newI 1 d ⟨#[]⟩)) (b:AB) {t:Int} (hv:S.vacant t u=0) (hne:t≠(W:Int)) :
  ∃T:Nat,t=(T:Int)∧((setB S1 n b).rename (W:Int) s t u).1=0∧Mk S ((setB S1 n b).rename (W:Int) s t u).2 T n u (fileI b):=by
 obtain ⟨T,rfl,t1,t2,tk,tl,tg,ts⟩:=br.vacant_ok hv
 have xa:T≠W:=fun e=>hne (by rw [e])
 have qa:T≠n:=fun e=>by rw [e,h.hz] at tk;cases tk
 have ja:W≠n:=fun e=>h.ne e.symm
 obtain ⟨S2,hS2⟩:∃S2,setB S1 n b=S2:=⟨_,rfl⟩
 have eN:S2.ino n=fileI b:=by rw [←hS2,setB_at,h.eN];rfl
 have eW:S2.ino W={ S.ino W with dir:=lset s (n:Int) (S.ino W).dir }:=by rw [←hS2,setB_ino _ _ _ ja,h.eD]
 have eO:∀k,k≠W→k≠n→S2.ino k=S.ino k:=fun k a c=>by rw [←hS2,setB_ino _ _ _ c,h.oth k a c]
 have eU:S2.used=S.used+b.n:=by
  rw [←hS2]
  show S1.used+b.n=S.used+b.n
  rw [h.us]
  show S.used+abE.n+b.n=_
  rw [br.abE_n];omega
 rw [hS2]
 have eT:S2.ino T=S.ino T:=eO T xa qa
 have g1:S2.dirE (W:Int) true=0:=cb.dirE_yes h.d1 h.d2 (by rw [eW];exact h.hD) (by rw [eW];exact h.hl)
 have hl:lget s (S2.ino W).dir=some (n:Int):=by rw [eW];exact br.lget_lset (hG.1.sorted W)
 have g2:S2.get (W:Int) s=((n:Int),0):=cb.get_of h.d1 h.d2 (by rw [eW];exact h.hD) hl
 have g3:S2.dirE (T:Int) true=0:=cb.dirE_yes t1 t2 (by rw [eT];exact tk) (by rw [eT];exact tl)
 have g4:nameE u=0:=cb.nameE_yes ts
 have er:S2.rename (W:Int) s (T:Int) u=(0,S2.move (W:Int) s (T:Int) u (n:Int)):=by
  unfold BS.rename
  rw [Ja (by simpa using g1),g2]
  dsimp only
  rw [Ja (by decide),Ja (by simpa using g3),Ja (by simpa using g4),at_nat,eN,Ja (fun e=>absurd (show (1:Int)=2 from e.1) (by decide)),at_nat,eT,tg]
 have hm:=br.move_moved (S:=S2) (D:=W) (T:=T) (I:=n) s u (fun e=>ja e.symm) (fun e=>qa e.symm)
 rw [er]
 generalize S2.move (W:Int) s (T:Int) u (n:Int)=S3 at *
 have hh:∀k,k≠W→halfD S2 W s k=(S2.ino k).dir:=fun k e=>Ja e
 have hW:halfD S2 W s W=(S.ino W).dir:=by
  unfold br.halfD
  rw [Jb rfl,eW]
  exact br.ldel_lset (hG.1.sorted W) h.hn
 have ext:∀ {x z:Ino},x.kind=z.kind→x.links=z.links→x.holds=z.holds→x.marks=z.marks→x.parent=z.parent→x.body=z.body→x.dir=z.dir→x.target=z.target→x=z:=by
  intro x z a1 a2 a3 a4 a5 a6 a7 a8
  cases x;cases z;simp_all
 have ma:∀k,(S3.ino k).parent=(S2.ino k).parent:=fun k=>by
  rw [hm.parent,Ja (fun e=>by have:=e.2;rw [eN] at this;exact absurd (show (1:Int)=2 from this) (by decide))]
 refine ⟨T,rfl,rfl,⟨t1,t2,tk,tl,tg,h.n1,h.n2,h.hz,fun e=>qa e.symm,fun k k1 k2=>?_,?_,?_,?_⟩⟩
 ·by_cases e:k=W
  ·subst e
   refine ext ?_ ?_ ?_ ?_ ?_ ?_ ?_ ?_
   ·rw [hm.kind,eW]
   ·rw [hm.links,eW]
   ·rw [hm.holds,eW]
   ·rw [hm.marks,eW]
   ·rw [ma,eW]
   ·rw [hm.body,eW]
   ·rw [hm.dir,Ja k1,hW]
   ·rw [hm.target,eW]
  ·have e2:=eO k e k2
   refine ext ?_ ?_ ?_ ?_ ?_ ?_ ?_ ?_
   ·rw [hm.kind,e2]
   ·rw [hm.links,e2]
   ·rw [hm.holds,e2]
   ·rw [hm.marks,e2]
   ·rw [ma,e2]
   ·rw [hm.body,e2]
   ·rw [hm.dir,Ja k1,hh k e,e2]
   ·rw [hm.target,e2]
 ·refine ext ?_ ?_ ?_ ?_ ?_ ?_ ?_ ?_
  ·rw [hm.kind,eT]
  ·rw [hm.links,eT]
  ·rw [hm.holds,eT]
  ·rw [hm.marks,eT]
  ·rw [ma,eT]
  ·rw [hm.body,eT]
  ·rw [hm.dir,Jb rfl,hh T xa,eT]
  ·rw [hm.target,eT]
 ·refine ext ?_ ?_ ?_ ?_ ?_ ?_ ?_ ?_
  ·rw [hm.kind,eN]
  ·rw [hm.links,eN]
  ·rw [hm.holds,eN]
  ·rw [hm.marks,eN]
  ·rw [ma,eN]
  ·rw [hm.body,eN]
  ·rw [hm.dir,Ja (fun e=>qa e.symm),hh n (fun e=>ja e.symm),eN]
  ·rw [hm.target,eN]
 ·rw [hm.used,eU];rfl
end
end cu
namespace cu
open Go.RowKit
open dn (En lget lset ldel nerr dotB Sorted)
open br (BS Ino Inv at_nat upd_same upd_other abE nameE badKind)
open bl (AB)
open cb (newI)
open mg (Nd opq kindV getV rootV belV)
def draft:ByteArray:=⟨#[99]⟩
structure Out (S:BS) (W:Nat):Prop where
 w1:1≤W
 w2:W≤200
 kind:(S.ino W).kind=2
 par:(S.ino W).parent=1
 ne:W≠1
section
variable {S S2 S' L:BS} {room room2 D n W:Nat} {s:ByteArray} {x:Ino}
theorem Mk.out (h:Mk S S2 D n s x) (ho:Out S W):Out S2 W:=by
 have hn:W≠n:=fun e=>by have:=ho.kind;rw [e,h.hz] at this;cases this
 have e:=h.at_kind (i:=(W:Int)) (fun e=>hn (Int.ofNat_inj.1 e))
 rw [at_nat,at_nat] at e
 exact ⟨ho.w1,ho.w2,e.1.trans ho.kind,e.2.2.2.2.2.trans ho.par,ho.ne⟩
theorem child_out (hI:Inv S room) (ho:Out S W) {d:Int} {t:ByteArray} (h1:d≠1) (hg:(S.get d t).1≠0):(S.get d t).1≠1∧(S.get d t).1≠(W:Int):=by
 have h2:(S.get d t).2=0:=Classical.byContradiction fun e=>hg ((mg.get_zero hI d t).2 e)
 obtain ⟨D,rfl,_,_,_,h5⟩:=br.get_ok h2
 obtain ⟨_,_,I,e,_,_,i3,_,_⟩:=hI.lead h5
 rw [e] at h5 ⊢
 refine ⟨fun e=>i3 (by omega),fun e2=>?_⟩
 have e3:I=W:=Int.ofNat_inj.1 e2
 subst e3
 have:=hI.up D _ ((dn.lget_some (hI.sorted D)).1 h5) (by rw [at_nat];exact ho.kind)
 rw [at_nat,ho.par] at this
 exact h1 this.symm
theorem desc_out (hL:Inv L room2):∀(p:List ByteArray) {S:BS} {d:Int} {a:Nd},br.Good S room→a.1=d→S.kindOf d=2→(S.at d).links≠0→d≠1→d≠(W:Int)→Out S W→(descF L S d a p).1.2=0 →
  ((descF L S d a p).2.at (descF L S d a p).1.1.1).links≠0∧(descF L S d a p).1.1.1≠1∧(descF L S d a p).1.1.1≠(W:Int)∧Out (descF L S d a p).2 W
 | [],S,d,a,hG,hd,hk,hl,h1,h2,ho,h=>⟨hl,h1,h2,ho⟩
 | t::p,S,d,a,hG,hd,hk,hl,h1,h2,ho,h=>by
  rw [descF_cons] at h ⊢
  by_cases h0:(enterF S L d a t).1.2=0
  case neg=>rw [Jb h0] at h;exact absurd h h0
  rw [Ja (by simpa using h0)] at h ⊢
  obtain ⟨g1,g2,g3,g4,g5,g6⟩:=enter_ok hG hd hk h0
  have hn:=kind_ne g2
  rcases g6 with ⟨a1,a2⟩|⟨a1,a2,D,n,rfl,a4,a5⟩
  ·rw [a2] at g1 g2 h ⊢
   have h9:=getV_up a1 hn
   have ma:=got_links (S:=S) (d:=a.1) (t:=t) hG.1 (by rw [h9];exact hn)
   have hc:=child_out hG.1 ho (d:=a.1) (t:=t) (by rw [hd];exact h1) (by rw [h9];exact hn)
   rw [h9] at ma hc
   exact desc_out hL p g1 rfl g2 ma hc.1 hc.2 ho h
  ·have hb:=(new_bare a5).2.2
   have qa:(n:Int)≠1:=fun e=>by
    have:n=1:=by omega
    have h3:=a5.hz
    rw [this,hG.1.root.1] at h3;cases h3
   have ja:(n:Int)≠(W:Int):=fun e=>by have h3:=a5.hz;rw [Int.ofNat_inj.1 e,ho.kind] at h3;cases h3
   exact desc_out hL p g1 rfl g2 (by rw [a4];exact hb) (by rw [a4];exact qa) (by rw [a4];exact ja) (a5.out ho) h
theorem low_seen (hG:br.Good S room) (hL:br.Good L room2) {d:Int} {a:Nd} {t:ByteArray} {y:Int} (hd:a.1=d) (hk:S.kindOf d=2) (hl:(S.at d).links≠0) (h:getV S L a t=((0,y),0)) :
  ∃Y:Nat,y=(Y:Int)∧1≤Y∧Y≤200∧(L.ino Y).kind=kindV S L (0,y)∧S.vacant d t=0:=by
 obtain ⟨g1,g2,g3⟩:=getV_low hG.1 h
 have ma:=got_kind hG.1 hL.1 h
 have qa:kindV S L (0,y)=L.kindOf y:=by
  rw [kindV_low] at ma ⊢
  split
  ·rename_i e;rw [Jb e] at ma;exact absurd rfl ma
  ·rfl
 rw [qa] at ma ⊢
 obtain ⟨Y,rfl,y1,y2,y3⟩:=kind_at ma
 rw [hd] at g1
 exact ⟨Y,rfl,y1,y2,y3.symm,vac_of hG.1 hk hl g1 (name_ok hL.1 (by rw [g2];exact g3))⟩
def UpR (r:Nat) (S L:BS) (u l wk:Int) (names:List ByteArray) (v er:Int) (S':BS):Prop :=
 (names=[]∧v=0∧er=22∧S'=S)∨∃(p:List ByteArray) (t:ByteArray) (d:Int) (a:Nd) (e1:Int) (S1:BS),names=p++[t]∧descF L S u (rootV S L u l) p=(((d,a),e1),S1) ∧
  ((e1≠0∧v=0∧er=e1∧S'=S1) ∨
   (e1=0∧(getV S1 L a t).2≠0∧v=0∧er=(getV S1 L a t).2∧S'=S1) ∨
   (e1=0∧(getV S1 L a t).2=0∧kindV S1 L (getV S1 L a t).1=2∧∃x,descF L S1 u (rootV S1 L u l) names=(((v,x),er),S')) ∨
   (e1=0∧(getV S1 L a t).2=0∧kindV S1 L (getV S1 L a t).1≠2∧(getV S1 L a t).1.1≠0∧v=(getV S1 L a t).1.1∧er=0∧S'=S1) ∨
   (∃Y:Nat,e1=0∧getV S1 L a t=((0,(Y:Int)),0)∧1≤Y∧Y≤200∧(L.ino Y).kind=3∧S1.vacant d t=0∧S1.make d t 3 (L.ino Y).target=((v,er),S')) ∨
   (∃Y:Nat,e1=0∧getV S1 L a t=((0,(Y:Int)),0)∧1≤Y∧Y≤200∧(L.ino Y).kind=1∧S1.vacant d t=0 ∧
    ((er=0∧∃D n:Nat,d=(D:Int)∧v=(n:Int)∧Mk S1 S' D n t (fileI (copyB (L.ino Y).body)))∨(er≠0∧v=0∧S'=S1∧((er=28∧r<S1.used+(copyB (L.ino Y).body).n)∨er=(S1.make wk draft 1 ⟨#[]⟩).1.2)))))
end
end cu
namespace cu
open Go.RowKit Go.Deep
open br (BS Ino Inv at_nat abE)
open cb (BrX RetW RetI No KB KD Res HB Stab NxR Same WrI Wz ReadI)
open bl (Pq Only U8 AB wr cut cutR)
open mg (Vx Nd Nv Nb R2 R3 bel_step bel_alloc kindV getV rootV set_below set2_below set3_below heap_set readN AllV statN targN)
theorem link_any {w0 w:World} {c:Cp} {S L:BS} {r T:Nat} {M:List Res} {X:Nat→Prop} (h:Zs w0 w c S L r T M X) (hT:T≤800000) {y:Nat} (h1:1≤y) (h2:y≤200) (hky:(L.ino y).kind=3) (d:Int) (s:ByteArray) (hs:s.size≤9223372036854775807) :
  Calls Tryz.prog 121 #[Pq c.C,Nv (0,(y:Int)),.int .i64 d,.string s] w (ChainE w0 w c L r (T+1) M X (S.make d s 3 (L.ino y).target).1.1 (S.make d s 3 (L.ino y).target).1.2 (S.make d s 3 (L.ino y).target).2):=by
 obtain ⟨w1,hw1⟩:∃w1,w.alloc (.cells #[.int .i64 0,.int .i64 (y:Int)] 24)=w1:=⟨_,rfl⟩
 obtain ⟨g,hg⟩:∃g,w.heap.size=g:=⟨_,rfl⟩
 have qa:Below w.heap.size w w1:=by rw [←hw1];exact bel_alloc _ _
 have Qc:=Qa (h.below qa)
 have Qi:=Qa (same_below h qa)
 have Qh:=Qa (show Nb w1 g (0,(y:Int)) by rw [←hw1,←hg];exact Nb.new w 0 y)
 have ja:targN S L (0,(y:Int))=((L.ino y).target,0):=by
  have hk:L.kindOf (y:Int)=3:=by rw [cb.kind_of h1 h2];exact hky
  have ya:kindV S L (0,(y:Int))=3:=by unfold mg.kindV;simp [hk]
  unfold mg.targN
  rw [ya,Ja (by decide),Ja (show ¬((0:Int),(y:Int)).1≠0 by simp)]
  unfold BS.targetOf
  rw [cb.isI_of h1 h2 (by rw [hky];decide),at_nat,hky]
  rfl
 have Qb:=Qa (mg.target_any Qc.out.drew.vx (0,(y:Int)))
 rw [ja] at Qb
 unfold RetW at Qb
 dsimp only at Qb
 have xa:=h.good2.1.target y
 obtain ⟨tg,htge⟩:∃t,(L.ino y).target=t:=⟨_,rfl⟩
 rw [htge] at Qb xa ⊢
 have ma:tg.size≤9223372036854775807:=by omega
 have Qd:=Qa (fun W (hb:Below w1.heap.size w1 W)=>show W.cell? ⟨c.C,1,none⟩=some (Pq c.V)∧W.cell? ⟨g,0,none⟩=some (.int .i64 0)∧W.cell? ⟨g,1,none⟩=some (.int .i64 (y:Int)) from ⟨(Qc.out.below hb).x.c1,(Qh.out.below hb).c0,(Qh.out.below hb).c1⟩)
 have Qf:=Qa (fun W (hb:Below w1.heap.size w1 W)=>(Qc.out.below hb).make hT d s 3 tg hs ma)
 have Qj:=Qa (fun b (hb:X b)=>Qc.out.lt hb)
 have k0:∀W,Below w1.heap.size w1 W→W.cell? ⟨c.C,0,none⟩=some (Pq c.P1):=fun W hb=>(Qc.out.below hb).x.c0
 have Qg:=Qa k0
 have S0:=Qd.out w1 (Below.refl _ _)
 unfold ChainE
 generalize S.make d s 3 tg=mk at *
 obtain ⟨⟨m1,m2⟩,S2⟩:=mk
 dsimp only at Qf ⊢
 clear h qa ja xa ma htge hky hs hT k0
 obtain ⟨cC,hcC⟩:∃x,x=c.C:=⟨_,rfl⟩
 rw [←hcC] at S0 Qd Qg ⊢
 clear hcC
 go_enter Tryz.func121,Tryz.ntmps121
 go_upto_region 1 with fail
 try rw [hw1]
 try rw [hg]
 clear hw1 hg
 go_region_held3 (fun W=>W.cell? ⟨cC,1,none⟩=some (Pq c.V)∧W.cell? ⟨g,0,none⟩=some (.int .i64 0)∧W.cell? ⟨g,1,none⟩=some (.int .i64 (y:Int)))
  (first|with_reducible exact S0|with_reducible exact S5|assumption|go_keep)
  (first
   | (go_at_call 26;((with_reducible refine Qb.out.mono ?_);rintro _ w5 ⟨rfl,hb5⟩;have Qe:=Qa (bel_step (Below.refl w1.heap.size w1).drew hb5);have S5:=Qd.out w5 Qe.out;clear hb5)))
 have k0:=Qg.out w5 Qe.out
 have HM:=Qa (Qf.out w5 Qe.out)
 clear S0 S5 Qb Qd Qf Qg
 go_wp2_with fail
 refine HM.out.mono ?_
 rintro _ w7 ⟨rfl,hz7,hs7⟩
 have HZ:=Qa hz7
 have HS:=Qa (same_trans Qi.out fun b hb=>(hs7 b hb).trans (Qe.out.block b (Qj.out b hb)))
 clear hz7 hs7
 go_wp2_with fail
 go_ret2
 exact ⟨rfl,HZ.out,HS.out⟩
theorem undo_no (ge gc:Nat) (u:FrameMode) (w:World) (he:w.cell? ⟨ge,0,none⟩=some (.int .i64 0)) :
  CallsD Tryz.prog 173 #[.pointer (some ⟨ge,0,none⟩),.pointer (some ⟨gc,0,none⟩)] u w fun e u' w'=>u'=u∧(e=.returned (.tuple #[])∧w'=w):=by
 go_enter_d Tryz.func173,Tryz.ntmps173
 go_wp2_with fail
 go_end0
 exact ⟨rfl,rfl⟩
theorem undo_yes {w0 w:World} {c:Cp} {S L:BS} {r T:Nat} {M:List Res} {X:Nat→Prop} (h:Zs w0 w c S L r T M X) (hT:T≤800000) (ge gc:Nat) (u:FrameMode) {er:Int} (her:er≠0) (he:w.cell? ⟨ge,0,none⟩=some (.int .i64 er)) (hc:w.cell? ⟨gc,0,none⟩=some (Pq c.C)) (hgX:X gc) :
  CallsD Tryz.prog 173 #[.pointer (some ⟨ge,0,none⟩),.pointer (some ⟨gc,0,none⟩)] u w fun e u' w'=>u'=u∧(e=.returned (.tuple #[])∧Zs w0 w' c (S.unlink c.wk draft).2 L r (T+1) M X∧Same X w w'):=by
 have HM:=Qa (h.drew.unlink hT c.wk draft)
 have Qe:=Qa (show Same X w w.drew from fun _ _=>rfl)
 have c0:=h.x.c0
 have c3:=h.x.c3
 have q0:(er != 0)=true:=by simpa using her
 unfold draft at HM ⊢
 generalize S.unlink c.wk ⟨#[99]⟩=ul at *
 obtain ⟨u1,S2⟩:=ul
 dsimp only at HM ⊢
 have S0:=And.intro hc (And.intro c0 c3)
 have Qb:=Qa (fun (W:World) (hz:Zs w0 W c S2 L r (T+1) M X) (hs:Same X w W)=>show W.cell? ⟨gc,0,none⟩=some (Pq c.C)∧W.cell? ⟨c.C,0,none⟩=some (Pq c.P1)∧W.cell? ⟨c.C,3,none⟩=some (.int .i64 c.wk) from ⟨(World.cell?_of_block (a:=⟨gc,0,none⟩) (hs gc hgX)).trans hc,hz.x.c0,hz.x.c3⟩)
 clear h hT her hc c0 c3 hgX
 obtain ⟨cC,hcC⟩:∃x,x=c.C:=⟨_,rfl⟩
 rw [←hcC] at S0 Qb
 clear hcC
 go_enter_d Tryz.func173,Tryz.ntmps173
 go_wp2_with fail
 go_region_held3 (fun W=>W.cell? ⟨gc,0,none⟩=some (Pq cC)∧W.cell? ⟨cC,0,none⟩=some (Pq c.P1)∧W.cell? ⟨cC,3,none⟩=some (.int .i64 c.wk))
  (first|with_reducible exact S0|with_reducible exact S5|assumption|go_keep)
  (first
   | (go_at_call 35;((with_reducible refine HM.out.mono ?_);rintro _ w5 ⟨rfl,hz5,hs5⟩;have Qc:=Qa hz5;have Qd:=Qa (show Same X w w5 from hs5);have S5:=Qb.out w5 hz5 hs5;clear hz5 hs5)))
 clear S0 S5
 go_wp2_with fail
 go_end0
 exact ⟨rfl,Qc.out,Qd.out⟩
end cu
namespace cu
open Go.RowKit Go.Deep
open br (BS Ino Inv at_nat abE)
open cb (BrX RetW RetI No KB KD Res HB Stab NxR Same WrI Wz ReadI newI)
open bl (Pq Only U8 AB wr cut cutR)
open mg (Vx Nd Nv Nb R2 R3 bel_step bel_alloc kindV getV rootV set_below set2_below set3_below heap_set readN AllV statN targN)
structure R1 (w:World) (g:Nat) (x:Int):Prop where
 c0:w.cell? ⟨g,0,none⟩=some (.int .i64 x)
 f0:w.frozen? ⟨g,0,none⟩=false
theorem R1.new (w:World) (x:Int) (t:TypeId):R1 (w.alloc (.cells #[.int .i64 x] t)) w.heap.size x:=⟨by simp,by simp⟩
theorem R1.lt {w:World} {g:Nat} {x:Int} (h:R1 w g x):g<w.heap.size:=World.block_lt_of_cell? _ _ h.c0
theorem R1.same {w w':World} {g:Nat} {x:Int} (h:R1 w g x) (e:w'.heap[g]?=w.heap[g]?):R1 w' g x:=⟨(World.cell?_of_block (a:=⟨g,0,none⟩) e).trans h.c0,(World.frozen?_of_block (a:=⟨g,0,none⟩) e).trans h.f0⟩
theorem R1.below {w w':World} {g:Nat} {x:Int} (h:R1 w g x) (hb:Below w.heap.size w w'):R1 w' g x:=h.same (hb.block g h.lt)
theorem R1.put {w:World} {g:Nat} {x:Int} (h:R1 w g x) (a:Int):R1 (w.setCell ⟨g,0,none⟩ (.int .i64 a)) g a:=⟨World.cell?_setCell_same _ _ _ h.c0,by simp [h.f0]⟩
theorem results_tmp_cell {fn:Func} {p q:Tmp} {ty:TypeId} (h:fn.results=#[.tmp p,.cell q ty]) (tmps:Array Value) (w:World) (b:Nat) (v:Value)
  (hp:tmps.getD q undef=.pointer (some ⟨b,0,none⟩)) (hl:(loadVar ty ⟨b,0,none⟩).run Tryz.prog w=.ok v w) :
  (results fn tmps).run Tryz.prog w=.ok (.tuple #[tmps.getD p undef,v]) w:=by
 rw [Array.getD_eq_getD_getElem?] at hp
 simp only [results,h]
 simp [Sem.run_bind,Result.andThen,hp,asAddr,hl]
theorem load39 {w:World} {g:Nat} {x:Int} (h:R1 w g x):(loadVar 39 ⟨g,0,none⟩).run Tryz.prog w=.ok (.int .i64 x) w:=by
 have hc:=h.c0
 simp [loadVar,go_sem,hc]
def CopyE (w0 w:World) (c:Cp) (S L:BS) (r T:Nat) (M:List Res) (X:Nat→Prop) (d:Int) (s:ByteArray) (B:AB) (e:Ending) (w':World):Prop :=
 ∃(v er:Int) (S':BS),e=.returned (.tuple #[.int .i64 v,.int .i64 er])∧Zs w0 w' c S' L r T M X∧Same X w w' ∧
  ((er=0∧∃D n:Nat,d=(D:Int)∧v=(n:Int)∧Mk S S' D n s (fileI (copyB B)))∨(er≠0∧v=0∧S'=S∧((er=28∧r<S.used+(copyB B).n)∨er=(S.make c.wk draft 1 ⟨#[]⟩).1.2)))
theorem copy_any {w0 w:World} {c:Cp} {S L:BS} {r T:Nat} {M:List Res} {X:Nat→Prop} (h:Zs w0 w c S L r T M X) (hT:T≤700000) {y:Nat} (h1:1≤y) (h2:y≤200) (hky:(L.ino y).kind=1) (d:Int) (s:ByteArray) (hs:s.size≤9223372036854775807)
  (hv:S.vacant d s=0) (hne:d≠c.wk) :
  Calls Tryz.prog 122 #[Pq c.C,Nv (0,(y:Int)),.int .i64 d,.string s] w (CopyE w0 w c S L r (T+4100) M X d s (L.ino y).body):=by
 obtain ⟨w1,hw1⟩:∃w1,((w.alloc (.cells #[Pq c.C] 80)).alloc (.cells #[.int .i64 0,.int .i64 (y:Int)] 24)).alloc (.cells #[.int .i64 0] 39)=w1:=⟨_,rfl⟩
 obtain ⟨g,hg⟩:∃g,w.heap.size=g:=⟨_,rfl⟩
 have xa:Below w.heap.size w w1:=by rw [←hw1];exact bel_step (bel_step (bel_alloc _ _) (bel_alloc _ _)) (bel_alloc _ _)
 have ga:w1.heap.size=g+3:=by rw [←hw1,←hg,World.size_alloc,World.size_alloc,World.size_alloc]
 obtain ⟨Y,hY⟩:∃Y:Nat→Prop,(fun b=>X b∨(g≤b∧b<g+3))=Y:=⟨_,rfl⟩
 have ma:∀b,X b→Y b:=fun b hb=>by rw [←hY];exact .inl hb
 have qa:∀b,g≤b→b<g+3→Y b:=fun b a d=>by rw [←hY];exact .inr ⟨a,d⟩
 have Qt:=Qa (h.box (Y:=Y) xa (fun b hb=>by rw [←hY] at hb;exact hb.imp id fun e=>by omega) (ma _ h.xC) (ma _ h.xV))
 have Qn:=Qa (And.intro h.xC h.xV)
 have Qf:=Qa (show ∀b,X b→b<g from fun b hb=>hg▸h.lt hb)
 have Qo:=Qa (show w0.heap.size≤g by rw [←hg];exact h.bel.size)
 have Q8:=Qa (same_below h xa)
 have Qb:=Qa (And.intro ma (And.intro (qa g (by omega) (by omega)) (And.intro (qa (g+1) (by omega) (by omega)) (qa (g+1+1) (by omega) (by omega)))))
 have Q9:=Qa (show w1.cell? ⟨g,0,none⟩=some (Pq c.C) by
  rw [←hw1,←hg]
  have e1:=(bel_alloc ((w.alloc (.cells #[Pq c.C] 80)).alloc (.cells #[.int .i64 0,.int .i64 (y:Int)] 24)) (.cells #[.int .i64 0] 39)).cell (p:=⟨w.heap.size,0,none⟩) (by rw [World.size_alloc,World.size_alloc];show w.heap.size<_;omega)
  have e2:=(bel_alloc (w.alloc (.cells #[Pq c.C] 80)) (.cells #[.int .i64 0,.int .i64 (y:Int)] 24)).cell (p:=⟨w.heap.size,0,none⟩) (by rw [World.size_alloc];show w.heap.size<_;omega)
  rw [e1,e2];simp)
 have Xa:=Qa (show Nb w1 (g+1) (0,(y:Int)) by
  rw [←hw1,←hg]
  have:=Nb.new (w.alloc (.cells #[Pq c.C] 80)) 0 (y:Int)
  rw [World.size_alloc] at this
  exact this.below (bel_alloc _ _))
 have Xb:=Qa (show R1 w1 (g+1+1) 0 by
  rw [←hw1,←hg]
  have:=R1.new ((w.alloc (.cells #[Pq c.C] 80)).alloc (.cells #[.int .i64 0,.int .i64 (y:Int)] 24)) 0 39
  rwa [World.size_alloc,World.size_alloc] at this)
 have ja:∀k,k<3→g+k≠c.C∧g+k≠c.V:=fun k _=>⟨fun e=>by have:=Qf.out _ Qn.out.1;omega,fun e=>by have:=Qf.out _ Qn.out.2;omega⟩
 have Qc:=Qa (show g+1+1≠c.C∧g+1+1≠c.V from ja 2 (by omega))
 have Qh:=Qa (Qt.out.drew.make (by omega:T≤800000) c.wk draft 1 ⟨#[]⟩ (by decide) (by decide))
 have Qi:=Qa (fun (he:(S.make c.wk draft 1 ⟨#[]⟩).1.2=0)=>mk_of h.good1 he)
 have Qj:=Qa (fun (he:(S.make c.wk draft 1 ⟨#[]⟩).1.2≠0)=>make_no he)
 have Xc:=Qa h.good1
 have Qp:=Qa (fun (W:World) (S':BS) (T':Nat) (hz:Zs w0 W c S' L r T' M Y) (hs:Same Y w1 W)=>show W.cell? ⟨g,0,none⟩=some (Pq c.C)∧W.cell? ⟨c.C,0,none⟩=some (Pq c.P1)∧W.cell? ⟨c.C,3,none⟩=some (.int .i64 c.wk) from ⟨(World.cell?_of_block (a:=⟨g,0,none⟩) (hs g Qb.out.2.1)).trans Q9.out,hz.x.c0,hz.x.c3⟩)
 have Qv:=Qa (fun (W:World) (v:Value) (hs:W.cell? ⟨g,0,none⟩=some (Pq c.C)∧W.cell? ⟨c.C,0,none⟩=some (Pq c.P1)∧W.cell? ⟨c.C,3,none⟩=some (.int .i64 c.wk))=>show (W.setCell ⟨g+1+1,0,none⟩ v).cell? ⟨g,0,none⟩=some (Pq c.C)∧(W.setCell ⟨g+1+1,0,none⟩ v).cell? ⟨c.C,0,none⟩=some (Pq c.P1)∧(W.setCell ⟨g+1+1,0,none⟩ v).cell? ⟨c.C,3,none⟩=some (.int .i64 c.wk) from
  ⟨(World.cell?_of_block (a:=⟨g,0,none⟩) (heap_set (show g≠g+1+1 by omega))).trans hs.1,(World.cell?_of_block (a:=⟨c.C,0,none⟩) (heap_set (show c.C≠g+1+1 from fun e=>(ja 2 (by omega)).1 e.symm))).trans hs.2.1,(World.cell?_of_block (a:=⟨c.C,3,none⟩) (heap_set (show c.C≠g+1+1 from fun e=>(ja 2 (by omega)).1 e.symm))).trans hs.2.2⟩)
 have HE:=Qa (show ∀(W:World) (v er:Int) (S':BS) (T':Nat),T'≤T+4100→Zs w0 W c S' L r T' M Y→Same X w W→((er=0∧∃D n:Nat,d=(D:Int)∧v=(n:Int)∧Mk S S' D n s (fileI (copyB (L.ino y).body)))∨(er≠0∧v=0∧S'=S∧((er=28∧r<S.used+(copyB (L.ino y).body).n)∨er=(S.make c.wk draft 1 ⟨#[]⟩).1.2)))→CopyE w0 w c S L r (T+4100) M X d s (L.ino y).body (.returned (.tuple #[.int .i64 v,.int .i64 er])) W from
  fun W v er S' T' hT' a b k=>⟨v,er,S',rfl,(a.sub ma Qn.out.1 Qn.out.2).up hT',b,k⟩)
 unfold draft at Qh Qi Qj HE
 obtain ⟨mk,hmk⟩:∃m,S.make c.wk ⟨#[99]⟩ 1 ⟨#[]⟩=m:=⟨_,rfl⟩
 rw [hmk] at Qh Qi Qj HE
 obtain ⟨⟨m1,m2⟩,S1⟩:=mk
 dsimp only at Qh Qi Qj HE
 have Xd:=Qa hT
 have Xm:=Qa hs
 have Xe:=Qa (And.intro hv hne)
 have Qw:=Qa (And.intro h1 (And.intro h2 hky))
 have sa:∀(fn:Fn) (first cap:Array Value) (W:World),(Instr.makeFunc fn first cap).run Tryz.prog W=.ok (.func fn first cap) W:=fun _ _ _ _=>rfl
 have S0:=Qp.out w1 S T Qt.out (fun _ _=>rfl)
 clear h xa ga hY ma qa ja hmk hT hs hv hne h1 h2 hky
 obtain ⟨cC,hcC⟩:∃x,x=c.C:=⟨_,rfl⟩
 rw [←hcC] at S0 Qp Qv hw1 ⊢
 have Qg:=Qa hcC
 clear hcC
 go_enter_defers Tryz.func122,Tryz.ntmps122
 go_upto_region 1 with fail
 try rw [hw1]
 try rw [hg]
 clear hw1 hg
 go_region_held3 (fun W=>W.cell? ⟨g,0,none⟩=some (Pq cC)∧W.cell? ⟨cC,0,none⟩=some (Pq c.P1)∧W.cell? ⟨cC,3,none⟩=some (.int .i64 c.wk))
  (first|with_reducible exact S0|with_reducible exact S5|with_reducible exact ST|assumption|go_keep)
  (first
   | (go_at_call 33;((with_reducible refine Qh.out.mono ?_);rintro _ w5 ⟨rfl,hz5,hs5⟩;have Qx:=Qa hz5;have Qk:=Qa (show Same Y w1 w5 from fun b hb=>hs5 b hb);have S5:=Qp.out w5 S1 (T+1) Qx.out Qk.out;have Qy:=Qa (Xb.out.same (Qk.out _ Qb.out.2.2.2));obtain ⟨t0,f0⟩:=Qy.out;have Qz:=Qa (Qx.out.set Qb.out.2.2.2 (by have:=Qo.out;omega) Qc.out.1 Qc.out.2 0 (.int .i64 m2));have ST:=Qv.out w5 (.int .i64 m2) S5;clear hz5 hs5)))
 have Ql:=Qa (Qy.out.put m2)
 have Xn:=Qa (show Same Y w1 (w5.setCell ⟨g+1+1,0,none⟩ (.int .i64 m2))∨True from .inr trivial)
 have Q2:=Qa (show Same X w (w5.setCell ⟨g+1+1,0,none⟩ (.int .i64 m2)) from same_trans (same_trans Q8.out fun b hb=>Qk.out b (Qb.out.1 b hb)) (same_set fun e=>by have:=Qf.out _ e;omega))
 have Q3:=Qa (show Nb (w5.setCell ⟨g+1+1,0,none⟩ (.int .i64 m2)) (g+1) (0,(y:Int)) from (Xa.out.same (Qk.out _ Qb.out.2.2.1)).same (heap_set (show g+1≠g+1+1 by omega)))
 have Xf:=Qa ST
 clear S0 S5 ST t0 f0 Xn Qy Qx Qk Q9 Qp Qt Q8 Xa Xb Qh
 generalize w5.setCell ⟨g+1+1,0,none⟩ (.int .i64 m2)=w6 at *
 obtain ⟨ge,hge⟩:∃x,g+1+1=x:=⟨_,rfl⟩
 obtain ⟨gn,hgn⟩:∃x,g+1=x:=⟨_,rfl⟩
 have Qd:=Qa (show ge=g+2∧gn=g+1 by omega)
 rw [hge] at Ql Qb Qc Qv ⊢
 rw [hgn] at Q3 Qb ⊢
 clear hge hgn
 obtain ⟨t0,f0⟩:=Ql.out
 by_cases he:m2=0
 case neg =>
  obtain ⟨rfl,rfl⟩:=Qj.out he
  have q0:(m2 != 0)=true:=by simpa using he
  have Xo:=Qa he
  clear he
  go_wp2_with fail
  go_region
  go_wp2_with fail
  refine ⟨_,results_tmp_cell rfl _ _ ge (.int .i64 m2) rfl (load39 ((Ql.out.put m2).below (Below.refl _ _).drew)),?_⟩
  exact HE.out _ 0 m2 S1 (T+1) (by omega) (Qz.out.set Qb.out.2.2.2 (by have:=Qo.out;have:=Qd.out;omega) Qc.out.1 Qc.out.2 0 (.int .i64 m2)).drew
   (same_trans (same_trans Q2.out (same_set fun e=>by have:=Qf.out _ e;have:=Qd.out;omega)) fun _ _=>rfl) (.inr ⟨Xo.out,rfl,rfl,.inr rfl⟩)
 subst he
 obtain ⟨W,n,hW,hn,hmk,-,-⟩:=Qi.out (by first|rfl|trivial)
 have ya:(S1.ino n).kind=1:=by rw [hmk.eN];rfl
 have da:(S1.ino n).body=abE:=by rw [hmk.eN];rfl
 have Qq:=Qa (fill_any Qz.out hmk.n1 hmk.n2 ya da Qw.out.1 Qw.out.2.1 Qw.out.2.2)
 unfold FillE at Qq
 have Q4:=Qa hW
 have Qe:=Qa hmk
 rw [Qg.out.symm] at Qq
 subst hn
 obtain ⟨k0,-,-⟩:=Xf.out
 obtain ⟨n0,n1⟩:=Q3.out
 dsimp only at n0 n1
 clear hW hmk ya da Qi Qj
 go_wp2_with fail
 refine Qq.out.mono ?_
 rintro _ w7 ⟨er,b,rfl,her,hz7,hs7⟩
 have Qm:=Qa hz7
 have Qr:=Qa (Ql.out.same (hs7 _ Qb.out.2.2.2))
 have Xg:=Qa (same_trans Q2.out fun b hb=>hs7 b (Qb.out.1 b hb))
 have Q5:=Qa ((World.cell?_of_block (a:=⟨g,0,none⟩) (hs7 _ Qb.out.2.1)).trans k0)
 clear hz7 hs7 Qq Ql Q2 Xf Q3 Qz t0 f0 k0 n0 n1
 rcases her with ⟨rfl,rfl⟩|⟨rfl,hbad⟩
 ·have Qs:=Qa (named_of Xc.out Qe.out (copyB (L.ino y).body) Xe.out.1 (by rw [←Q4.out];exact Xe.out.2))
  rw [←Q4.out] at Qs
  have HM:=Qa (Qm.out.drew.rename (by have:=Xd.out;omega:T+1+4098≤800000) c.wk ⟨#[99]⟩ d s Xm.out)
  have Xh:=Qa (show w7.cell? ⟨g,0,none⟩=some (Pq cC)∧w7.cell? ⟨cC,0,none⟩=some (Pq c.P1)∧w7.cell? ⟨cC,3,none⟩=some (.int .i64 c.wk) from ⟨Q5.out,by rw [Qg.out];exact Qm.out.x.c0,by rw [Qg.out];exact Qm.out.x.c3⟩)
  have Xi:=Qa (fun (W:World) (S':BS) (T':Nat) (hz:Zs w0 W c S' L r T' M Y) (hs:Same Y w7 W)=>show W.cell? ⟨g,0,none⟩=some (Pq cC)∧W.cell? ⟨cC,0,none⟩=some (Pq c.P1)∧W.cell? ⟨cC,3,none⟩=some (.int .i64 c.wk) from ⟨(World.cell?_of_block (a:=⟨g,0,none⟩) (hs g Qb.out.2.1)).trans Q5.out,by rw [Qg.out];exact hz.x.c0,by rw [Qg.out];exact hz.x.c3⟩)
  generalize (setB S1 n (copyB (L.ino y).body)).rename c.wk ⟨#[99]⟩ d s=rn at *
  obtain ⟨rc,S9⟩:=rn
  dsimp only at Qs HM
  obtain ⟨D,hD,rfl,hmk9⟩:=Qs.out
  have Xj:=Qa (And.intro hD hmk9)
  have S0:=Xh.out
  clear hD hmk9 Qs
  go_wp2_with fail
  go_region_held3 (fun W=>W.cell? ⟨g,0,none⟩=some (Pq cC)∧W.cell? ⟨cC,0,none⟩=some (Pq c.P1)∧W.cell? ⟨cC,3,none⟩=some (.int .i64 c.wk))
   (first|with_reducible exact S0|with_reducible exact S5|assumption|go_keep)
   (first
    | (go_at_call 66;((with_reducible refine HM.out.mono ?_);rintro _ w8 ⟨rfl,hz8,hs8⟩;have Xk:=Qa hz8;have Q6:=Qa (show Same Y w7 w8 from fun b hb=>hs8 b hb);have S5:=Xi.out w8 S9 _ Xk.out Q6.out;clear hz8 hs8)))
  have Q7:=Qa (Qr.out.same (Q6.out _ Qb.out.2.2.2))
  obtain ⟨t0,f0⟩:=Q7.out
  clear S0 S5 HM Qm Xi Xh
  go_wp2_with fail
  refine leaves_cons (f:=173) (args:=#[.pointer (some ⟨ge,0,none⟩),.pointer (some ⟨g,0,none⟩)]) (by simp) (by simp [go_sem]) ?_
  refine (undo_no ge g .returning _ (Q7.out.put 0).c0).mono ?_
  rintro e u' w'' ⟨rfl,rfl,rfl⟩
  refine ⟨_,results_tmp_cell rfl _ _ ge (.int .i64 0) rfl (load39 (Q7.out.put 0)),?_⟩
  exact HE.out _ n 0 S9 _ (by omega) (Xk.out.set Qb.out.2.2.2 (by have:=Qo.out;have:=Qd.out;omega) Qc.out.1 Qc.out.2 0 (.int .i64 0))
   (same_trans (same_trans Xg.out fun b hb=>Q6.out b (Qb.out.1 b hb)) (same_set fun e=>by have:=Qf.out _ e;have:=Qd.out;omega)) (.inl ⟨rfl,D,n,Xj.out.1,rfl,Xj.out.2⟩)
 ·have Xp:=Qa (show r<S.used+(copyB (L.ino y).body).n by have h1:=Qe.out.us;have h2:(newI 1 c.wk ⟨#[]⟩).body.n=0:=br.abE_n;rw [h2] at h1;omega)
  clear hbad
  have Xl:=Qa (undo_same Xc.out Qe.out b)
  rw [←Q4.out] at Xl
  obtain ⟨t0,f0⟩:=Qr.out
  go_wp2_with fail
  refine leaves_cons (f:=173) (args:=#[.pointer (some ⟨ge,0,none⟩),.pointer (some ⟨g,0,none⟩)]) (by simp) (by simp [go_sem]) ?_
  refine (undo_yes (Qm.out.set Qb.out.2.2.2 (by have:=Qo.out;have:=Qd.out;omega) Qc.out.1 Qc.out.2 0 (.int .i64 28)) (by have:=Xd.out;omega) ge g .returning (er:=28) (by decide) (Qr.out.put 28).c0 ((World.cell?_of_block (a:=⟨g,0,none⟩) (heap_set (show g≠ge by have:=Qd.out;omega))).trans (by rw [Q5.out,Qg.out])) Qb.out.2.1).mono ?_
  rintro e u' w'' ⟨rfl,rfl,hz9,hs9⟩
  rw [show (setB S1 n b).unlink c.wk draft=(0,S) from Xl.out] at hz9
  refine ⟨_,results_tmp_cell rfl _ _ ge (.int .i64 28) rfl (load39 ((Qr.out.put 28).same (hs9 _ Qb.out.2.2.2))),?_⟩
  exact HE.out _ 0 28 S _ (by omega) hz9
   (same_trans (same_trans Xg.out (same_set fun e=>by have:=Qf.out _ e;have:=Qd.out;omega)) fun b hb=>hs9 b (Qb.out.1 b hb)) (.inr ⟨by decide,rfl,rfl,.inl ⟨rfl,Xp.out⟩⟩)
theorem split_any {w:World} {b off m cap:Nat} {t:ByteArray} (hm:m≤1000) (hc:m+1≤cap) (h:w.cell? ⟨b,off+m,none⟩=some (.string t)) :
  Calls Tryz.prog 120 #[.slice (some ⟨b,off,none⟩) (m+1) cap] w (RetW w (.tuple #[.slice (some ⟨b,off,none⟩) m cap,.string t])):=by
 have h1:(0:Int)≤(m:Int):=by omega
 have h3:(m:Int)≤(cap:Int):=by omega
 obtain ⟨n,hn⟩:∃n,m+1=n:=⟨_,rfl⟩
 rw [hn]
 have h2:(m:Int)<(n:Int):=by omega
 have h4:(n:Int) - 1=(m:Int):=by omega
 have h5:(n:Int)≤1001:=by omega
 clear hn hc
 unfold RetW
 go_enter Tryz.func120,Tryz.ntmps120
 go_wp2_with fail
 have S0:w.cell? ⟨b,off+m,none⟩=some (.string t):=h
 go_region_held3 (fun W=>W.cell? ⟨b,off+m,none⟩=some (.string t))
  (first|with_reducible exact S0|assumption|go_keep) (fail)
 go_wp2_with fail
 go_ret2
 exact ⟨rfl,(Below.refl _ _).drew⟩
def UpE (w0 w:World) (c:Cp) (S L:BS) (r T:Nat) (M:List Res) (X:Nat→Prop) (names:List ByteArray) (e:Ending) (w':World):Prop :=
 ∃(v er:Int) (S':BS),e=.returned (.tuple #[.int .i64 v,.int .i64 er])∧Zs w0 w' c S' L r T M X∧Same X w w'∧UpR r S L c.u c.l c.wk names v er S'
theorem NL.last {w:World} {X:Nat→Prop} {A:Option Addr} {l:List ByteArray} (h:NL w X A l) (hl:l≠[]) :
  ∃p t b off,l=p++[t]∧A=some ⟨b,off,none⟩∧X b∧w.cell? ⟨b,off+p.length,none⟩=some (.string t)∧t.size≤9223372036854775807∧NL w X A p:=by
 rcases List.eq_nil_or_concat l with e|⟨p,t,e⟩
 ·exact absurd e hl
 ·rw [List.concat_eq_append] at e
  subst e
  obtain ⟨b,off,e,hb,hc,hs⟩:=h p.length t (by simp)
  refine ⟨p,t,b,off,rfl,e,hb,hc,hs,fun j x hx=>h j x ?_⟩
  rw [List.getElem?_append_left (List.getElem?_eq_some_iff.1 hx).1];exact hx
theorem up_any {w0 w:World} {c:Cp} {S L:BS} {r T W:Nat} {M:List Res} {X:Nat→Prop} (h:Zs w0 w c S L r T M X) {A:Option Addr} {l:List ByteArray} {cap:Nat} (hl:NL w X A l) (hn:l.length≤1000) (hcap:l.length≤cap) (hT:T≤600000)
  (hu:S.kindOf c.u=2) (hul:(S.at c.u).links≠0) (ho:Out S W) (hw:c.wk=(W:Int)) (hu1:c.u≠1) (huw:c.u≠c.wk) :
  Calls Tryz.prog 50 #[Pq c.C,.slice A l.length cap] w (UpE w0 w c S L r (T+8000) M X l):=by
 by_cases hl0:l=[]
 ·subst hl0
  have HZ:=Qa (h.up (by omega:T≤T+8000))
  go_enter Tryz.func50,Tryz.ntmps50
  go_wp2_with fail
  go_ret2
  exact ⟨0,22,S,rfl,HZ.out,fun _ _=>rfl,.inl ⟨rfl,rfl,rfl,rfl⟩⟩
 obtain ⟨p,t,b,off,rfl,rfl,hbX,hct,hts,hlp⟩:=hl.last hl0
 have Xh:=Qa hl
 have ma:(p++[t]).length=p.length+1:=by simp
 obtain ⟨m,hm⟩:∃m,p.length=m:=⟨_,rfl⟩
 rw [ma,hm] at hn hcap
 rw [ma,hm]
 rw [hm] at hct
 have Q2:=Qa (split_any (by omega:m≤1000) hcap hct)
 have Qk:=Qa (fun W (hb:Below w.heap.size w W)=>by
  have h1:=descend_any (cap:=cap) (h.below hb) (hlp.below hb) (by rw [hm];omega) (by omega:T≤700000)
  rw [hm] at h1
  exact h1)
 unfold RetW at Q2
 unfold DescE at Qk
 have Xi:=Qa (fun b (hb:X b)=>h.lt hb)
 have Xl:=Qa (mg.R2.new)
 have Qw:=Qa (fun he=>desc_out (W:=W) h.good2.1 p h.good1 (root_up (L:=L) (l:=c.l) hu) hu hul hu1 (by rw [←hw];exact huw) ho he)
 have Qx:=Qa (fun he=>desc_ok (L:=L) p h.good1 (root_up (L:=L) (l:=c.l) hu) hu he)
 have Qy:=Qa (fun he=>(desc_ok (L:=L) p h.good1 (root_up (L:=L) (l:=c.l) hu) hu he).2.2.2.1.kind ((desc_ok (L:=L) p h.good1 (root_up (L:=L) (l:=c.l) hu) hu he).2.2.1.dir _ (by rw [root_up hu];exact hu)))
 have Qi:=Qa (show ∀(d:Int) (a:Nd) (e1:Int) (S1:BS) (v er:Int) (S':BS),descF L S c.u (rootV S L c.u c.l) p=(((d,a),e1),S1)→_→UpR r S L c.u c.l c.wk (p++[t]) v er S' from
  fun d a e1 S1 v er S' e q=>.inr ⟨p,t,d,a,e1,S1,rfl,e,q⟩)
 obtain ⟨res,hres⟩:∃x,descF L S c.u (rootV S L c.u c.l) p=x:=⟨_,rfl⟩
 rw [hres] at Qk Qw Qx Qy Qi
 obtain ⟨⟨⟨d,a1,a2⟩,e1⟩,S1⟩:=res
 dsimp only at Qk Qw Qx Qy
 have HE:=Qa (show ∀(W:World) (v er:Int) (S':BS) (T':Nat),T'≤T+8000→Zs w0 W c S' L r T' M X→Same X w W→UpR r S L c.u c.l c.wk (p++[t]) v er S'→UpE w0 w c S L r (T+8000) M X (p++[t]) (.returned (.tuple #[.int .i64 v,.int .i64 er])) W from
  fun W v er S' T' hT' a b k=>⟨v,er,S',rfl,a.up hT',b,k⟩)
 obtain ⟨PQ,hPQ⟩:∃P,UpE w0 w c S L r (T+8000) M X (p++[t])=P:=⟨_,rfl⟩
 rw [hPQ] at HE ⊢
 have Qe:=Qa (And.intro hT (And.intro hn hcap))
 have Xj:=Qa hw
 have Xm:=Qa h.bel.size
 have Q3:=Qa (And.intro hm ma)
 have Qc:=Qa (And.intro h.xC h.xV)
 have rb:(((m+1:Nat):Int) == 0)=false:=by simp;omega
 have Xc:=Qa hts
 clear h hl hlp hct hPQ hres hu hul ho hw hu1 huw hl0 ma hT hcap hts hbX hm
 obtain ⟨cC,hcC⟩:∃x,x=c.C:=⟨_,rfl⟩
 rw [←hcC] at Qk ⊢
 have Ql:=Qa hcC
 clear hcC
 go_enter Tryz.func50,Tryz.ntmps50
 go_wp2_with fail
 refine Q2.out.mono ?_
 rintro _ w2 ⟨rfl,hb2⟩
 have Xd:=Qa (Qk.out w2 hb2)
 have Xe:=Qa (show Same X w w2 from fun b hb=>hb2.block b (Xi.out b hb))
 clear Qk Q2 hb2
 go_wp2_with fail
 refine Xd.out.mono ?_
 rintro _ w3 ⟨rfl,hz3,hs3⟩
 have Qj:=Qa hz3
 have Q4:=Qa (same_trans Xe.out hs3)
 clear hz3 hs3 Xd Xe
 by_cases da:e1=0
 case neg =>
  have HF:=Qa (HE.out (w3.alloc (.cells #[.int .i64 a1,.int .i64 a2] 24)) 0 e1 S1 (T+m) (by have:=Qe.out;omega) (Qj.out.below (bel_alloc _ _)) (same_trans Q4.out (same_below Qj.out (bel_alloc _ _))) (Qi.out d (a1,a2) e1 S1 0 e1 S1 rfl (.inl ⟨da,rfl,rfl,rfl⟩)))
  have q1:(e1 != 0)=true:=by simpa using da
  clear da
  go_wp2_with fail
  exact HF.out
 subst da
 obtain ⟨fa,kb,mb,jb⟩:=Qw.out (by first|rfl|trivial)
 obtain ⟨pb,ga,ja,hdch,hdu⟩:=Qx.out (by first|rfl|trivial)
 try dsimp only at ga
 have la:=Qy.out (by first|rfl|trivial)
 rw [ga] at la
 have Xk:=Qa la
 clear la Qy
 have Qq:=Qa (And.intro fa (And.intro kb (And.intro mb (And.intro jb (And.intro pb (And.intro ga (And.intro ja hdch)))))))
 clear fa kb mb jb pb ga ja hdch hdu Qw Qx
 obtain ⟨w4,hw4⟩:∃w4,w3.alloc (.cells #[.int .i64 a1,.int .i64 a2] 24)=w4:=⟨_,rfl⟩
 obtain ⟨G,hG⟩:∃G,w3.heap.size=G:=⟨_,rfl⟩
 have ba:Below w3.heap.size w3 w4:=by rw [←hw4];exact bel_alloc _ _
 obtain ⟨Y,hY⟩:∃Y:Nat→Prop,(fun b=>X b∨b=G)=Y:=⟨_,rfl⟩
 have sa:∀b,X b→Y b:=fun b hb=>by rw [←hY];exact .inl hb
 have xb:w4.heap.size=G+1:=by rw [←hw4,←hG,World.size_alloc]
 have Qm:=Qa (Qj.out.box (Y:=Y) ba (fun b hb=>by rw [←hY] at hb;exact hb.imp id fun e=>by omega) (sa _ Qc.out.1) (sa _ Qc.out.2))
 have Qr:=Qa (show R2 w4 G a1 a2 by rw [←hw4,←hG];exact R2.new w3 a1 a2)
 have Q5:=Qa (same_trans Q4.out (same_below Qj.out ba))
 have Qd:=Qa (And.intro sa (And.intro (show Y G by rw [←hY];exact .inr rfl) (And.intro (show ∀b,X b→b<G from fun b hb=>by have:=Qj.out.lt hb;omega) (show w0.heap.size≤G by have:=Qj.out.bel.size;omega))))
 have Qn:=Qa (mg.get_any Qm.out.drew.vx (a1,a2) t)
 unfold RetW at Qn
 clear Qj Q4 ba hY sa xb
 go_upto_region 7 with fail
 try rw [hw4]
 try rw [hG]
 clear hw4 hG
 obtain ⟨gv,hgv⟩:∃x,getV S1 L (a1,a2) t=x:=⟨_,rfl⟩
 rw [hgv] at Qn
 have Qh:=Qa hgv
 clear hgv
 obtain ⟨⟨y1,y2⟩,ge⟩:=gv
 dsimp only at Qn
 have Xf:=Qa (show G≠c.C∧G≠c.V from ⟨fun e=>by have:=Qd.out.2.2.1 _ Qc.out.1;omega,fun e=>by have:=Qd.out.2.2.1 _ Qc.out.2;omega⟩)
 go_cut [10] from 12 to 80 (fun va wx=>va=.int .i64 ge∧Hid (Zs w0 wx c S1 L r (T+m) M Y)∧Hid (R2 wx G y1 y2)∧Hid (Same X w wx))
 case first =>
  have S0:w4.cell? ⟨cC,1,none⟩=some (Pq c.V)∧w4.cell? ⟨G,0,none⟩=some (.int .i64 a1)∧w4.cell? ⟨G,1,none⟩=some (.int .i64 a2):=⟨by rw [Ql.out];exact Qm.out.x.c1,Qr.out.c0,Qr.out.c1⟩
  refine rj.region_E (S:=fun W=>W.cell? ⟨cC,1,none⟩=some (Pq c.V)∧W.cell? ⟨G,0,none⟩=some (.int .i64 a1)∧W.cell? ⟨G,1,none⟩=some (.int .i64 a2)) (ex:=[8,9,10,11]) (by kernel_rfl) ?_
  simp only [List.size_toArray,List.length_cons,List.length_nil,Nat.zero_add,Nat.reduceAdd]
  rw [show Array.replicate 12 false=#[false,false,false,false,false,false,false,false,false,false,false,false] from rfl]
  refine rj.take_E (i:=0) (Pq cC) rfl (by kernel_rfl) (by kernel_rfl) (by kernel_rfl) (by kernel_rfl) (by kernel_rfl) (fun _ _ _ h=>h) (Or.inl ⟨by rfl,by intro w' hSw;(try dsimp only at hSw);go_simp⟩) S0 ?_
  simp only [Act.put,List.setIfInBounds_toArray,List.set_cons_zero,List.set_cons_succ]
  refine rj.take_E (i:=1) (.pointer (some ⟨cC,0,none⟩)) rfl (by kernel_rfl) (by kernel_rfl) (by kernel_rfl) (by kernel_rfl) (by kernel_rfl) (fun _ _ _ h=>h) (Or.inl ⟨by rfl,by intro w' hSw;(try dsimp only at hSw);go_simp⟩) S0 ?_
  simp only [Act.put,List.setIfInBounds_toArray,List.set_cons_zero,List.set_cons_succ]
  refine rj.take_E (i:=2) (.pointer (some ⟨cC,1,none⟩)) rfl (by kernel_rfl) (by kernel_rfl) (by kernel_rfl) (by kernel_rfl) (by kernel_rfl) (fun _ _ _ h=>h) (Or.inl ⟨by rfl,by intro w' hSw;(try dsimp only at hSw);go_simp⟩) S0 ?_
  simp only [Act.put,List.setIfInBounds_toArray,List.set_cons_zero,List.set_cons_succ]
  refine rj.take_E (i:=3) (Pq c.V) rfl (by kernel_rfl) (by kernel_rfl) (by kernel_rfl) (by kernel_rfl) (by kernel_rfl) (fun _ _ _ h=>h) (Or.inl ⟨by rfl,by intro w' hSw;(try dsimp only at hSw);go_simp⟩) S0 ?_
  simp only [Act.put,List.setIfInBounds_toArray,List.set_cons_zero,List.set_cons_succ]
  refine rj.take_E (i:=4) (.agg #[.int .i64 a1,.int .i64 a2]) rfl (by kernel_rfl) (by kernel_rfl) (by kernel_rfl) (by kernel_rfl) (by kernel_rfl) (fun _ _ _ h=>h) (Or.inl ⟨by rfl,by intro w' hSw;(try dsimp only at hSw);go_simp⟩) S0 ?_
  simp only [Act.put,List.setIfInBounds_toArray,List.set_cons_zero,List.set_cons_succ]
  refine rj.take_E (i:=5) (.string t) rfl (by kernel_rfl) (by kernel_rfl) (by kernel_rfl) (by kernel_rfl) (by kernel_rfl) (fun _ _ _ h=>h) (Or.inl ⟨by rfl,by intro w' hSw;(try dsimp only at hSw);go_simp⟩) S0 ?_
  simp only [Act.put,List.setIfInBounds_toArray,List.set_cons_zero,List.set_cons_succ]
  refine rj.step_E (i:=6) (by kernel_rfl) rfl fun K hK=>?_
  go_simp
  go_at_call 17
  with_reducible refine Qn.out.mono ?_
  rintro _ w5 ⟨rfl,hb5⟩
  have Q6:=Qa (bel_step (Below.refl w4.heap.size w4).drew hb5)
  have Qf:=Qa (Qm.out.below Q6.out)
  have Qg:=Qa (Qr.out.below Q6.out)
  have Qs:=Qa (same_trans Q5.out fun b hb=>Q6.out.block b (Qm.out.lt (Qd.out.1 b hb)))
  have S5:w5.cell? ⟨cC,1,none⟩=some (Pq c.V)∧w5.cell? ⟨G,0,none⟩=some (.int .i64 a1)∧w5.cell? ⟨G,1,none⟩=some (.int .i64 a2):=⟨by rw [Ql.out];exact Qf.out.x.c1,Qg.out.c0,Qg.out.c1⟩
  clear hb5 Qn Qm Qr Q5 S0
  go_wp2_with fail
  refine hK.out _ _ (.inr S5) ?_
  clear hK K
  simp only [Act.put,List.setIfInBounds_toArray,List.set_cons_zero,List.set_cons_succ]
  refine rj.take_E (i:=7) (.tuple #[.agg #[.int .i64 y1,.int .i64 y2],.int .i64 ge]) rfl (by kernel_rfl) (by kernel_rfl) (by kernel_rfl) (by kernel_rfl) (by kernel_rfl) (fun _ _ _ h=>h) (Or.inl ⟨by rfl,by intro w' hSw;(try dsimp only at hSw);go_simp⟩) S5 ?_
  simp only [Act.put,List.setIfInBounds_toArray,List.set_cons_zero,List.set_cons_succ]
  have Q7:=Qa (show Zs w0 ((w5.setCell ⟨G,0,none⟩ (.int .i64 y1)).setCell ⟨G,1,none⟩ (.int .i64 y2)) c S1 L r (T+m) M Y from Qf.out.set2 Qd.out.2.1 Qd.out.2.2.2 Xf.out.1 Xf.out.2 _ _)
  have Q8:=Qa (R2.put Qg.out y1 y2)
  have Q9:=Qa (same_trans (same_trans Qs.out (same_set (g:=G) (i:=0) (a:=.int .i64 y1) fun e=>absurd (Qd.out.2.2.1 _ e) (Nat.lt_irrefl _))) (same_set (g:=G) (i:=1) (a:=.int .i64 y2) fun e=>absurd (Qd.out.2.2.1 _ e) (Nat.lt_irrefl _)))
  obtain ⟨t0,t1,f0,f1⟩:=Qg.out
  refine rj.two_E (i:=8) (j:=9) (by kernel_rfl) rfl rfl (fun K hK=>?_) (fun K hK=>?_)
  ·go_simp
   refine hK.out _ _ (.inl (by rfl)) ?_
   clear hK K
   simp only [Act.put,List.setIfInBounds_toArray,List.set_cons_zero,List.set_cons_succ]
   refine rj.two_E (i:=9) (j:=10) (by kernel_rfl) rfl rfl (fun K hK=>?_) (fun K hK=>?_)
   ·go_simp
    refine hK.out _ _ (.inl (by rfl)) ?_
    clear hK K
    simp only [Act.put,List.setIfInBounds_toArray,List.set_cons_zero,List.set_cons_succ]
    refine rj.step_E (i:=10) (by kernel_rfl) rfl fun K hK=>?_
    go_simp
    refine hK.out _ _ (.inl (by rfl)) ?_
    clear hK K
    simp only [Act.put,List.setIfInBounds_toArray,List.set_cons_zero,List.set_cons_succ]
    refine rj.step_E (i:=11) (by kernel_rfl) rfl fun K hK=>?_
    go_simp
    refine hK.out _ _ (.inl (by rfl)) ?_
    clear hK K
    simp only [Act.put,List.setIfInBounds_toArray,List.set_cons_zero,List.set_cons_succ]
    refine rj.done_E (by kernel_rfl) ?_
    go_wp2_with fail
    go_meet
    case rel=>exact ⟨rfl,Q7,Q8,Q9⟩
   ·go_simp
    refine hK.out _ _ (.inl (by rfl)) ?_
    clear hK K
    simp only [Act.put,List.setIfInBounds_toArray,List.set_cons_zero,List.set_cons_succ]
    refine rj.step_E (i:=9) (by kernel_rfl) rfl fun K hK=>?_
    go_simp
    refine hK.out _ _ (.inl (by rfl)) ?_
    clear hK K
    simp only [Act.put,List.setIfInBounds_toArray,List.set_cons_zero,List.set_cons_succ]
    refine rj.step_E (i:=11) (by kernel_rfl) rfl fun K hK=>?_
    go_simp
    refine hK.out _ _ (.inl (by rfl)) ?_
    clear hK K
    simp only [Act.put,List.setIfInBounds_toArray,List.set_cons_zero,List.set_cons_succ]
    refine rj.done_E (by kernel_rfl) ?_
    go_wp2_with fail
    go_meet
    case rel=>exact ⟨rfl,Q7,Q8,Q9⟩
  ·go_simp
   refine hK.out _ _ (.inl (by rfl)) ?_
   clear hK K
   simp only [Act.put,List.setIfInBounds_toArray,List.set_cons_zero,List.set_cons_succ]
   refine rj.step_E (i:=8) (by kernel_rfl) rfl fun K hK=>?_
   go_simp
   refine hK.out _ _ (.inl (by rfl)) ?_
   clear hK K
   simp only [Act.put,List.setIfInBounds_toArray,List.set_cons_zero,List.set_cons_succ]
   refine rj.step_E (i:=10) (by kernel_rfl) rfl fun K hK=>?_
   go_simp
   refine hK.out _ _ (.inl (by rfl)) ?_
   clear hK K
   simp only [Act.put,List.setIfInBounds_toArray,List.set_cons_zero,List.set_cons_succ]
   refine rj.step_E (i:=11) (by kernel_rfl) rfl fun K hK=>?_
   go_simp
   refine hK.out _ _ (.inl (by rfl)) ?_
   clear hK K
   simp only [Act.put,List.setIfInBounds_toArray,List.set_cons_zero,List.set_cons_succ]
   refine rj.done_E (by kernel_rfl) ?_
   go_wp2_with fail
   go_meet
   case rel=>exact ⟨rfl,Q7,Q8,Q9⟩
 case rest =>
  obtain ⟨rfl,Qf,Qg,Qs⟩:=hcut
  obtain ⟨w5,rfl⟩:∃x,x=wc:=⟨_,rfl⟩
  clear Qn Qm Qr Q5
  by_cases hge:ge=0
  case neg =>
   have HF:=Qa (HE.out w5 0 ge S1 (T+m) (by have:=Qe.out;omega) (Qf.out.sub Qd.out.1 Qc.out.1 Qc.out.2) Qs.out (Qi.out d (a1,a2) 0 S1 0 ge S1 rfl (.inr (.inl ⟨rfl,by rw [Qh.out];exact hge,rfl,by rw [Qh.out],rfl⟩))))
   have qe:(ge != 0)=true:=by simpa using hge
   clear hge
   go_wp2_with fail
   exact HF.out
  subst hge
  have HK:=Qa (mg.kind_any Qf.out.drew.vx (y1,y2))
  unfold cb.RetI at HK
  obtain ⟨kv,qa⟩:∃k,kindV S1 L (y1,y2)=k:=⟨_,rfl⟩
  rw [qa] at HK
  have Qt:=Qa qa
  clear qa
  have Xa:=Qa (fun (W:World) (hb:Below w5.heap.size w5 W)=>show W.cell? ⟨cC,1,none⟩=some (Pq c.V)∧W.cell? ⟨G,0,none⟩=some (.int .i64 y1)∧W.cell? ⟨G,1,none⟩=some (.int .i64 y2) from ⟨by rw [Ql.out];exact (Qf.out.below hb).x.c1,(Qg.out.below hb).c0,(Qg.out.below hb).c1⟩)
  have S0:=Xa.out w5 (Below.refl _ _)
  go_wp2_with fail
  go_region_held3 (fun W=>W.cell? ⟨cC,1,none⟩=some (Pq c.V)∧W.cell? ⟨G,0,none⟩=some (.int .i64 y1)∧W.cell? ⟨G,1,none⟩=some (.int .i64 y2))
   (first|with_reducible exact S0|with_reducible exact S5|assumption|go_keep)
   (first
    | (go_at_call 19;((with_reducible refine HK.out.mono ?_);rintro _ w6 ⟨rfl,hb6⟩;have Qz:=Qa (bel_step (Below.refl w5.heap.size w5).drew hb6);have S5:=Xa.out w6 Qz.out;clear hb6)))
  clear S0 S5
  have Qo:=Qa (Qf.out.below Qz.out)
  have Qv:=Qa (same_trans Qs.out fun b hb=>Qz.out.block b (Qf.out.lt (Qd.out.1 b hb)))
  obtain ⟨t0,t1,f0,f1⟩:=Qg.out.below Qz.out
  have xa:(getV S1 L (a1,a2) t).2=0:=by rw [Qh.out]
  have ya:(getV S1 L (a1,a2) t).1=(y1,y2):=by rw [Qh.out]
  have Qp:=Qa (And.intro xa ya)
  clear Qf Qg Qs HK Xa xa ya
  by_cases hk2:kv=2
  ·subst hk2
   have HC:=Qa (chain_any (cap:=cap) (Qo.out.sub Qd.out.1 Qc.out.1 Qc.out.2) (Xh.out.same Qv.out) (by have:=Qe.out;have:=Q3.out;omega) (by have:=Qe.out;omega:T+m≤700000))
   rw [Q3.out.2,Q3.out.1] at HC
   unfold ChainE at HC
   have Xb:=Qa (fun v x er S' (he:descF L S1 c.u (rootV S1 L c.u c.l) (p++[t])=(((v,x),er),S'))=>Qi.out d (a1,a2) 0 S1 v er S' rfl (.inr (.inr (.inl ⟨rfl,Qp.out.1,by rw [Qp.out.2];exact Qt.out,x,he⟩))))
   generalize descF L S1 c.u (rootV S1 L c.u c.l) (p++[t])=rs at *
   obtain ⟨⟨⟨v,x⟩,er⟩,S'⟩:=rs
   dsimp only at HC
   rw [←Ql.out] at HC
   go_wp2_with fail
   refine HC.out.mono ?_
   rintro _ w7 ⟨rfl,hz7,hs7⟩
   have HF:=Qa (HE.out w7 v er S' _ (by have:=Qe.out;omega:T+m+(m+1)≤T+8000) hz7 (same_trans Qv.out hs7) (Xb.out v x er S' rfl))
   clear hz7 hs7
   go_wp2_with fail
   exact HF.out
  have q2:(kv == 2)=false:=by simpa using hk2
  by_cases hy1:y1=0
  case neg =>
   have HF:=Qa (HE.out w6 y1 0 S1 (T+m) (by have:=Qe.out;omega) (Qo.out.sub Qd.out.1 Qc.out.1 Qc.out.2) Qv.out (Qi.out d (a1,a2) 0 S1 y1 0 S1 rfl (.inr (.inr (.inr (.inl ⟨rfl,Qp.out.1,by rw [Qp.out.2,Qt.out];exact hk2,by rw [Qp.out.2];exact hy1,by rw [Qp.out.2],rfl,rfl⟩))))))
   have qy:(y1 != 0)=true:=by simpa using hy1
   clear hk2 hy1
   go_wp2_with fail
   exact HF.out
  subst hy1
  obtain ⟨Yn,rfl,yl,yu,yk,yv⟩:=low_seen Qq.out.2.2.2.2.1 Qo.out.good2 Qq.out.2.2.2.2.2.1 Xk.out Qq.out.1 Qh.out
  rw [Qt.out] at yk
  have Qb:=Qa (And.intro yl (And.intro yu (And.intro yk yv)))
  have yb:kv=3∨kv=1:=by
   have h1:=Qo.out.good2.1.kinds Yn
   rw [yk] at h1
   have h0:=got_kind Qq.out.2.2.2.2.1.1 Qo.out.good2.1 Qh.out
   have h4:kv≠4:=fun e=>by
    have qa:=Qt.out
    rw [kindV_low] at qa
    split at qa <;> omega
   rw [Qt.out] at h0
   omega
  have Xg:=Qa (Qo.out.sub Qd.out.1 Qc.out.1 Qc.out.2)
  clear yl yu yk yv hk2
  rcases yb with rfl|rfl
  ·have HM:=Qa (link_any Xg.out (by have:=Qe.out;omega:T+m≤800000) Qb.out.1 Qb.out.2.1 Qb.out.2.2.1 d t Xc.out)
   unfold ChainE at HM
   have Xb:=Qa (fun v er S' (he:S1.make d t 3 (L.ino Yn).target=((v,er),S'))=>Qi.out d (a1,a2) 0 S1 v er S' rfl (.inr (.inr (.inr (.inr (.inl ⟨Yn,rfl,Qh.out,Qb.out.1,Qb.out.2.1,Qb.out.2.2.1,Qb.out.2.2.2,he⟩))))))
   generalize S1.make d t 3 (L.ino Yn).target=mk at *
   obtain ⟨⟨v,er⟩,S'⟩:=mk
   dsimp only at HM
   rw [←Ql.out] at HM
   go_wp2_with fail
   refine HM.out.mono ?_
   rintro _ w7 ⟨rfl,hz7,hs7⟩
   have HF:=Qa (HE.out w7 v er S' _ (by have:=Qe.out;omega:T+m+1≤T+8000) hz7 (same_trans Qv.out hs7) (Xb.out v er S' rfl))
   clear hz7 hs7
   go_wp2_with fail
   exact HF.out
  ·have HM:=Qa (copy_any Xg.out (by have:=Qe.out;omega:T+m≤700000) Qb.out.1 Qb.out.2.1 Qb.out.2.2.1 d t Xc.out Qb.out.2.2.2 (by rw [Xj.out];exact Qq.out.2.2.1))
   unfold CopyE at HM
   rw [←Ql.out] at HM
   go_wp2_with fail
   refine HM.out.mono ?_
   rintro _ w7 ⟨v,er,S',rfl,hz7,hs7,hc7⟩
   have HF:=Qa (HE.out w7 v er S' _ (by have:=Qe.out;omega:T+m+4100≤T+8000) hz7 (same_trans Qv.out hs7) (Qi.out d (a1,a2) 0 S1 v er S' rfl (.inr (.inr (.inr (.inr (.inr ⟨Yn,rfl,Qh.out,Qb.out.1,Qb.out.2.1,Qb.out.2.2.1,Qb.out.2.2.2,hc7⟩)))))))
   clear hz7 hs7 hc7
   go_wp2_with fail
   exact HF.out
end cu
namespace cu
open Go.RowKit Go.Deep
open dn (nerr dotB)
open br (BS Ino Inv at_nat abE nameE)
open cb (BrX RetW RetI No KB KD Res HB Stab NxR Same WrI Wz ReadI newI)
open bl (Pq Only U8 AB wr cut cutR)
open mg (Vx Nd Nv Nb R2 R3 bel_step bel_alloc kindV getV rootV set_below set2_below set3_below heap_set readN AllV statN targN)
def HideR (S L:BS) (u l:Int) (names:List ByteArray) (er:Int) (S':BS):Prop :=
 (names=[]∧er=22∧S'=S)∨∃(p:List ByteArray) (t:ByteArray),names=p++[t] ∧
  ((nameE t≠0∧er=22∧S'=S)∨(nameE t=0∧∃(d:Int) (a:Nd) (e1:Int) (S1:BS),descF L S u (rootV S L u l) p=(((d,a),e1),S1) ∧
   ((e1≠0∧er=e1∧S'=S1) ∨
    (e1=0∧(S1.get d t).2=0∧er=17∧S'=S1) ∨
    (e1=0∧(S1.get d t).2≠0∧(getV S1 L a t).2≠0∧er=0∧S'=S1) ∨
    (e1=0∧(S1.get d t).2≠0∧(getV S1 L a t).2=0∧er=(S1.make d t 4 ⟨#[]⟩).1.2∧S'=(S1.make d t 4 ⟨#[]⟩).2))))
def HideE (w0 w:World) (c:Cp) (S L:BS) (r T:Nat) (M:List Res) (X:Nat→Prop) (names:List ByteArray) (e:Ending) (w':World):Prop :=
 ∃(er:Int) (S':BS),e=.returned (.int .i64 er)∧Zs w0 w' c S' L r T M X∧Same X w w'∧HideR S L c.u c.l names er S'
theorem hide_any {w0 w:World} {c:Cp} {S L:BS} {r T:Nat} {M:List Res} {X:Nat→Prop} (h:Zs w0 w c S L r T M X) {A:Option Addr} {l:List ByteArray} {cap:Nat} (hl:NL w X A l) (hn:l.length≤1000) (hcap:l.length≤cap) (hT:T≤600000) :
  Calls Tryz.prog 62 #[Pq c.C,.slice A l.length cap] w (HideE w0 w c S L r (T+2000) M X l):=by
 by_cases hl0:l=[]
 ·subst hl0
  have HZ:=Qa (h.up (by omega:T≤T+2000))
  go_enter Tryz.func62,Tryz.ntmps62
  go_wp2_with fail
  go_ret
  exact ⟨22,S,rfl,HZ.out,fun _ _=>rfl,.inl ⟨rfl,rfl,rfl⟩⟩
 obtain ⟨p,t,b,off,rfl,rfl,hbX,hct,hts,hlp⟩:=hl.last hl0
 have Xh:=Qa hl
 have ma:(p++[t]).length=p.length+1:=by simp
 obtain ⟨m,hm⟩:∃m,p.length=m:=⟨_,rfl⟩
 rw [ma,hm] at hn hcap
 rw [ma,hm]
 rw [hm] at hct
 have Qo:=Qa (split_any (by omega:m≤1000) hcap hct)
 have Qp:=Qa (fun W=>dn.name_any t W hts)
 unfold dn.NameE at Qp
 have Qe:=Qa (fun W (hb:Below w.heap.size w W)=>by
  have h1:=descend_any (cap:=cap) (h.below hb) (hlp.below hb) (by rw [hm];omega) (by omega:T≤700000)
  rw [hm] at h1
  exact h1)
 unfold RetW at Qo
 unfold DescE at Qe
 have HH:=Qa h
 have Xi:=Qa (fun b (hb:X b)=>h.lt hb)
 obtain ⟨res,hres⟩:∃x,descF L S c.u (rootV S L c.u c.l) p=x:=⟨_,rfl⟩
 rw [hres] at Qe
 obtain ⟨⟨⟨d,a1,a2⟩,e1⟩,S1⟩:=res
 dsimp only at Qe
 have Qc:=Qa (show nameE t=0→∀(er:Int) (S':BS),_→HideR S L c.u c.l (p++[t]) er S' from
  fun hk er S' q=>.inr ⟨p,t,rfl,.inr ⟨hk,d,(a1,a2),e1,S1,hres,q⟩⟩)
 have Qz:=Qa (show nameE t≠0→HideR S L c.u c.l (p++[t]) 22 S from fun hk=>.inr ⟨p,t,rfl,.inl ⟨hk,rfl,rfl⟩⟩)
 have HE:=Qa (show ∀(W:World) (er:Int) (S':BS) (T':Nat),T'≤T+2000→Zs w0 W c S' L r T' M X→Same X w W→HideR S L c.u c.l (p++[t]) er S'→HideE w0 w c S L r (T+2000) M X (p++[t]) (.returned (.int .i64 er)) W from
  fun W er S' T' hT' a b k=>⟨er,S',rfl,a.up hT',b,k⟩)
 obtain ⟨PQ,hPQ⟩:∃P,HideE w0 w c S L r (T+2000) M X (p++[t])=P:=⟨_,rfl⟩
 rw [hPQ] at HE ⊢
 have Qg:=Qa (And.intro hT (And.intro hn hcap))
 have Xj:=Qa (And.intro hm ma)
 have sa:(((m+1:Nat):Int) == 0)=false:=by simp;omega
 have Xb:=Qa hts
 have Ql:Hid (nameE t=if nerr t.data.toList=0∧dotB t=true then 22 else nerr t.data.toList):=Qa rfl
 clear h hl hlp hct hPQ hres hl0 ma hT hcap hts hbX hm
 obtain ⟨cC,hcC⟩:∃x,x=c.C:=⟨_,rfl⟩
 rw [←hcC] at Qe ⊢
 have Q2:=Qa hcC
 clear hcC
 go_enter Tryz.func62,Tryz.ntmps62
 go_wp2_with fail
 refine Qo.out.mono ?_
 rintro _ w2 ⟨rfl,hb2⟩
 have Q3:=Qa hb2
 clear hb2 Qo
 go_wp2_with fail
 refine (Qp.out w2).mono ?_
 rintro _ w3 ⟨rfl,hb3⟩
 have Qh:=Qa (bel_step Q3.out hb3)
 clear hb3 Qp Q3
 obtain ⟨q1,h1⟩:∃a,(t.toList == [46])=a:=⟨_,rfl⟩
 obtain ⟨q2,h2⟩:∃a,(t.toList == [46,46])=a:=⟨_,rfl⟩
 have Qq:=Qa (show dotB t=(q1 || q2) by unfold dotB;rw [h1,h2])
 obtain ⟨nr,hnr⟩:∃x,nerr t.data.toList=x:=⟨_,rfl⟩
 rw [hnr] at Ql ⊢
 clear hnr
 by_cases hbad:nr≠0∨q1=true∨q2=true
 ·have qa:nameE t≠0:=by
   rw [Ql.out,Qq.out]
   by_cases h0:nr=0
   ·rw [Jb ⟨h0,by cases q1 <;> cases q2 <;> simp_all⟩];decide
   ·rw [Ja (fun e=>h0 e.1)];exact h0
  have HF:=Qa (fun (k:Nat)=>HE.out (w3.drewN k) 22 S T (by omega) ((HH.out.below Qh.out).below (mg.bel_drewN w3 k)) ((same_below HH.out (bel_step Qh.out (mg.bel_drewN w3 k)))) (Qz.out qa))
  have Qr:=Qa (HF.out 0)
  clear qa
  by_cases h0:nr=0
  ·subst h0
   cases q1 with
   | true =>
    clear hbad
    go_wp2_with fail
    exact Qr.out
   | false =>
    have:q2=true:=by simpa using hbad
    subst this
    clear hbad
    go_wp2_with fail
    exact Qr.out
  ·have hq:(nr != 0)=true:=by simpa using h0
   clear hbad h0
   go_wp2_with fail
   exact Qr.out
 have h0:nr=0:=Classical.byContradiction fun e=>hbad (.inl e)
 have ya:q1=false:=by simpa using fun e=>hbad (.inr (.inl e))
 have da:q2=false:=by simpa using fun e=>hbad (.inr (.inr e))
 subst h0 ya da
 have Qm:=Qa (show nameE t=0 by rw [Ql.out,Qq.out];simp)
 clear hbad Ql Qq Qz
 go_wp2_with fail
 refine (Qe.out w3 Qh.out).mono ?_
 rintro _ w4 ⟨rfl,hz4,hs4⟩
 have Qi:=Qa hz4
 have Qs:=Qa (same_trans (same_below HH.out Qh.out) hs4)
 clear hz4 hs4 Qe Qh HH h1 h2
 by_cases ja:e1=0
 case neg =>
  have HF:=Qa (HE.out (w4.alloc (.cells #[.int .i64 a1,.int .i64 a2] 24)) e1 S1 (T+m) (by have:=Qg.out;omega) (Qi.out.below (bel_alloc _ _)) (same_trans Qs.out (same_below Qi.out (bel_alloc _ _))) (Qc.out Qm.out e1 S1 (.inl ⟨ja,rfl,rfl⟩)))
  have qe:(e1 != 0)=true:=by simpa using ja
  clear ja
  go_wp2_with fail
  exact HF.out
 subst ja
 obtain ⟨w5,hw5⟩:∃w5,w4.alloc (.cells #[.int .i64 a1,.int .i64 a2] 24)=w5:=⟨_,rfl⟩
 obtain ⟨G,hG⟩:∃G,w4.heap.size=G:=⟨_,rfl⟩
 have xa:Below w4.heap.size w4 w5:=by rw [←hw5];exact bel_alloc _ _
 have Qj:=Qa (Qi.out.below xa)
 have Q4:=Qa (show R2 w5 G a1 a2 by rw [←hw5,←hG];exact R2.new w4 a1 a2)
 have Q5:=Qa (same_trans Qs.out (same_below Qi.out xa))
 have Qt:=Qa (cb.x_get Qj.out.brx1 d t)
 unfold RetW at Qt
 have k0:w5.cell? ⟨cC,0,none⟩=some (Pq c.P1):=by rw [Q2.out];exact Qj.out.x.c0
 clear xa Qi Qs
 go_upto_region 9 with fail
 try rw [hw5]
 try rw [hG]
 clear hw5 hG
 go_wp2_with fail
 refine Qt.out.mono ?_
 rintro _ w6 ⟨rfl,hb6⟩
 have Qd:=Qa (Qj.out.below hb6)
 have Qn:=Qa (Q4.out.below hb6)
 have Qv:=Qa (same_trans Q5.out (same_below Qj.out hb6))
 clear hb6 Qj Q4 Q5 Qt k0
 obtain ⟨gu,hgu⟩:∃x,S1.get d t=x:=⟨_,rfl⟩
 rw [hgu] at Qc ⊢
 clear hgu
 obtain ⟨g1,g2⟩:=gu
 dsimp only at Qc ⊢
 by_cases hg2:g2=0
 ·subst hg2
  have HF:=Qa (HE.out w6 17 S1 (T+m) (by have:=Qg.out;omega) Qd.out Qv.out (Qc.out Qm.out 17 S1 (by refine .inr (.inl ?_);simp)))
  go_wp2_with fail
  exact HF.out
 have qg:(g2 == 0)=false:=by simpa using hg2
 have Q6:=Qa hg2
 clear hg2
 have Xk:=Qa (And.intro Qd.out.xC Qd.out.xV)
 have Qf:=Qa (fun W (hb:Below w6.heap.size w6 W)=>show Rd W c G a1 a2 from ⟨(Qd.out.below hb).x.c1,(Qn.out.below hb).c0,(Qn.out.below hb).c1⟩)
 have Qb:=Qa (fun W (hb:Below w6.heap.size w6 W)=>mg.get_any (Qd.out.below hb).vx (a1,a2) t)
 unfold RetW at Qb
 obtain ⟨gv,hgv⟩:∃r,getV S1 L (a1,a2) t=r:=⟨_,rfl⟩
 rw [hgv] at Qb Qc
 clear hgv
 obtain ⟨⟨x1,x2⟩,ge⟩:=gv
 dsimp only at Qb Qc
 have ga:=Q2.out
 subst ga
 go_upto_region 12 with fail
 go_cut [12,13] from 14 to 77 (fun va vb wx=>∃G2,va=.pointer (some ⟨G2,0,none⟩)∧vb=.int .i64 ge∧Hid (Below w6.heap.size w6 wx))
 case first =>
  have S0:=Qf.out w6 (Below.refl _ _)
  have Q7:=Qa (bel_alloc w6 (.cells #[.int .i64 0,.int .i64 0] 24))
  have Q8:=Qa (bel_step Q7.out (Below.refl _ (w6.alloc (.cells #[.int .i64 0,.int .i64 0] 24))).drew)
  have SA:=Qf.out _ Q7.out
  have Xc:=Qa (Qb.out w6.drew (Below.refl w6.heap.size w6).drew)
  have Xd:=Qa (Qb.out (w6.alloc (.cells #[.int .i64 0,.int .i64 0] 24)).drew Q8.out)
  have Xe:=Qa (show R2 (w6.alloc (.cells #[.int .i64 0,.int .i64 0] 24)).drew w6.heap.size 0 0 from (R2.new w6 0 0).below (Below.refl _ _).drew)
  clear Qd Qn Qb
  go_region_held3 (fun W=>W.cell? ⟨c.C,1,none⟩=some (Pq c.V)∧W.cell? ⟨G,0,none⟩=some (.int .i64 a1)∧W.cell? ⟨G,1,none⟩=some (.int .i64 a2))
   (first|with_reducible exact S0|with_reducible exact S5|with_reducible exact SA|with_reducible exact ST|assumption|go_keep)
   (first
    | (go_at_call 17;((with_reducible refine Xc.out.mono ?_);rintro _ w7 ⟨rfl,hb7⟩;have Qk:=Qa (bel_step (Below.refl w6.heap.size w6).drew hb7);have S5:=Qf.out w7 Qk.out;have Xf:=Qa (show Below w6.heap.size w6 (w7.alloc (.cells #[.int .i64 x1,.int .i64 x2] 24)) from bel_step Qk.out (bel_alloc _ _));clear hb7))
    | (go_at_call 17;((with_reducible refine Xd.out.mono ?_);rintro _ w7 ⟨rfl,hb7⟩;have Qk:=Qa (bel_step Q8.out hb7);have S5:=Qf.out w7 Qk.out;have Xg:=Qa (Xe.out.below hb7);obtain ⟨z0,z1,f0,f1⟩:=Xg.out;have Q9:=Qa (show Below w6.heap.size w6 ((w7.setCell ⟨w6.heap.size,0,none⟩ (.int .i64 x1)).setCell ⟨w6.heap.size,1,none⟩ (.int .i64 x2)) from set2_below Qk.out (Nat.le_refl _) _ _);have ST:=Qf.out _ Q9.out;clear hb7)))
  all_goals
   go_wp2_with fail
   go_meet
   case rel=>first|exact ⟨_,rfl,rfl,Q9⟩|exact ⟨_,rfl,rfl,Xf⟩
 case rest =>
  obtain ⟨G2,rfl,rfl,Qw⟩:=hcut
  obtain ⟨wx,rfl⟩:∃x,x=wc:=⟨_,rfl⟩
  have Qx:=Qa (Qd.out.below Qw.out)
  have Xa:=Qa (same_trans Qv.out (same_below Qd.out Qw.out))
  clear Qb Qf Qd Qn Qv Qw
  by_cases hge:ge=0
  case neg =>
   have HF:=Qa (HE.out wx 0 S1 (T+m) (by have:=Qg.out;omega) Qx.out Xa.out (Qc.out Qm.out 0 S1 (by refine .inr (.inr (.inl ?_));have:=Q6.out;simp [this,hge])))
   have qe:(ge != 0)=true:=by simpa using hge
   clear hge
   go_wp2_with fail
   exact HF.out
  subst hge
  have Qy:=Qa (Qx.out.make (by have:=Qg.out;omega) d t 4 ⟨#[]⟩ Xb.out (by decide))
  obtain ⟨mk,hmk⟩:∃z,S1.make d t 4 ⟨#[]⟩=z:=⟨_,rfl⟩
  rw [hmk] at Qy Qc
  clear hmk
  obtain ⟨⟨n1,n2⟩,S2⟩:=mk
  dsimp only at Qy Qc
  have k0:wx.cell? ⟨c.C,0,none⟩=some (Pq c.P1):=Qx.out.x.c0
  go_wp2_with fail
  refine Qy.out.mono ?_
  rintro _ w8 ⟨rfl,hz8,hs8⟩
  have HF:=Qa (HE.out w8 n2 S2 (T+m+1) (by have:=Qg.out;omega) hz8 (same_trans Xa.out hs8) (Qc.out Qm.out n2 S2 (by refine .inr (.inr (.inr ?_));have:=Q6.out;simp [this])))
  clear hz8 hs8 k0
  go_wp2_with fail
  exact HF.out
end cu
namespace cb
open Go.ChangeShapes Go.WideShapes Go.ChangeAt Go.RowKit
section
open Go.Deep
variable {H:Type} {enc:TypeId×Value→H} {P:Program} {w:World} {base:Nat} {spare:Nat→Bool} {held:Bool}
theorem open_slice_fields {t e:TypeId} {fs:Array Field} {fuel:Nat} {cs:List Value} {x:DataW H×List MemPlace} (ht:P.underlying t=some (.slice e)) (he:P.underlying e=some (.struct fs))
  (hone:oneCellFields P fs=true) (hC:P.cellsOf e=fs.size) (h:DataW.trod enc P w base spare held fuel t cs=some x) :
  (cs=[.slice none 0 0]) ∨
  ∃(a:Addr) (len cap m:Nat),cs=[.slice (some a) len cap]∧len≤cap∧cap≤maxLen∧len≤m ∧
   ∀i,i<m→∃(n:Nat),∀(j:Nat) (f:Field),fs[j]?=some f→∃(v:Value) (y:DataW H×List MemPlace),w.cell? (a.add (i*fs.size+j))=some v∧DataW.trod enc P w base spare held n f.type [v]=some y:=by
 rcases open_slice ht h with h0|⟨a,len,cap,m,n,D,Pl,hcs,hb,hl,hm,hmm,hx,hi⟩
 ·exact .inl h0.1
 ·refine .inr ⟨a,len,cap,m,hcs,hl,hm,by rw [hmm];split <;> omega,fun i him=>?_⟩
  obtain ⟨cs',hc,ht'⟩:=hi i him
  rw [hC] at hc
  obtain ⟨ys,n',hn',hy,hlen,hyl,hf⟩:=DataW.trod_struct he ht'
  obtain ⟨_,hcl,hat⟩:=World.cells?_some hc
  refine ⟨n',fun j f hj=>?_⟩
  obtain ⟨ho,hk⟩:=hone_of hone j f hj
  have ja:j<fs.size:=(Array.getElem?_eq_some_iff.1 hj).1
  have ma:=hat j ja
  have hv:cs'[j]?=some (cs'[j]'(by omega)):=List.getElem?_eq_getElem (by omega)
  have h1:=hf j f hj
  rw [ho,hk] at h1
  have qa:(cs'.drop j).take 1=[cs'[j]'(by omega)]:=by
   rw [List.drop_eq_getElem_cons (by omega)]
   rfl
  rw [qa] at h1
  have xa:ys[j]?=some (ys[j]'(by omega)):=List.getElem?_eq_getElem (by omega)
  refine ⟨_,_,?_,h1.trans xa⟩
  rw [←Go.Deep.add_add,ma,hv]
end
structure Act7 where
 low:Bool
 kind:Int
 d:Int
 t:Int
 n:Int
 a:ByteArray
 b:ByteArray
instance:Inhabited Act7:=⟨⟨false,0,0,0,0,⟨#[]⟩,⟨#[]⟩⟩⟩
theorem spot_none {w:World} {a:Addr} {v:Value} (h:w.cell? (a.add 0)=some v):∃b off,a=⟨b,off,none⟩∧b<w.heap.size:=by
 obtain ⟨b,off,spot⟩:=a
 have hs:spot=none:=by simpa [Addr.add] using World.cell?_spot h
 subst hs
 exact ⟨b,off,rfl,World.block_lt_of_cell? w _ h⟩
theorem law_post {H:Type} {enc:TypeId×Value→H} {P:Program} {f:Func} {s:ChangeSpec} {apart fresh handsOn:Bool} {W W':World} {args:Array Value} {v:Value} {ds gs:List (DataW H)} {before pa pv:List MemPlace}
  (hW:DataW.Whole enc P f.params.toList s.vars apart W args.toList ds gs before)
  (hres:∀(b:Nat) (sp:Nat→Bool) (hd:Bool),DataW.TrodAll enc P W' b sp hd f.resultTypes.toList (v.resultList f.resultTypes.size) (s.fn H (ds++gs)).results [])
  (hargs:∀sp:Nat→Bool,(∀p∈before,sp p.block=true)→DataW.TrodAll enc P W' 0 sp true f.params.toList args.toList (s.fn H (ds++gs)).args pa)
  (hvars:∀sp:Nat→Bool,(∀p∈before,sp p.block=true)→DataW.TrodVars enc P W' sp s.vars (s.fn H (ds++gs)).vars pv)
  (hps:before=pa++pv) (hb:Below W.heap.size W W')
  (_hok:∀(j:Nat) (t:TypeId) (r:Value),f.resultTypes[j]?=some t→(v.resultList f.resultTypes.size)[j]?=some r→Value.okWide P W' .any 0 t r) :
  s.post enc P f apart fresh handsOn false W args v W':=by
 have hlt:∀p∈before,p.block<W.heap.size:=fun p hp=>hW.lt p hp
 have ma:∀p∈before,(fun b=>decide (b<W.heap.size)) p.block=true:=fun p hp=>by simpa using hlt p hp
 refine ⟨ds,gs,before,[],pa,pv,hW,hres _ _ _,hargs _ ma,hvars _ ma,World.keptBut_mono (fun p hp=>⟨hp,?_⟩) (hb.frame (·∈before)),fun h=>by cases h⟩
 rw [hps,List.mem_append] at hp
 exact Or.inr hp
end cb
end Go.Proofs.YtgoddboicjfkcaaGreat
