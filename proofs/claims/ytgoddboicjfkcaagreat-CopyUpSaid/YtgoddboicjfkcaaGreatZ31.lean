/- Contracts and mathematics, part 31. -/
import Derived.Test.YtgoddboicjfkcaaGreatZ30
set_option linter.unusedVariables false
set_option linter.unusedSimpArgs false
set_option maxRecDepth 100000
set_option maxHeartbeats 8000000
namespace Go.Proofs.YtgoddboicjfkcaaGreat
namespace cu
open Go.RowKit Go.Deep
open br (BS Ino Inv at_nat abE nameE fresh)
open cb (BrX RetW RetI No KB KD Res HB Stab NxR Same WrI Wz ReadI newI readI)
open bl (Pq Only U8 AB cnt Row strF)
open mg (Vx Nd Nv Nb R2 R3 bel_step bel_alloc kindV getV rootV AwakeE statN set3_below readN ReadN targN)
open fl (Ln LR treeF)
section
variable {S S' L B:BS} {r r2:Nat} {w w' W:World}
theorem row_keep {lo n c:Nat} {A:Option Addr} {f:Nat→UInt8} (h:Row w lo A n c f) (hs:∀b,lo≤b→b<w.heap.size→W.heap[b]?=w.heap[b]?):Row W lo A n c f:=by
 refine ⟨h.1,h.2.imp id fun ⟨g,a,b,hg⟩=>⟨g,a,b,(hs g a ?_).trans hg⟩⟩
 exact (Array.getElem?_eq_some_iff.1 hg).1
def RowIn (P:Nat→Prop) (w:World) (A:Option Addr) (n c:Nat) (f:Nat→UInt8):Prop:=n=c∧((A=none∧n=0)∨∃g,P g∧A=some ⟨g,0,none⟩∧w.heap[g]?=some (.cells (bl.rowF n f).toArray 5 (0,0)))
theorem row_in {lo n c:Nat} {A:Option Addr} {f:Nat→UInt8} {P:Nat→Prop} (h:Row w lo A n c f) (hp:∀b,lo≤b→b<w.heap.size→P b):RowIn P w A n c f :=
 ⟨h.1,h.2.imp id fun ⟨g,a,b,hg⟩=>⟨g,hp g a (Array.getElem?_eq_some_iff.1 hg).1,b,hg⟩⟩
theorem RowIn.same {n c:Nat} {A:Option Addr} {f:Nat→UInt8} {P:Nat→Prop} (h:RowIn P w A n c f) (hs:Same P w W):RowIn P W A n c f :=
 ⟨h.1,h.2.imp id fun ⟨g,a,b,hg⟩=>⟨g,a,b,(hs g a).trans hg⟩⟩
theorem RowIn.sub {n c:Nat} {A:Option Addr} {f:Nat→UInt8} {P Q:Nat→Prop} (h:RowIn P w A n c f) (hs:∀b,P b→Q b):RowIn Q w A n c f :=
 ⟨h.1,h.2.imp id fun ⟨g,a,b,hg⟩=>⟨g,hs g a,b,hg⟩⟩
theorem RowIn.below {n c:Nat} {A:Option Addr} {f:Nat→UInt8} {P:Nat→Prop} (h:RowIn P w A n c f) (hb:Below w.heap.size w W):RowIn P W A n c f :=
 ⟨h.1,h.2.imp id fun ⟨g,a,b,hg⟩=>⟨g,a,b,(hb.block g (Array.getElem?_eq_some_iff.1 hg).1).trans hg⟩⟩
theorem RowIn.conv {n c:Nat} {A:Option Addr} {f:Nat→UInt8} {P:Nat→Prop} (h:RowIn P w A n c f):(convert 53 9 (.slice A n c)).run Tryz.prog w=.ok (.string (strF n f)) w :=
 bl.Row.conv (lo:=0) ⟨h.1,h.2.imp id fun ⟨g,_,b,hg⟩=>⟨g,Nat.zero_le _,b,hg⟩⟩
def StQ (S L:BS) (n:Nd) (sk ss:Int):Prop:=kindV S L n≠0→sk=kindV S L n∧(kindV S L n≠2→ss=(((readN S L n).1.at (readN S L n).2).sizeOf:Int))
theorem kindV_read (n:Nd) (h:kindV S L n≠0):(readN S L n).1.kindOf (readN S L n).2=kindV S L n:=by
 unfold mg.kindV at h ⊢
 unfold mg.readN
 by_cases e:n.1≠0
 ·simp only [Jb e] at h ⊢
  split at h
  ·exact absurd rfl h
  ·rename_i e2;rw [Ja e2]
 ·simp only [Ja e] at h ⊢
  split at h
  ·exact absurd rfl h
  ·rename_i e2;rw [Ja e2]
theorem stat_y {w0:World} {c:Cp} {T:Nat} {M:List Res} {X:Nat→Prop} (h:Zs w0 w c S L r T M X) (n:Nd) :
  Calls Tryz.prog 23 #[Pq c.V,Nv n] w (fun e w'=>∃sk ss sl se:Int,StQ S L n sk ss∧e=.returned (.tuple #[.agg #[.int .i64 sk,.int .i64 ss,.int .i64 sl],.int .i64 se])∧Below w.heap.size w w'):=by
 refine (mg.stat_any h.vx h.good1.1 h.good2.1 n).mono ?_
 rintro e w' ⟨l,_,rfl,hb⟩
 refine ⟨_,_,_,_,fun h0=>?_,rfl,hb⟩
 have hk:=kindV_read n h0
 have ma:(if n.1≠0 then S.stat n.1 else L.stat n.2)=(readN S L n).1.stat (readN S L n).2:=by
  unfold mg.readN;split <;> rfl
 have hi:=(kindOf_at (by rw [hk];exact h0)).2
 unfold mg.statN
 rw [Ja h0,ma]
 dsimp only
 refine ⟨by rw [stat_kind,hk],fun h2=>?_⟩
 rw [Ja h2]
 unfold BS.stat
 rw [Jb hi]
def RdQ (w:World) (S L:BS) (n:Nd) (e:Ending) (w':World):Prop:=∃(A:Option Addr) (m c:Nat) (er:Int) (f:Nat→UInt8),(kindV S L n≠0→m=(readI (readN S L n).1 (readN S L n).2 0 65536).2∧f=fun j=>((readN S L n).1.at (readN S L n).2).body.dat ((0:Int).toNat+j)) ∧
 e=.returned (.tuple #[.slice A m c,.int .i64 er])∧Row w' w.heap.size A m c f∧Below w.heap.size w w'
theorem read_q {e:Ending} {n:Nd} (h:ReadN w S L n 0 65536 e w'):RdQ w S L n e w':=by
 rcases h with ⟨h0,h1,h2⟩|⟨h0,A,c,h1,h2,h3⟩
 ·exact ⟨none,0,0,2,fun _=>0,fun h=>absurd h0 h,h1,⟨rfl,.inl ⟨rfl,rfl⟩⟩,h2⟩
 ·exact ⟨A,_,c,_,_,fun _=>⟨rfl,rfl⟩,h1,h2,h3⟩
theorem Cop.kind {n:Nd} {v:Int} (h:Cop S L n S' v):S'.kindOf v=(readN S L n).1.kindOf (readN S L n).2:=(kindOf_at h.k1).1.trans (h.like.1.trans (kindOf_at h.b).1.symm)
theorem Cop.kindV {n:Nd} {v:Int} (h:Cop S L n S' v) (h0:kindV S L n≠0):S'.kindOf v=kindV S L n:=h.kind.trans (kindV_read n h0)
theorem Cop.read {n:Nd} {v:Int} (h:Cop S L n S' v) (off m:Int):readI S' v off m=readI (readN S L n).1 (readN S L n).2 off m:=by
 have hf:S'.fileE v=(readN S L n).1.fileE (readN S L n).2:=by unfold BS.fileE;rw [h.kind]
 unfold cb.readI
 rw [hf]
 unfold bl.readR
 rw [h.like.2.1]
theorem Cop.targ {n:Nd} {v:Int} (h:Cop S L n S' v) (h0:mg.kindV S L n≠0):S'.targetOf v=targN S L n:=by
 have e:targN S L n=(readN S L n).1.targetOf (readN S L n).2:=by
  unfold mg.targN
  rw [Ja h0]
  unfold mg.readN;split <;> rfl
 rw [e]
 unfold BS.targetOf
 rw [(kindOf_at h.k1).2,(kindOf_at h.b).2,h.like.1,h.like.2.2.2]
theorem Cop.size {n:Nd} {v:Int} (h:Cop S L n S' v) (h2:S'.kindOf v≠2):(S'.at v).sizeOf=((readN S L n).1.at (readN S L n).2).sizeOf:=by
 have e:=(kindOf_at h.k1).1
 rw [e] at h2
 unfold br.Ino.sizeOf
 rw [←h.like.1,←h.like.2.1,←h.like.2.2.2]
 simp only [Ja h2]
theorem Cop.stat {n:Nd} {v:Int} (h:Cop S L n S' v):S'.stat v=((S'.kindOf v,(S'.at v).sizeOf,1),0):=by
 have e:=kindOf_at h.k1
 unfold BS.stat
 rw [Jb e.2,h.one,←e.1]
theorem walk_kind {names:List ByteArray} {n:Nd} {l:Int} (hG:br.Good S r) (hL:br.Good L r2) (hu:S.kindOf 2=2):walkV S L (rootV S L 2 l) names=(n,0)→kindV S L n≠0:=by
 have key:∀(p:List ByteArray) (a:Nd),kindV S L a≠0→walkV S L a p=(n,0)→kindV S L n≠0:=by
  intro p
  induction p with
  | nil=>intro a ha h;injection h with h _;rw [←h];exact ha
  | cons t p ih =>
   intro a ha h
   by_cases e:(getV S L a t).2=0
   ·rw [walkV_ok (c:=(getV S L a t).1) (Prod.ext rfl e)] at h
    exact ih _ (got_kind hG.1 hL.1 (Prod.ext rfl e)) h
   ·rw [walkV_no e] at h
    injection h with _ h
    exact absurd h e
 refine key names _ ?_
 rw [kindV_up (by rw [root_up hu];decide) (by rw [root_up hu];exact hu)];decide
end
theorem copyup_any {w:World} {A B An:Option Addr} {upper lower:List Ln} {names:List ByteArray} {c1 c2 cn:Nat} (room:Int) (hu0:LR w w.heap.size A upper) (hl0:LR w w.heap.size B lower) (hnu:upper.length≤maxLen) (hnl:lower.length≤maxLen) (hzu:∀x∈upper,x.path.size≤maxLen∧x.data.size≤maxLen) (hzl:∀x∈lower,x.path.size≤maxLen∧x.data.size≤maxLen)
  (hnn:NL w (fun b=>b<w.heap.size) An names) (hcn:names.length≤cn∧cn≤maxLen) :
  Calls Tryz.prog 6 #[.slice A upper.length c1,.slice B lower.length c2,.int .i64 room,.slice An names.length cn] w (AwakeE w):=by
 have Xe:=Qa (awake_any w)
 unfold AwakeE at Xe
 have HF:=Qa (show ∀W:World,Below w.heap.size w W→AwakeE w (.returned (.bool true)) W from fun W h=>⟨rfl,h⟩)
 obtain ⟨PQ,hPQ⟩:∃P,AwakeE w=P:=⟨_,rfl⟩
 rw [hPQ] at HF ⊢
 have Qx:=Qa (fun (W:World) (hb:Below w.heap.size w W)=>small_any (c1:=c1) (c2:=c2) ((hu0.same fun b h=>hb.block b h).up hb.size) ((hl0.same fun b h=>hb.block b h).up hb.size) hnu hnl hzu hzl)
 have Qs:=Qa (fun (W:World) (hb:Below w.heap.size w W) (f1:Few upper) (f2:Few lower) (r:Nat) (hr:r≤65536)=>begin_any (c1:=c1) (c2:=c2) ((hu0.same fun b h=>hb.block b h).up hb.size) ((hl0.same fun b h=>hb.block b h).up hb.size) (Nat.le_trans f1.1 (by decide)) (Nat.le_trans f2.1 (by decide)) (fun x hx=>Nat.le_trans (f1.2 x hx) (by decide)) (fun x hx=>Nat.le_trans (f2.2 x hx) (by decide)) hr)
 have Qi:=Qa (fun (W:World) (hb:Below w.heap.size w W) (f2:Few lower) (hr:room<0∨65536<room)=>begin_bad (A:=A) (m:=upper.length) (c1:=c1) (c2:=c2) ((hl0.same fun b h=>hb.block b h).up hb.size) (Nat.le_trans f2.1 (by decide)) (fun x hx=>Nat.le_trans (f2.2 x hx) (by decide)) hr)
 have Xz:=Qa hnn
 have X0:=Qa hcn
 unfold SmallE at Qx
 unfold BegE at Qs
 obtain ⟨nu,hnu2⟩:∃n,upper.length=n:=⟨_,rfl⟩
 obtain ⟨nl,hnl2⟩:∃n,lower.length=n:=⟨_,rfl⟩
 rw [hnu2] at Qx Qs Qi ⊢
 rw [hnl2] at Qx Qs Qi ⊢
 obtain ⟨nn,hnn2⟩:∃n,names.length=n:=⟨_,rfl⟩
 have Qj:=Qa hnn2
 rw [hnn2]
 have xb:nn≤9223372036854775807:=by have:=Nat.le_trans hcn.1 hcn.2;unfold maxLen at this;omega
 clear hPQ hu0 hl0 hnu hnl hzu hzl hnn hcn hnu2 hnl2 hnn2
 go_enter Tryz.func6,Tryz.ntmps6
 go_wp2_with fail
 refine Xe.out.mono ?_
 rintro _ w1 ⟨rfl,hb1⟩
 have Xf:=Qa hb1
 clear hb1 Xe
 go_wp2_with fail
 refine (Qx.out w1 Xf.out).mono ?_
 rintro _ w2 ⟨b,rfl,hb2,hfew⟩
 have Qf:=Qa (bel_step Xf.out hb2)
 clear hb2 Qx Xf
 cases b with
 | false =>
  have Qg:=Qa (HF.out w2 Qf.out)
  clear hfew
  go_wp2_with fail
  exact Qg.out
 | true =>
 obtain ⟨f1,f2⟩:=hfew (by first|rfl|trivial)
 have Xg:=Qa (And.intro f1 f2)
 clear hfew f1 f2
 by_cases hnn:nn≤50
 case neg =>
  have hg:(nn:Int) > 50:=by omega
  have Qg:=Qa (HF.out w2 Qf.out)
  clear hnn
  go_wp2_with fail
  exact Qg.out
 have hg:¬(nn:Int) > 50:=by omega
 have Qk:=Qa hnn
 by_cases hr:room<0∨65536<room
 ·have Q4:=Qa (Qi.out w2 Qf.out Xg.out.2 hr)
  clear hr Qs Qi hnn
  go_wp2_with fail
  refine Q4.out.mono ?_
  rintro _ w3 ⟨rfl,hb3⟩
  have Qg:=Qa (HF.out w3 (bel_step Qf.out hb3))
  clear hb3
  go_wp2_with fail
  exact Qg.out
 obtain ⟨r,rfl⟩:∃r:Nat,room=(r:Int):=⟨room.toNat,by omega⟩
 have da:r≤65536:=by omega
 have Ze:=Qa da
 have Q4:=Qa (Qs.out w2 Qf.out Xg.out.1 Xg.out.2 r da)
 clear hr da Qs Qi hnn
 go_wp2_with fail
 refine Q4.out.mono ?_
 rintro _ w3 (⟨rfl,hb3,-⟩|⟨G,c,R,D1,R1,D2,R2',S,Sd,L,T,rfl,hbg,htr,-⟩)
 ·have Qg:=Qa (HF.out w3 (bel_step Qf.out hb3))
  clear hb3
  go_wp2_with fail
  exact Qg.out
 have Yv:=Qa (lk_tree lower Lk.fresh htr)
 clear htr
 have HZ:=Qa hbg.z
 have Ql:=Qa hbg.bx
 have HT:=Qa hbg.T
 have Qb:=Qa hbg.u
 have Q5:=Qa hbg.l
 have Qt:=Qa hbg.wk
 have Qy:=Qa hbg.bg
 obtain ⟨X,hX⟩:∃X:Nat→Prop,(fun b=>b<w2.heap.size∨b=G∨b=c.C∨b=c.V∨b=R)=X:=⟨_,rfl⟩
 have Xh:=Qa (show X G by rw [←hX];exact .inr (.inl rfl))
 have X3:=Qa (show ∀b,b<w.heap.size→X b from fun b h=>by rw [←hX];exact .inl (Nat.lt_of_lt_of_le h Qf.out.size))
 rw [hX] at HZ
 have Yw:=Qa (show Below w.heap.size w w3 from bel_step Qf.out HZ.out.bel)
 have Xi:=Qa (show NL w3 X An names from (Xz.out.same fun b hb=>Yw.out.block b hb).sub X3.out)
 generalize [KD w2 D1 R1 Sd r,KD w2 D2 R2' L 65536]=M at *
 clear hbg hX Q4 Xz X3
 -- View,Node
 have k4:w3.cell? ⟨G,4,none⟩=some (Pq c.C):=(Lib.cell_of_heap Ql.out 4).trans rfl
 have X4:=Qa (view_any HZ.out)
 have Qh:=Qa (node_any (cap:=cn) HZ.out Xi.out (by rw [Qj.out];have:=Qk.out;omega))
 rw [Qb.out,Q5.out,Qj.out] at Qh
 unfold RetW at Qh
 have Qm:=Qa (fun (v er:Int) (S':BS) (h:UpR r S L 2 1 3 names v er S')=>up_says HZ.out.good1 HZ.out.good2 Qy.out Yv.out h)
 have X5:=Qa (fun (n:Nd) (h:walkV S L (rootV S L 2 1) names=(n,0))=>walk_kind HZ.out.good1 HZ.out.good2 Qy.out.kind2 h)
 obtain ⟨wv,hwv⟩:∃x,walkV S L (rootV S L 2 1) names=x:=⟨_,rfl⟩
 rw [hwv] at Qh
 simp only [hwv] at Qm X5
 clear hwv
 obtain ⟨⟨n1,n2⟩,ne⟩:=wv
 dsimp only at Qh Qm
 go_wp2_with fail
 refine X4.out.mono ?_
 rintro _ wv ⟨rfl,ev⟩
 replace ev:=ev.symm
 subst ev
 go_wp2_with fail
 refine Qh.out.mono ?_
 rintro _ w4 ⟨rfl,hb4⟩
 have Xj:=Qa hb4
 have Yx:=Qa ((hb4.block G (HZ.out.lt Xh.out)).trans Ql.out)
 clear hb4 Qh X4 k4
 obtain ⟨g1,hg1⟩:∃g,w4.heap.size=g:=⟨_,rfl⟩
 obtain ⟨w5,hw5⟩:∃w5,w4.alloc (.cells #[.int .i64 n1,.int .i64 n2] 24)=w5:=⟨_,rfl⟩
 have Xk:=Qa (show Below w3.heap.size w3 w5 by rw [←hw5];exact bel_step Xj.out (bel_alloc _ _))
 have Xl:=Qa (show R2 w5 g1 n1 n2 by rw [←hw5,←hg1];exact R2.new w4 n1 n2)
 have Zf:=Qa (show w3.heap.size≤g1 by rw [←hg1];exact Xj.out.size)
 clear Yx Xj
 go_upto_region 10 with fail
 try rw [hw5]
 try rw [hg1]
 clear hw5 hg1
 obtain ⟨m0,m1,_,_⟩:=Xl.out
 have X6:=Qa (stat_y (HZ.out.below Xk.out) (n1,n2))
 go_wp2_with fail
 refine X6.out.mono ?_
 rintro _ w6 ⟨sk,ss,sl,se,hsq,rfl,hb6⟩
 have X7:=Qa hsq
 have Xm:=Qa (bel_step Xk.out hb6)
 have X8:=Qa (Xl.out.below hb6)
 clear hb6 hsq X6 Xk Xl m0 m1
 obtain ⟨g2,hg2⟩:∃g,w6.heap.size=g:=⟨_,rfl⟩
 obtain ⟨w7,hw7⟩:∃w7,w6.alloc (.cells #[.int .i64 sk,.int .i64 ss,.int .i64 sl] 47)=w7:=⟨_,rfl⟩
 have Q6:=Qa (show Below w3.heap.size w3 w7 by rw [←hw7];exact bel_step Xm.out (bel_alloc _ _))
 have Xn:=Qa (show R2 w7 g1 n1 n2 by rw [←hw7];exact X8.out.below (bel_alloc _ _))
 have X9:=Qa (show R3 w7 g2 sk ss sl by rw [←hw7,←hg2];exact R3.new w6 sk ss sl)
 have Ya:=Qa (show w3.heap.size≤g2 by rw [←hg2];exact Xm.out.size)
 clear Xm X8
 go_upto_region 11 with fail
 try rw [hw7]
 try rw [hg2]
 clear hw7 hg2
 obtain ⟨m0,m1,_,_⟩:=Xn.out
 have Qz:=Qa (mg.read_any (HZ.out.below Q6.out).vx (n1,n2) 0 65536)
 go_wp2_with fail
 refine Qz.out.mono ?_
 intro _ w8 h8
 obtain ⟨dA,dm,dc,de,df,hdq,rfl,hdr,hb8⟩:=read_q h8
 have Yb:=Qa hdq
 have Yc:=Qa hdr
 have Yy:=Qa (show w3.heap.size≤w7.heap.size from Q6.out.size)
 have Xo:=Qa (bel_step Q6.out hb8)
 have Xp:=Qa (Xn.out.below hb8)
 have Yd:=Qa (X9.out.below hb8)
 clear hb8 hdq hdr h8 Qz Q6 Xn X9 m0 m1
 obtain ⟨m0,m1,_,_⟩:=Xp.out
 have Qv:=Qa (mg.target_any (HZ.out.below Xo.out).vx (n1,n2))
 unfold RetW at Qv
 go_wp2_with fail
 refine Qv.out.mono ?_
 rintro _ w9 ⟨rfl,hb9⟩
 have Q7:=Qa (bel_step Xo.out hb9)
 have Yz:=Qa (Xp.out.below hb9)
 have Q8:=Qa (Yd.out.below hb9)
 have Ye:=Qa (row_keep Yc.out fun b _ h=>hb9.block b h)
 have Y0:=Qa (show g2<w9.heap.size from Q8.out.lt)
 clear hb9 Qv Xo Xp Yd Yc m0 m1
 obtain ⟨Y,hY⟩:∃Y:Nat→Prop,(fun b=>X b∨(w3.heap.size≤b∧b<w9.heap.size))=Y:=⟨_,rfl⟩
 have Q9:=Qa (show ∀b,X b→Y b from fun b h=>by rw [←hY];exact .inl h)
 have Xq:=Qa (show ∀b,w3.heap.size≤b→b<w9.heap.size→Y b from fun b h1 h2=>by rw [←hY];exact .inr ⟨h1,h2⟩)
 have Y1:=Qa (HZ.out.box (Y:=Y) Q7.out (fun b hb=>by rw [←hY] at hb;exact hb) (Q9.out _ HZ.out.xC) (Q9.out _ HZ.out.xV))
 have Xr:=Qa ((Q7.out.block G (HZ.out.lt Xh.out)).trans Ql.out)
 have Xs:=Qa (show NL w9 Y An names from (Xi.out.below Q7.out).sub Q9.out)
 have Xa:=Qa (Q9.out _ Xh.out)
 clear hY HZ Ql Xi Q7
 have Qn:=Qa (up_any (cap:=cn) (W:=3) Y1.out Xs.out (by rw [Qj.out];have:=Qk.out;omega) X0.out.1 (by have:=HT.out;omega) (by rw [Qb.out];exact Qy.out.kind2) (by rw [Qb.out];exact Qy.out.l2) Qy.out.out (by rw [Qt.out];rfl) (by rw [Qb.out];decide) (by rw [Qb.out,Qt.out];decide))
 unfold UpE at Qn
 rw [Qb.out,Q5.out,Qt.out,Qj.out] at Qn
 have k4:w9.cell? ⟨G,4,none⟩=some (Pq c.C):=(Lib.cell_of_heap Xr.out 4).trans rfl
 go_wp2_with fail
 refine Qn.out.mono ?_
 rintro _ wa ⟨v,er,S',rfl,hza,hsa,hur⟩
 have Qc:=Qa hza
 have Xb:=Qa ((hsa G Xa.out).trans Xr.out)
 have Yf:=Qa (Xs.out.same hsa)
 have Xt:=Qa (show R3 wa g2 sk ss sl from Q8.out.same (hsa g2 (Xq.out g2 Ya.out Q8.out.lt)))
 have Xc:=Qa ((row_in (P:=Y) Ye.out fun b h1 h2=>Xq.out b (Nat.le_trans Yy.out h1) h2).same hsa)
 have Xu:=Qa (Qm.out v er S' hur)
 have Y2:=Qa (fun W (hb:Below wa.heap.size wa W)=>HF.out W (bel_step Qf.out (Qc.out.below hb).bel))
 have Q2:=Qa (Y2.out wa (Below.refl _ _))
 clear hza hsa hur Qn Xr Xs Yz Q8 Ye k4 Qm
 by_cases he:er=0
 case neg =>
  obtain ⟨rfl,hcs⟩:=Xu.out.1 he
  have q0:(er != 0)=true:=by simpa using he
  clear he
  rcases hcs with ⟨h1,rfl⟩|rfl|rfl
  ·obtain rfl:nn=0:=by rw [←Qj.out,h1];rfl
   clear h1
   by_cases e1:ne=22
   ·subst e1
    go_wp2_with fail
    exact Q2.out
   ·have q1:(ne == 22)=false:=by simpa using e1
    clear e1
    go_wp2_with fail
    exact Q2.out
  ·by_cases e1:ne=28
   ·subst e1
    go_wp2_with fail
    exact Q2.out
   ·have q1:(ne == 28)=false:=by simpa using e1
    clear e1
    go_wp2_with fail
    exact Q2.out
  ·have q1:(ne == ne)=true:=by simp
   go_wp2_with fail
   exact Q2.out
 subst he
 obtain ⟨n,y,hn,hcop,hbg2,hwk,hy0,hag⟩:=Xu.out.2 rfl
 injection hn with hn1 xa
 subst hn1
 have xa:ne=0:=xa
 subst xa
 have ma:=X5.out _ rfl
 obtain ⟨kk,hkk⟩:∃k,S'.kindOf v=k:=⟨_,rfl⟩
 have la:=(hcop.kindV ma).symm.trans hkk
 obtain ⟨rfl,hss⟩:=X7.out ma
 obtain ⟨rfl,rfl⟩:=Yb.out ma
 have ba:=hcop.read 0 65536
 have fa:=hcop.like.2.2.1
 have kb:=hcop.targ ma
 have ya:=hcop.stat
 have ga:=hcop.size
 rw [hkk] at ya ga hy0
 rw [la] at hss Xt
 obtain ⟨cm,hcm⟩:∃m,(readI (readN S L (n1,n2)).1 (readN S L (n1,n2)).2 0 65536).2=m:=⟨_,rfl⟩
 obtain ⟨df,hdf⟩:∃f:Nat→UInt8,(fun j=>((readN S L (n1,n2)).1.at (readN S L (n1,n2)).2).body.dat ((0:Int).toNat+j))=f:=⟨_,rfl⟩
 have qa:(fun j=>(S'.at v).body.dat ((0:Int).toNat+j))=df:=by rw [fa];exact hdf
 rw [hdf] at Xc
 rw [hcm] at Xc ⊢
 have ja:(readI S' v 0 65536).2=cm:=by rw [ba];exact hcm
 obtain ⟨tt,htt⟩:∃t,strF cm df=t:=⟨_,rfl⟩
 have Y3:=Qa htt
 obtain ⟨tg1,htg1⟩:∃t,(targN S L (n1,n2)).1=t:=⟨_,rfl⟩
 obtain ⟨tg2,htg2⟩:∃t,(targN S L (n1,n2)).2=t:=⟨_,rfl⟩
 rw [htg1,htg2]
 obtain ⟨xs,hxs⟩:∃n,(S'.at v).sizeOf=n:=⟨_,rfl⟩
 rw [hxs] at ya
 have Y4:=Qa (show kk≠2→ss=(xs:Int) from fun h=>by rw [hss h,←ga h,hxs])
 have Y6:=Qa hy0
 have Yg:=Qa hag
 have Xv:=Qa hbg2
 have Y7:=Qa hwk
 have Zg:=Qa hkk
 obtain ⟨us,hus⟩:∃n,S'.used=n:=⟨_,rfl⟩
 have Y8:=Qa hus
 have Qp:=Qa (cb.x_used Qc.out.brx1)
 rw [hus] at Qp
 have Qd:=Qa (cb.x_stat Qc.out.brx1 v)
 unfold RetW cb.statV at Qd
 rw [ya] at Qd
 dsimp only at Qd
 have Qo:=Qa (fun W (hb:Below wa.heap.size wa W)=>cb.x_read (Qc.out.below hb).brx1 v 0 65536)
 have Qq:=Qa (fun W (hb:Below wa.heap.size wa W)=>cb.x_target (Qc.out.below hb).brx1 v)
 unfold ReadI at Qo
 rw [ja,qa] at Qo
 rw [kb,htg1,htg2] at Qq
 have k0:wa.cell? ⟨G,0,none⟩=some (Pq c.P1):=(Lib.cell_of_heap Xb.out 0).trans rfl
 clear hbg2 hag ma hcop la hss ba fa kb ya ga hkk hcm hdf qa ja htt htg1 htg2 hxs hy0 hwk hus xa Yb X7 Xu
 go_wp2_with fail
 refine Qp.out.mono ?_
 rintro _ wu ⟨rfl,eu⟩
 replace eu:=eu.symm
 subst eu
 go_wp2_with fail
 refine Qd.out.mono ?_
 rintro _ wb ⟨rfl,hbb⟩
 have Qi:=Qa hbb
 clear hbb Qd Qp
 obtain ⟨g3,hg3⟩:∃g,wb.heap.size=g:=⟨_,rfl⟩
 obtain ⟨wc,hwc⟩:∃wc,wb.alloc (.cells #[.int .i64 kk,.int .i64 (xs:Int),.int .i64 1] 47)=wc:=⟨_,rfl⟩
 have Q3:=Qa (show Below wa.heap.size wa wc by rw [←hwc];exact bel_step Qi.out (bel_alloc _ _))
 have Yh:=Qa (show R3 wc g3 kk (xs:Int) 1 by rw [←hwc,←hg3];exact R3.new wb kk xs 1)
 have Y9:=Qa (show wa.heap.size≤g3 by rw [←hg3];exact Qi.out.size)
 clear Qi k0
 go_upto_region 18 with fail
 try rw [hwc]
 try rw [hg3]
 clear hwc hg3
 have Yi:=Qa ((Q3.out.block G (Qc.out.lt Xa.out)).trans Xb.out)
 have k0:wc.cell? ⟨G,0,none⟩=some (Pq c.P1):=(Lib.cell_of_heap Yi.out 0).trans rfl
 have Qz:=Qa (Qo.out wc Q3.out)
 go_wp2_with fail
 refine Qz.out.mono ?_
 rintro _ wd ⟨cA,cc,rfl,hcr,hbd⟩
 have Yj:=Qa hcr
 have Za:=Qa (show wa.heap.size≤wc.heap.size from Q3.out.size)
 have Qr:=Qa (bel_step Q3.out hbd)
 have Xw:=Qa (Yh.out.below hbd)
 clear hbd hcr Qz Qo Q3 Yh Yi k0
 have Xd:=Qa ((Qr.out.block G (Qc.out.lt Xa.out)).trans Xb.out)
 have k0:wd.cell? ⟨G,0,none⟩=some (Pq c.P1):=(Lib.cell_of_heap Xd.out 0).trans rfl
 have Qv:=Qa (Qq.out wd Qr.out)
 go_wp2_with fail
 refine Qv.out.mono ?_
 rintro _ we ⟨rfl,ee⟩
 replace ee:=ee.symm
 subst ee
 clear Qv Qq k0
 obtain ⟨Z,hZ⟩:∃Z:Nat→Prop,(fun b=>Y b∨(wa.heap.size≤b∧b<wd.heap.size))=Z:=⟨_,rfl⟩
 have Qw:=Qa (show ∀b,Y b→Z b from fun b h=>by rw [←hZ];exact .inl h)
 have Yk:=Qa (show ∀b,wa.heap.size≤b→b<wd.heap.size→Z b from fun b h1 h2=>by rw [←hZ];exact .inr ⟨h1,h2⟩)
 have Yl:=Qa (Qc.out.box (Y:=Z) Qr.out (fun b hb=>by rw [←hZ] at hb;exact hb) (Qw.out _ Qc.out.xC) (Qw.out _ Qc.out.xV))
 have Qh:=Qa (show NL wd Z An names from (Yf.out.below Qr.out).sub Qw.out)
 have Zb:=Qa (Qw.out _ Xa.out)
 have Ym:=Qa (Xt.out.below Qr.out)
 have Yo:=Qa ((Xc.out.sub Qw.out).below Qr.out)
 have Yp:=Qa (row_in (P:=Z) Yj.out fun b h1 h2=>Yk.out b (Nat.le_trans Za.out h1) h2)
 clear hZ Qc Xb Yf Xt Xc Yj Qr
 have Qn:=Qa (up_any (cap:=cn) (W:=3) Yl.out Qh.out (by rw [Qj.out];have:=Qk.out;omega) X0.out.1 (by have:=HT.out;omega) (by rw [Qb.out];exact Xv.out.kind2) (by rw [Qb.out];exact Xv.out.l2) Xv.out.out (by rw [Qt.out];rfl) (by rw [Qb.out];decide) (by rw [Qb.out,Qt.out];decide))
 unfold UpE at Qn
 rw [Qb.out,Q5.out,Qt.out,Qj.out] at Qn
 have k4:wd.cell? ⟨G,4,none⟩=some (Pq c.C):=(Lib.cell_of_heap Xd.out 4).trans rfl
 go_wp2_with fail
 refine Qn.out.mono ?_
 rintro _ wf ⟨v2,er2,S2,rfl,hzf,hsf,hur⟩
 obtain ⟨rfl,rfl,rfl⟩:=Yg.out v2 er2 S2 hur
 have Xx:=Qa hzf
 have Yq:=Qa ((hsf G Zb.out).trans Xd.out)
 have Zc:=Qa (Qh.out.same hsf)
 have Yr:=Qa (show R3 wf g2 kk ss sl from Ym.out.same (hsf g2 (Qw.out _ (Xq.out g2 Ya.out Y0.out))))
 have Ys:=Qa (show R3 wf g3 kk (xs:Int) 1 from Xw.out.same (hsf g3 (Yk.out g3 Y9.out Xw.out.lt)))
 have Yt:=Qa (Yo.out.same hsf).conv
 have Yu:=Qa (Yp.out.same hsf).conv
 rw [Y3.out] at Yt Yu
 clear hzf hsf hur Qn Yl Qh Ym Yo Yp Xd Xw k4 Yg
 have Qp:=Qa (cb.x_used Xx.out.brx1)
 rw [Y8.out] at Qp
 have k0:wf.cell? ⟨G,0,none⟩=some (Pq c.P1):=(Lib.cell_of_heap Yq.out 0).trans rfl
 obtain ⟨t0,t1,t2,_,_,_⟩:=Yr.out
 obtain ⟨x0,x1,x2,_,_,_⟩:=Ys.out
 have mb:=Yt.out
 have jb:=Yu.out
 have yb:(v2 != v2)=false:=by simp
 have pb:((us:Int) != (us:Int))=false:=by simp
 have sa:(kk != kk)=false:=by simp
 go_wp2_with fail
 refine Qp.out.mono ?_
 rintro _ wu ⟨rfl,eu⟩
 replace eu:=eu.symm
 subst eu
 have k4:wf.cell? ⟨G,4,none⟩=some (Pq c.C):=(Lib.cell_of_heap Yq.out 4).trans rfl
 have Qe:=Qa (node_any (cap:=cn) Xx.out Zc.out (by rw [Qj.out];have:=Qk.out;omega))
 rw [Qb.out,Q5.out,Qj.out,Y7.out] at Qe
 unfold RetW at Qe
 dsimp only at Qe
 clear mb jb sa pb Qp k0 t0 t1 t2 x0 x1 x2
 go_wp2_with fail
 refine Qe.out.mono ?_
 rintro _ wg ⟨rfl,hbg⟩
 obtain ⟨g4,hg4⟩:∃g,wg.heap.size=g:=⟨_,rfl⟩
 obtain ⟨wh,hwh⟩:∃wh,wg.alloc (.cells #[.int .i64 v2,.int .i64 y] 24)=wh:=⟨_,rfl⟩
 have Xy:=Qa (show Below wf.heap.size wf wh by rw [←hwh];exact bel_step hbg (bel_alloc _ _))
 have Zd:=Qa (show R2 wh g4 v2 y by rw [←hwh,←hg4];exact R2.new wg v2 y)
 clear hbg k4 Qe
 go_upto_region 24 with fail
 try rw [hwh]
 try rw [hg4]
 clear hwh hg4
 obtain ⟨t0,t1,t2,_,_,_⟩:=(Yr.out.below Xy.out)
 obtain ⟨x0,x1,x2,_,_,_⟩:=(Ys.out.below Xy.out)
 obtain ⟨r0,r1,_,_⟩:=Zd.out
 have Qg:=Qa (HF.out wh (bel_step Qf.out (Xx.out.below Xy.out).bel))
 have rb:(v2 == v2)=true:=by simp
 by_cases e2:kk=2
 ·have q2:(kk == 2)=true:=by simpa using e2
  clear e2
  go_wp2_with fail
  exact Qg.out
 ·have q2:(kk == 2)=false:=by simpa using e2
  have e3:=Y4.out e2
  have e4:=Y6.out e2
  subst e3 e4
  have q3:((xs:Int) == (xs:Int))=true:=by simp
  clear e2
  go_wp2_with fail
  exact Qg.out
end cu
namespace fl
open Go.RowKit
open br (BS Ino Inv Tree sumF fresh)
open cb (BrX RetW RetI No)
open bl (Pq)
open mg (Nd Nv Vx bel_step bel_alloc BelowOf wp_region_below calls_below)
theorem three {b:Nat} {w:World} (h:w.heap[b]?=some (.cells #[.string yA,.int .i64 2,.string ⟨#[]⟩,.string yB,.int .i64 1,.string yX,.string yC,.int .i64 3,.string y1] 104 (0,0))) :
  LR w (b+1) (some ⟨b,0,none⟩) zl∧LR w (b+1) (some ⟨b,3,none⟩) z1∧LR w (b+1) (some ⟨b,3,none⟩) (zl.drop 1):=by
 have c:∀j,w.cell? ⟨b,j,none⟩=_:=fun j=>Lib.cell_of_heap h j
 refine ⟨fun j x hx=>?_,fun j x hx=>?_,fun j x hx=>?_⟩
 ·match j,hx with
  | 0,hx=>injection hx with hx;subst hx;exact ⟨b,0,rfl,Nat.lt_succ_self _,(c 0).trans rfl,(c 1).trans rfl,(c 2).trans rfl⟩
  | 1,hx=>injection hx with hx;subst hx;exact ⟨b,0,rfl,Nat.lt_succ_self _,(c 3).trans rfl,(c 4).trans rfl,(c 5).trans rfl⟩
  | 2,hx=>injection hx with hx;subst hx;exact ⟨b,0,rfl,Nat.lt_succ_self _,(c 6).trans rfl,(c 7).trans rfl,(c 8).trans rfl⟩
  | n+3,hx=>cases hx
 ·match j,hx with
  | 0,hx=>injection hx with hx;subst hx;exact ⟨b,3,rfl,Nat.lt_succ_self _,(c 3).trans rfl,(c 4).trans rfl,(c 5).trans rfl⟩
  | n+1,hx=>cases hx
 ·match j,hx with
  | 0,hx=>injection hx with hx;subst hx;exact ⟨b,3,rfl,Nat.lt_succ_self _,(c 3).trans rfl,(c 4).trans rfl,(c 5).trans rfl⟩
  | 1,hx=>injection hx with hx;subst hx;exact ⟨b,3,rfl,Nat.lt_succ_self _,(c 6).trans rfl,(c 7).trans rfl,(c 8).trans rfl⟩
  | n+2,hx=>cases hx
end fl
namespace fl
open Go.ChangeShapes Go.WideShapes Go.ChangeAt Go.RowKit
instance:Inhabited Ln:=⟨⟨⟨#[]⟩,0,⟨#[]⟩⟩⟩
theorem open_lines {H:Type} {enc:TypeId×Value→H} {W:World} {r:Reach} {b0:Nat} {sp:Nat→Bool} {held:Bool} {v:Value} {d:DataW H} {p:List MemPlace}
  (hv:Value.okWide Tryz.prog W r b0 70 v) (h:DataW.Trod enc Tryz.prog W 0 sp held 70 v d p) :
  ∃A c l,v=.slice A (l:List Ln).length c∧(l.length≤c∧c≤maxLen)∧LR W W.heap.size A l∧∀x∈l,x.path.size≤maxLen∧x.data.size≤maxLen:=by
 obtain ⟨fuel,hf⟩:=h
 have ma:v.cells.toList=[v]:=by
  obtain ⟨A,n,c,rfl⟩:=okWide_slice Tryz.underlying70 hv
  rfl
 rw [ma] at hf
 rcases cb.open_slice_fields Tryz.underlying70 Tryz.underlying104 (by kernel_rfl) (by kernel_rfl) hf with e|⟨a,len,cap,m,e,hl,hm,hlm,hi⟩
 ·injection e with e
  subst e
  exact ⟨none,0,[],rfl,⟨Nat.le_refl _,by unfold maxLen;omega⟩,fun j x hx=>(by cases hx),fun x hx=>(by cases hx)⟩
 ·injection e with e
  subst e
  have xa:∀i,∃x:Ln,i<len→∃b off,(some a:Option Addr)=some ⟨b,off,none⟩∧b<W.heap.size ∧
    W.cell? ⟨b,off+i*3,none⟩=some (.string x.path) ∧
 W.cell? ⟨b,off+i*3+1,none⟩=some (.int .i64 x.kind) ∧
 W.cell? ⟨b,off+i*3+2,none⟩=some (.string x.data)∧x.path.size≤maxLen∧x.data.size≤maxLen:=by
   intro i
   by_cases hil:i<len
   ·obtain ⟨n0,hj0⟩:=hi 0 (by omega)
    obtain ⟨_,_,c00,_⟩:=hj0 0 _ rfl
    obtain ⟨b,off,rfl,hb⟩:=cb.spot_none (by simpa using c00)
    obtain ⟨n,hj⟩:=hi i (by omega)
    obtain ⟨v0,y0,c0,t0⟩:=hj 0 _ rfl
    obtain ⟨v1,y1,c1,t1⟩:=hj 1 _ rfl
    obtain ⟨v2,y2,c2,t2⟩:=hj 2 _ rfl
    obtain ⟨z0,e0,_,hz0⟩:=DataW.trod_string Tryz.underlying9 t0
    obtain ⟨z1,e1,_⟩:=DataW.trod_int Tryz.underlying3 t1
    obtain ⟨z2,e2,_,hz2⟩:=DataW.trod_string Tryz.underlying9 t2
    injection e0 with e0
    subst e0
    injection e1 with e1
    subst e1
    injection e2 with e2
    subst e2
    rw [Go.WideShapes.add_plain] at c0 c1 c2
    exact ⟨⟨z0,z1,z2⟩,fun _=>⟨b,off,rfl,hb,by simpa using c0,by simpa [Nat.add_assoc] using c1,by simpa [Nat.add_assoc] using c2,hz0,hz2⟩⟩
   ·exact ⟨default,fun h=>absurd h hil⟩
  obtain ⟨F,hF⟩:=Classical.axiomOfChoice xa
  have qa:((List.range len).map F).length=len:=by simp
  have ja:∀(j:Nat) (x:Ln),((List.range len).map F)[j]?=some x→j<len∧x=F j:=fun j x hx=>by
   rw [List.getElem?_map] at hx
   by_cases hj:j<len
   ·rw [List.getElem?_range hj] at hx
    injection hx with hx
    exact ⟨hj,hx.symm⟩
   ·rw [List.getElem?_eq_none (by simpa using hj)] at hx
    cases hx
  refine ⟨some a,cap,(List.range len).map F,by rw [qa],by rw [qa];exact ⟨hl,hm⟩,fun j x hx=>?_,fun x hx=>?_⟩
  ·obtain ⟨hj,rfl⟩:=ja j x hx
   obtain ⟨b,off,e,hb,c0,c1,c2,_⟩:=hF j hj
   exact ⟨b,off,e,hb,c0,c1,c2⟩
  ·obtain ⟨j,hx⟩:=List.getElem?_of_mem hx
   obtain ⟨hj,rfl⟩:=ja j x hx
   obtain ⟨_,_,_,_,_,_,_,h1,h2⟩:=hF j hj
   exact ⟨h1,h2⟩
theorem lines_stay {H:Type} {enc:TypeId×Value→H} {W W':World} {v:Value} {d:DataW H} {ps before:List MemPlace} {sp:Nat→Bool}
  (h:DataW.Trod enc Tryz.prog W 0 (fun _=>true) true 70 v d ps) (hb:Below W.heap.size W W') (hsub:∀x∈ps,x∈before) (hlt:∀x∈before,x.block<W.heap.size) (hsp:∀x∈before,sp x.block=true) (hlaid:laidOutB Tryz.prog=true) :
  DataW.Trod enc Tryz.prog W' 0 sp true 70 v d ps :=
 WideElems.Trod_stays hlaid (by kernel_rfl) (of_decide_eq_true (by kernel_rfl)) h (fun x hx=>hb.same (hlt x (hsub x hx))) (fun x hx=>hsp x (hsub x hx))
end fl
end Go.Proofs.YtgoddboicjfkcaaGreat
