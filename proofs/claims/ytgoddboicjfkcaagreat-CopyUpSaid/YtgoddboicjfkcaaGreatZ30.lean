/- Contracts and mathematics, part 30. -/
import Derived.Test.YtgoddboicjfkcaaGreatZ29
set_option linter.unusedVariables false
set_option linter.unusedSimpArgs false
set_option maxRecDepth 100000
set_option maxHeartbeats 8000000
namespace Go.Proofs.YtgoddboicjfkcaaGreat
namespace cu
open Go.RowKit Go.Deep
open br (BS Ino Inv at_nat abE nameE fresh)
open cb (BrX RetW RetI No KB KD Res HB Stab NxR Same WrI Wz ReadI newI)
open bl (Pq Only U8 AB)
open mg (Vx Nd Nv Nb R2 R3 bel_step bel_alloc kindV getV rootV AwakeE)
open fl (Ln LR treeF)
section
variable {w0 w:World} {c:Cp} {S L:BS} {r T:Nat} {M:List Res} {X:Nat→Prop}
theorem Zs.row2 (h:Zs w0 w c S L r T M X) {w':World} {g:Nat} (hg:w.heap.size=g) {a b:ByteArray} (hw:w.alloc (.cells #[.string a,.string b] 9)=w') (ha:a.size≤9223372036854775807) (hb:b.size≤9223372036854775807) :
  Zs w0 w' c S L r T M (fun b=>X b∨b=g)∧NL w' (fun b=>X b∨b=g) (some ⟨g,0,none⟩) [a,b]∧Below w.heap.size w w':=by
 subst hg hw
 have ma:=bel_alloc w (.cells #[.string a,.string b] 9)
 refine ⟨h.box ma (fun b hb=>hb.imp id fun e=>by rw [e,World.size_alloc];omega) (.inl h.xC) (.inl h.xV),fun j s hj=>?_,ma⟩
 match j,hj with
 | 0,hj=>injection hj with hj;subst hj;exact ⟨w.heap.size,0,rfl,.inr rfl,by simp,ha⟩
 | 1,hj=>injection hj with hj;subst hj;exact ⟨w.heap.size,0,rfl,.inr rfl,by simp,hb⟩
 | n+2,hj=>cases hj
theorem Zs.row1 (h:Zs w0 w c S L r T M X) {w':World} {g:Nat} (hg:w.heap.size=g) {a:ByteArray} (hw:w.alloc (.cells #[.string a] 9)=w') (ha:a.size≤9223372036854775807) :
  Zs w0 w' c S L r T M (fun b=>X b∨b=g)∧NL w' (fun b=>X b∨b=g) (some ⟨g,0,none⟩) [a]∧Below w.heap.size w w':=by
 subst hg hw
 have ma:=bel_alloc w (.cells #[.string a] 9)
 refine ⟨h.box ma (fun b hb=>hb.imp id fun e=>by rw [e,World.size_alloc];omega) (.inl h.xC) (.inl h.xV),fun j s hj=>?_,ma⟩
 match j,hj with
 | 0,hj=>injection hj with hj;subst hj;exact ⟨w.heap.size,0,rfl,.inr rfl,by simp,ha⟩
 | n+1,hj=>cases hj
end
theorem awake_any (w:World):Calls Tryz.prog 44 #[] w (AwakeE w):=by
 obtain ⟨b,hb⟩:∃b,w.heap.size=b:=⟨_,rfl⟩
 obtain ⟨w1,hw1⟩:∃w1,w.alloc (.cells #[.string ⟨#[47,97]⟩,.int .i64 2,.string ⟨#[]⟩,.string ⟨#[47,97,47,98]⟩,.int .i64 1,.string ⟨#[120,121]⟩] 104)=w1:=⟨_,rfl⟩
 have hh:w1.heap[b]?=some (.cells #[.string ⟨#[47,97]⟩,.int .i64 2,.string ⟨#[]⟩,.string ⟨#[47,97,47,98]⟩,.int .i64 1,.string ⟨#[120,121]⟩] 104 (0,0)):=by rw [←hw1,←hb];exact heap_alloc_new w _
 have ya:Below w.heap.size w w1:=by rw [←hw1];exact bel_alloc _ _
 have qa:b<w1.heap.size:=by rw [←hw1,←hb,World.size_alloc];omega
 have da:LR w1 w1.heap.size (some ⟨b,0,none⟩) zl2:=fun j x hx=>by
  have c:=fun i=>Lib.cell_of_heap hh i
  match j,hx with
  | 0,hx=>injection hx with hx;subst hx;exact ⟨b,0,rfl,qa,(c 0).trans rfl,(c 1).trans rfl,(c 2).trans rfl⟩
  | 1,hx=>injection hx with hx;subst hx;exact ⟨b,0,rfl,qa,(c 3).trans rfl,(c 4).trans rfl,(c 5).trans rfl⟩
  | n+2,hx=>cases hx
 have Qf:=Qa (begin_any (A:=none) (c1:=0) (c2:=2) (upper:=[]) (fun j x hx=>by cases hx) da (by decide) (by decide) (fun x hx=>nomatch hx) (fun x hx=>by
  rcases List.mem_cons.1 hx with rfl|hx
  ·decide
  ·rcases List.mem_cons.1 hx with rfl|hx
   ·decide
   ·cases hx) (r:=9) (by decide))
 unfold BegE at Qf
 have HF:=Qa (show ∀W:World,Below w.heap.size w W→AwakeE w (.returned (.bool true)) W from fun W h=>⟨rfl,h⟩)
 obtain ⟨PQ,hPQ⟩:∃P,AwakeE w=P:=⟨_,rfl⟩
 rw [hPQ] at HF ⊢
 have Xp:=Qa ya
 clear hh qa da ya hPQ
 go_enter Tryz.func44,Tryz.ntmps44
 go_wp2_with fail
 try rw [hw1]
 try rw [hb]
 clear hw1 hb
 refine Qf.out.mono ?_
 rintro _ w2 (⟨-,-,hne⟩|⟨G,c,R,D1,R1,D2,R2',S,Sd,L,T,rfl,hbg,htr,hs0⟩)
 ·have:=hne (by first|rfl|trivial)
  rw [aL_is] at this;cases this
 rw [aL_is] at htr
 injection htr with htr
 subst htr
 have hs:=hs0 (by first|rfl|trivial)
 subst hs
 have HZ:=Qa hbg.z
 have Qs:=Qa hbg.bx
 have HT:=Qa hbg.T
 have Qc:=Qa (show ∀b,b=G→b<w1.heap.size∨b=G∨b=c.C∨b=c.V∨b=R from fun b h=>.inr (.inl h))
 obtain ⟨ga,hcl,hcw⟩:c.u=2∧c.l=1∧c.wk=3:=⟨hbg.u,hbg.l,hbg.wk⟩
 have Qb:=Qa ga
 have Qi:=Qa hcl
 have Qg:=Qa hcw
 obtain ⟨X,hX⟩:∃X:Nat→Prop,(fun b=>b<w1.heap.size∨b=G∨b=c.C∨b=c.V∨b=R)=X:=⟨_,rfl⟩
 have Qc:=Qa (show X G by rw [←hX];exact .inr (.inl rfl))
 rw [hX] at HZ
 generalize [KD w1 D1 R1 Sd 9,KD w1 D2 R2' aL 65536]=M at *
 clear hbg hs0 Qf ga hcl hcw hX
 have k4:w2.cell? ⟨G,4,none⟩=some (Pq c.C):=(Lib.cell_of_heap Qs.out 4).trans rfl
 have Q3:=Qa (cnew_nil w2 1 1 1)
 have Q4:=Qa (view_any HZ.out)
 go_wp2_with fail
 refine Q3.out.mono ?_
 rintro _ w3 ⟨rfl,rfl⟩
 go_wp2_with fail
 refine Q4.out.mono ?_
 rintro _ w3 ⟨rfl,rfl⟩
 clear Q3 Q4
 -- Node
 obtain ⟨g1,hg1⟩:∃g,w3.heap.size=g:=⟨_,rfl⟩
 obtain ⟨w4,hw4⟩:∃w4,w3.alloc (.cells #[.string ⟨#[97]⟩,.string ⟨#[98]⟩] 9)=w4:=⟨_,rfl⟩
 obtain ⟨ja,hn4,hb4⟩:=HZ.out.row2 hg1 hw4 (by decide) (by decide)
 have Qt:=Qa (ja.sub (Y:=X) (fun b h=>.inl h) HZ.out.xC HZ.out.xV)
 have Qm:=Qa (node_any (cap:=2) ja hn4 (by decide))
 rw [Qb.out,Qi.out,aw_node] at Qm
 unfold RetW at Qm
 have Q5:=Qa ((hb4.block G (HZ.out.lt Qc.out)).trans Qs.out)
 clear ja hn4 hb4 HZ Qs
 go_upto_region 4 with fail
 go_wp2_with fail
 try rw [hw4]
 try rw [hg1]
 clear hw4 hg1
 refine Qm.out.mono ?_
 rintro _ w5 ⟨rfl,hb5⟩
 have Qk:=Qa (Qt.out.below hb5)
 have Q6:=Qa ((hb5.block G (Qt.out.lt Qc.out)).trans Q5.out)
 clear hb5 Qm Qt Q5 k4
 obtain ⟨g3,hg3⟩:∃g,w5.heap.size=g:=⟨_,rfl⟩
 obtain ⟨w6,hw6⟩:∃w6,w5.alloc (.cells #[.int .i64 0,.int .i64 3] 24)=w6:=⟨_,rfl⟩
 have xa:Below w5.heap.size w5 w6:=by rw [←hw6];exact bel_alloc _ _
 have Qj:=Qa (Qk.out.box (Y:=fun b=>X b∨b=g3) xa (fun b hb=>hb.imp id fun e=>by rw [e,←hg3,←hw6,World.size_alloc];omega) (.inl Qk.out.xC) (.inl Qk.out.xV))
 have Qv:=Qa ((xa.block G (Qk.out.lt Qc.out)).trans Q6.out)
 have Q7:=Qa (show R2 w6 g3 0 3 by rw [←hw6,←hg3];exact R2.new w5 0 3)
 clear xa Qk Q6
 go_upto_region 5 with fail
 try rw [hw6]
 try rw [hg3]
 clear hw6 hg3
 -- Up
 have k4:w6.cell? ⟨G,4,none⟩=some (Pq c.C):=(Lib.cell_of_heap Qv.out 4).trans rfl
 obtain ⟨g4,hg4⟩:∃g,w6.heap.size=g:=⟨_,rfl⟩
 obtain ⟨w7,hw7⟩:∃w7,w6.alloc (.cells #[.string ⟨#[97]⟩,.string ⟨#[98]⟩] 9)=w7:=⟨_,rfl⟩
 obtain ⟨sa,hn7,hb7⟩:=Qj.out.row2 hg4 hw7 (by decide) (by decide)
 have Q8:=Qa ((hb7.block G (Qj.out.lt (.inl Qc.out))).trans Qv.out)
 have Q9:=Qa (Q7.out.below hb7)
 have Qd:=Qa (And.intro Qj.out.xC Qj.out.xV)
 have Qn:=Qa (up_any (cap:=2) (W:=3) sa hn7 (by decide) (by decide) (by have:=HT.out;omega) (by rw [Qb.out];exact Bg.start.kind2) (by rw [Qb.out];exact Bg.start.l2) Bg.start.out (by rw [Qg.out];rfl) (by rw [Qb.out];decide) (by rw [Qb.out,Qg.out];decide))
 unfold UpE at Qn
 rw [Qb.out,Qi.out,Qg.out] at Qn
 have Xq:=Qa (Qj.out.good2)
 clear sa hn7 hb7 Qj Qv Q7
 go_wp2_with fail
 try rw [hw7]
 try rw [hg4]
 clear hw7 hg4 k4
 refine Qn.out.mono ?_
 rintro _ w8 ⟨v,er,S',rfl,hz8,hs8,hur⟩
 obtain ⟨rfl,n,rfl,hmk⟩:=aw_up Xq.out hur
 have Qh:=Qa hmk
 have Qo:=Qa (hz8.sub (Y:=fun b=>X b∨b=g3) (fun b h=>.inl h) Qd.out.1 Qd.out.2)
 have Qw:=Qa ((hs8 G (.inl (.inl Qc.out))).trans Q8.out)
 have Xa:=Qa (Q9.out.same (hs8 g3 (.inl (.inr rfl))))
 clear hz8 hs8 hur hmk Qn Q8 Q9
 have k0:w8.cell? ⟨G,0,none⟩=some (Pq c.P1):=(Lib.cell_of_heap Qw.out 0).trans rfl
 -- Read
 have Qe:=Qa (cb.x_read Qo.out.brx1 (n:Int) 0 9)
 unfold cb.ReadI at Qe
 rw [(aw_read Qh.out).1,(aw_read Qh.out).2] at Qe
 dsimp only at Qe
 go_wp2_with fail
 refine Qe.out.mono ?_
 rintro _ w9 ⟨A,cc,rfl,hrow,hb9⟩
 obtain ⟨jb,hrow2⟩:=hrow
 subst jb
 obtain ⟨g7,ma,rfl,hg7b⟩:=hrow2.resolve_left (fun e=>absurd e.2 (by decide))
 have Qp:=Qa (Qo.out.box (Y:=fun b=>(X b∨b=g3)∨b=g7) hb9 (fun b hb=>hb.imp id fun e=>by rw [e];exact ⟨ma,(Array.getElem?_eq_some_iff.1 hg7b).1⟩) (.inl Qd.out.1) (.inl Qd.out.2))
 have Qx:=Qa ((hb9.block G (Qo.out.lt (.inl Qc.out))).trans Qw.out)
 have Xb:=Qa (Xa.out.below hb9)
 have Xc:=Qa hg7b
 clear hb9 ma hg7b hrow2 Qe Qo Qw Xa k0
 -- Hide
 have k4:w9.cell? ⟨G,4,none⟩=some (Pq c.C):=(Lib.cell_of_heap Qx.out 4).trans rfl
 obtain ⟨gA,hgA⟩:∃g,w9.heap.size=g:=⟨_,rfl⟩
 obtain ⟨wA,hwA⟩:∃wA,w9.alloc (.cells #[.string ⟨#[97]⟩,.string ⟨#[99]⟩] 9)=wA:=⟨_,rfl⟩
 obtain ⟨la,hnA,hbA⟩:=Qp.out.row2 hgA hwA (by decide) (by decide)
 have Xd:=Qa ((hbA.block G (Qp.out.lt (.inl (.inl Qc.out)))).trans Qx.out)
 have Xe:=Qa (Xb.out.below hbA)
 have Xf:=Qa ((hbA.block g7 (Qp.out.lt (.inr rfl))).trans Xc.out)
 have Qq:=Qa (hide_any (cap:=2) la hnA (by decide) (by decide) (by have:=HT.out;omega))
 unfold HideE at Qq
 rw [Qb.out,Qi.out] at Qq
 clear la hnA hbA Qp Qx Xb Xc
 go_wp2_with fail
 try rw [hwA]
 try rw [hgA]
 clear hwA hgA k4
 refine Qq.out.mono ?_
 rintro _ wB ⟨er,S2,rfl,hzB,hsB,hhr⟩
 obtain ⟨rfl,rfl⟩:=aw_hide Qh.out hhr
 have Qr:=Qa (hzB.sub (Y:=fun b=>(X b∨b=g3)∨b=g7) (fun b h=>.inl h) (.inl Qd.out.1) (.inl Qd.out.2))
 have Qy:=Qa ((hsB G (.inl (.inl (.inl Qc.out)))).trans Xd.out)
 have Xg:=Qa (Xe.out.same (hsB g3 (.inl (.inl (.inr rfl)))))
 have Xh:=Qa ((hsB g7 (.inl (.inr rfl))).trans Xf.out)
 clear hzB hsB hhr Qq Xd Xe Xf
 -- Chain
 have k4:wB.cell? ⟨G,4,none⟩=some (Pq c.C):=(Lib.cell_of_heap Qy.out 4).trans rfl
 obtain ⟨gC,hgC⟩:∃g,wB.heap.size=g:=⟨_,rfl⟩
 obtain ⟨wC,hwC⟩:∃wC,wB.alloc (.cells #[.string ⟨#[97]⟩] 9)=wC:=⟨_,rfl⟩
 obtain ⟨ba,hnC,hbC⟩:=Qr.out.row1 hgC hwC (by decide)
 have Xi:=Qa ((hbC.block G (Qr.out.lt (.inl (.inl Qc.out)))).trans Qy.out)
 have Xj:=Qa (Xg.out.below hbC)
 have Xk:=Qa ((hbC.block g7 (Qr.out.lt (.inr rfl))).trans Xh.out)
 have Ql:=Qa (chain_any (cap:=1) ba hnC (by decide) (by have:=HT.out;omega))
 unfold ChainE at Ql
 rw [Qb.out,Qi.out,aw_chain Qh.out] at Ql
 dsimp only at Ql
 clear ba hnC hbC Qr Qy Xg Xh
 go_wp2_with fail
 try rw [hwC]
 try rw [hgC]
 clear hwC hgC k4
 refine Ql.out.mono ?_
 rintro _ wD ⟨rfl,hzD,hsD⟩
 have Qz:=Qa (hzD.sub (Y:=fun b=>(X b∨b=g3)∨b=g7) (fun b h=>.inl h) (.inl Qd.out.1) (.inl Qd.out.2))
 have Xl:=Qa ((hsD G (.inl (.inl (.inl Qc.out)))).trans Xi.out)
 have Qe:=Qa (Xj.out.same (hsD g3 (.inl (.inl (.inr rfl)))))
 have Xm:=Qa ((hsD g7 (.inl (.inr rfl))).trans Xk.out)
 clear hzD hsD Ql Xi Xj Xk
 -- Deep
 have k4:wD.cell? ⟨G,4,none⟩=some (Pq c.C):=(Lib.cell_of_heap Xl.out 4).trans rfl
 obtain ⟨gE,hgE⟩:∃g,wD.heap.size=g:=⟨_,rfl⟩
 obtain ⟨wE,hwE⟩:∃wE,wD.alloc (.cells #[.string ⟨#[122]⟩] 9)=wE:=⟨_,rfl⟩
 obtain ⟨fa,hnE,hbE⟩:=Qz.out.row1 hgE hwE (by decide)
 have Xn:=Qa (Qe.out.below hbE)
 have Xo:=Qa ((hbE.block g7 (Qz.out.lt (.inr rfl))).trans Xm.out)
 have Qf:=Qa (aw_bg Qh.out)
 have Q2:=Qa (deepE_any (cap:=1) (W:=3) fa hnE (by decide) (by decide) (by have:=HT.out;simp only [List.length_cons,List.length_nil];omega) (by rw [Qb.out];exact Qf.out.kind2) (by rw [Qb.out];exact Qf.out.l2) Qf.out.out (by rw [Qg.out];rfl) (by rw [Qb.out];decide) (by rw [Qb.out,Qg.out];decide)
  (fun v er S' h=>by rw [Qb.out,Qi.out,Qg.out] at h;rw [(aw_deep Qh.out h).1];decide))
 rw [Qb.out,Qi.out,Qg.out] at Q2
 clear fa hnE hbE Qz Xl Qe Xm
 go_wp2_with fail
 try rw [hwE]
 try rw [hgE]
 clear hwE hgE k4
 refine Q2.out.mono ?_
 rintro _ wF ⟨v,er,S3,rfl,hzF,hsF,hur⟩
 obtain ⟨rfl,-⟩:=aw_deep Qh.out hur
 have Xr:=Qa (Xn.out.same (hsF g3 (.inl (.inl (.inr rfl)))))
 have kb:=(hsF g7 (.inl (.inr rfl))).trans Xo.out
 have pb:=bl.Row.conv (w:=wF) (lo:=0) (n:=2) (c:=2) (A:=some ⟨g7,0,none⟩) (f:=fun j=>(aL.ino 3).body.dat ((0:Int).toNat+j)) ⟨rfl,.inr ⟨g7,Nat.zero_le _,rfl,kb⟩⟩
 have mb:bl.strF 2 (fun j=>(aL.ino 3).body.dat ((0:Int).toNat+j))=zxy:=by
  have e:(fun j=>(aL.ino 3).body.dat ((0:Int).toNat+j))=(aL.ino 3).body.dat:=funext fun j=>by simp
  rw [e];exact aw_text
 rw [mb] at pb
 have Xs:=Qa (HF.out wF (bel_step Xp.out hzF.bel))
 obtain ⟨t0,t1⟩:=Xr.out
 clear hzF hsF hur kb mb Q2 Xn Xo
 go_wp2_with fail
 exact Xs.out
end cu
namespace cu
open Go.RowKit Go.Deep
open br (BS Ino Inv at_nat abE nameE fresh)
open bl (Pq Only U8 AB)
open mg (bel_step bel_alloc)
open fl (Ln LR)
def Few (l:List Ln):Prop:=l.length≤41∧∀x∈l,x.data.size≤65536
def SmallE (w:World) (upper lower:List Ln) (e:Ending) (w':World):Prop:=∃b:Bool,e=.returned (.bool b)∧Below w.heap.size w w'∧(b=true→Few upper∧Few lower)
theorem small_any {w:World} {A B:Option Addr} {upper lower:List Ln} {c1 c2:Nat} (hu:LR w w.heap.size A upper) (hl:LR w w.heap.size B lower) (hnu:upper.length≤maxLen) (hnl:lower.length≤maxLen) (hzu:∀x∈upper,x.path.size≤maxLen∧x.data.size≤maxLen) (hzl:∀x∈lower,x.path.size≤maxLen∧x.data.size≤maxLen) :
  Calls Tryz.prog 45 #[.slice A upper.length c1,.slice B lower.length c2,.slice none 0 0] w (SmallE w upper lower):=by
 have HF:=Qa (show ∀W:World,Below w.heap.size w W→SmallE w upper lower (.returned (.bool false)) W from fun W h=>⟨false,rfl,h,fun e=>nomatch e⟩)
 have HT:=Qa (show ∀W:World,Below w.heap.size w W→Few upper→Few lower→SmallE w upper lower (.returned (.bool true)) W from fun W h a b=>⟨true,rfl,h,fun _=>⟨a,b⟩⟩)
 obtain ⟨PQ,hPQ⟩:∃P,SmallE w upper lower=P:=⟨_,rfl⟩
 rw [hPQ] at HF HT ⊢
 obtain ⟨nu,hnu2⟩:∃n,upper.length=n:=⟨_,rfl⟩
 obtain ⟨nl,hnl2⟩:∃n,lower.length=n:=⟨_,rfl⟩
 have Qd:=Qa hnu2
 have Qe:=Qa hnl2
 have Qh:=Qa hu
 have Qj:=Qa hl
 have Qi:=Qa hzu
 have Qk:=Qa hzl
 rw [hnu2] at hnu ⊢
 rw [hnl2] at hnl ⊢
 have Ql:=Qa hnu
 have Qq:=Qa hnl
 clear hu hl hzu hzl hPQ hnu2 hnl2 hnu hnl
 go_enter Tryz.func45,Tryz.ntmps45
 go_upto_region 3 with fail
 go_loopg [7,8,13] nu (fun gh s7 s8 s13 wr=>∃(j v:Nat),gh+j=nu∧s13=.int .i64 (j:Int)∧s7=.int .i64 (v:Int)∧v≤65536∧Hid (Below w.heap.size w wr)∧Hid (j≤41∧∀i,∀x,i<j→upper[i]?=some x→x.data.size≤65536))
 case atStart=>exact ⟨0,0,by omega,rfl,rfl,by omega,Qa (Below.refl _ _),Qa ⟨by omega,fun i x h=>by omega⟩⟩
 case round =>
  obtain ⟨j,v,hgj,rfl,rfl,hv,HB,HJ⟩:=hrel
  by_cases hj:j<nu
  ·obtain ⟨x,hx⟩:∃x,upper[j]?=some x:=⟨upper[j]'(by rw [Qd.out];exact hj),List.getElem?_eq_getElem _⟩
   obtain ⟨b,off,hA,hbB,k0,-,k2⟩:=(Qh.out.same fun b hb=>HB.out.block b hb) j x hx
   subst hA
   have ja:=Qi.out x (List.mem_of_getElem? hx)
   unfold maxLen at ja
   obtain ⟨p,hp⟩:∃p,x.path.size=p:=⟨_,rfl⟩
   obtain ⟨d,hd⟩:∃d,x.data.size=d:=⟨_,rfl⟩
   rw [hp,hd] at ja
   have HX:=Qa hx
   have HD:=Qa hd
   obtain ⟨xp,xk,xd⟩:=x
   dsimp only at k0 k2 hp hd
   have mb:j≤41:=HJ.out.1
   obtain ⟨md,ma⟩:∃m:Nat,min d 262144=m:=⟨_,rfl⟩
   obtain ⟨mp,qa⟩:∃m:Nat,min p 262144=m:=⟨_,rfl⟩
   obtain ⟨sm,xa⟩:∃m:Nat,md+mp=m:=⟨_,rfl⟩
   obtain ⟨v',hv'⟩:∃m:Nat,v+sm=m:=⟨_,rfl⟩
   have ga:min (d:Int) 262144=(md:Int):=by omega
   have sa:min (p:Int) 262144=(mp:Int):=by omega
   have la:IntKind.i64.wrap ((md:Int)+(mp:Int))=(sm:Int):=by rw [IntWalk.i64_in _ (by omega)];omega
   have ba:IntKind.i64.wrap ((v:Int)+(sm:Int))=(v':Int):=by rw [IntWalk.i64_in _ (by omega)];omega
   have Qf:=Qa (And.intro ma (And.intro qa (And.intro xa hv')))
   have Qb:=Qa (And.intro hj hgj)
   clear ma qa xa hv' ja
   go_upto_region 5 with fail
   have S0:wr.drew.cell? ⟨b,off+j*3,none⟩=some (.string xp)∧wr.drew.cell? ⟨b,off+j*3+2,none⟩=some (.string xd):=⟨k0,k2⟩
   clear k0 k2 hx
   go_region_held3 (fun W=>W.cell? ⟨b,off+j*3,none⟩=some (.string xp)∧W.cell? ⟨b,off+j*3+2,none⟩=some (.string xd))
    (first|with_reducible exact S0|assumption|go_keep) (fail)
   all_goals
    clear S0 la ba ga sa
    have Qc:=Qa (HF.out wr.drew HB.out.drew)
    by_cases hbad:v'≤65536∧j≤40
    ·have g1:¬(v':Int) > 65536:=by omega
     have g2:¬(j:Int) > 40:=by omega
     have ya:d≤65536:=by have:=Qf.out;omega
     have Qg:=Qa (show j+1≤41∧∀i,∀x,i<j+1→upper[i]?=some x→x.data.size≤65536 from ⟨by omega,fun i x hi hx=>by
      by_cases e:i=j
      ·subst e
       rw [HX.out] at hx
       injection hx with hx
       rw [←hx]
       exact Nat.le_trans (Nat.le_of_eq HD.out) ya
      ·exact HJ.out.2 i x (by omega) hx⟩)
     have fa:=hbad.1
     clear hbad ya
     go_wp2_with fail
     go_roundg (gk - 1)
     case measure=>have:=Qb.out;omega
     case rel=>exact ⟨j+1,v',by have:=Qb.out;omega,by go_num,rfl,fa,Qa HB.out.drew,Qg⟩
    ·by_cases h1:v'≤65536
     ·have g1:¬(v':Int) > 65536:=by omega
      have g2:(j:Int) > 40:=by omega
      clear hbad
      go_wp2_with fail
      exact Qc.out
     ·have g1:(v':Int) > 65536:=by omega
      clear hbad
      go_wp2_with fail
      exact Qc.out
  ·have da:j=nu:=by omega
   have Qm:=Qa (show Few upper from ⟨by rw [Qd.out,←da];exact HJ.out.1,fun x hx=>by
    obtain ⟨i,hi⟩:=List.mem_iff_getElem?.1 hx
    exact HJ.out.2 i x (by have:=(List.getElem?_eq_some_iff.1 hi).1;rw [Qd.out] at this;omega) hi⟩)
   have Qn:=Qa HB.out
   have jb:=hv
   clear HJ da HB hv Qd Qh Qi Ql hgj
   go_upto_region 10 with fail
   go_loopg [7,9,42] nl (fun gh s7 s9 s42 wr=>∃(j v:Nat),gh+j=nl∧s42=.int .i64 (j:Int)∧s7=.int .i64 (v:Int)∧v≤65536∧Hid (Below w.heap.size w wr)∧Hid (j≤41∧∀i,∀x,i<j→lower[i]?=some x→x.data.size≤65536))
   case atStart=>exact ⟨0,v,by omega,rfl,rfl,jb,Qn,Qa ⟨by omega,fun i x h=>by omega⟩⟩
   case round =>
    obtain ⟨j,v,hgj,rfl,rfl,hv,HB,HJ⟩:=hrel
    by_cases hj:j<nl
    ·obtain ⟨x,hx⟩:∃x,lower[j]?=some x:=⟨lower[j]'(by rw [Qe.out];exact hj),List.getElem?_eq_getElem _⟩
     obtain ⟨b,off,hA,hbB,k0,-,k2⟩:=(Qj.out.same fun b hb=>HB.out.block b hb) j x hx
     subst hA
     have ja:=Qk.out x (List.mem_of_getElem? hx)
     unfold maxLen at ja
     obtain ⟨p,hp⟩:∃p,x.path.size=p:=⟨_,rfl⟩
     obtain ⟨d,hd⟩:∃d,x.data.size=d:=⟨_,rfl⟩
     rw [hp,hd] at ja
     have HX:=Qa hx
     have HD:=Qa hd
     obtain ⟨xp,xk,xd⟩:=x
     dsimp only at k0 k2 hp hd
     have mb:j≤41:=HJ.out.1
     obtain ⟨md,ma⟩:∃m:Nat,min d 262144=m:=⟨_,rfl⟩
     obtain ⟨mp,qa⟩:∃m:Nat,min p 262144=m:=⟨_,rfl⟩
     obtain ⟨sm,xa⟩:∃m:Nat,md+mp=m:=⟨_,rfl⟩
     obtain ⟨v',hv'⟩:∃m:Nat,v+sm=m:=⟨_,rfl⟩
     have ga:min (d:Int) 262144=(md:Int):=by omega
     have sa:min (p:Int) 262144=(mp:Int):=by omega
     have la:IntKind.i64.wrap ((md:Int)+(mp:Int))=(sm:Int):=by rw [IntWalk.i64_in _ (by omega)];omega
     have ba:IntKind.i64.wrap ((v:Int)+(sm:Int))=(v':Int):=by rw [IntWalk.i64_in _ (by omega)];omega
     have Qf:=Qa (And.intro ma (And.intro qa (And.intro xa hv')))
     have Qb:=Qa (And.intro hj hgj)
     clear ma qa xa hv' ja
     go_upto_region 12 with fail
     have S0:wr.drew.cell? ⟨b,off+j*3,none⟩=some (.string xp)∧wr.drew.cell? ⟨b,off+j*3+2,none⟩=some (.string xd):=⟨k0,k2⟩
     clear k0 k2 hx
     go_region_held3 (fun W=>W.cell? ⟨b,off+j*3,none⟩=some (.string xp)∧W.cell? ⟨b,off+j*3+2,none⟩=some (.string xd))
      (first|with_reducible exact S0|assumption|go_keep) (fail)
     all_goals
      clear S0 la ba ga sa
      have Qc:=Qa (HF.out wr.drew HB.out.drew)
      by_cases hbad:v'≤65536∧j≤40
      ·have g1:¬(v':Int) > 65536:=by omega
       have g2:¬(j:Int) > 40:=by omega
       have ya:d≤65536:=by have:=Qf.out;omega
       have Qg:=Qa (show j+1≤41∧∀i,∀x,i<j+1→lower[i]?=some x→x.data.size≤65536 from ⟨by omega,fun i x hi hx=>by
        by_cases e:i=j
        ·subst e
         rw [HX.out] at hx
         injection hx with hx
         rw [←hx]
         exact Nat.le_trans (Nat.le_of_eq HD.out) ya
        ·exact HJ.out.2 i x (by omega) hx⟩)
       have fa:=hbad.1
       clear hbad ya
       go_wp2_with fail
       go_roundg (gk - 1)
       case measure=>have:=Qb.out;omega
       case rel=>exact ⟨j+1,v',by have:=Qb.out;omega,by go_num,rfl,fa,Qa HB.out.drew,Qg⟩
      ·by_cases h1:v'≤65536
       ·have g1:¬(v':Int) > 65536:=by omega
        have g2:(j:Int) > 40:=by omega
        clear hbad
        go_wp2_with fail
        exact Qc.out
       ·have g1:(v':Int) > 65536:=by omega
        clear hbad
        go_wp2_with fail
        exact Qc.out
    ·have da:j=nl:=by omega
     have Qo:=Qa (show Few lower from ⟨by rw [Qe.out,←da];exact HJ.out.1,fun x hx=>by
      obtain ⟨i,hi⟩:=List.mem_iff_getElem?.1 hx
      exact HJ.out.2 i x (by have:=(List.getElem?_eq_some_iff.1 hi).1;rw [Qe.out] at this;omega) hi⟩)
     have Qp:=Qa (HT.out wr HB.out Qm.out Qo.out)
     clear HJ da
     go_upto_region 17 with fail
     go_loopg [10] 1 (fun gh s10 wq=>wq=wr∧s10=.int .i64 0)
     case atStart=>exact ⟨rfl,rfl⟩
     case round =>
      obtain ⟨kb,rfl⟩:=hrel
      replace kb:=kb.symm
      subst kb
      go_wp2_with fail
      exact Qp.out
end cu
namespace cu
open Go.RowKit
open dn (En lget lset ldel nerr dotB Sorted)
open br (BS Ino Inv at_nat abE nameE fresh)
open bl (AB cnt)
open cb (newI)
open mg (Nd opq kindV getV rootV belV statN)
section
variable {S S' L:BS} {r r2:Nat}
theorem led_get {p:List ByteArray} {d:Int} {a c:Nd} {t:ByteArray} (hL:br.Good L r2) (hG:br.Good S r) (hd:a.1=d) (hk:S.kindOf d=2) (hl:(S.at d).links≠0) (h0:(descF L S d a p).1.2=0) :
  walkV S L a (p++[t])=walkV (descF L S d a p).2 L (descF L S d a p).1.1.2 [t]:=by
 have ma:=(desc_led hL.1 p hG hd hk hl).1 h0
 obtain ⟨g1,g2,g3,g4,g5⟩:=desc_ok (L:=L) p hG hd hk h0
 have qa:(descF L S d a p).2.kindOf (descF L S d a p).1.1.2.1=2:=g4.kind (g3.dir _ (by rw [hd];exact hk))
 rw [walkV_app]
 rcases ma with ⟨h1,h2⟩|⟨h1,h2,h3,h4⟩
 ·rw [h1,h2,Ja (by simp)]
 ·rw [h1,Ja (by simp)]
  have e:getV (descF L S d a p).2 L (descF L S d a p).1.1.2 t=getV S L (0,(descF L S d a p).1.1.2.2) t:=getV_bare t qa h3 h4 h2
  show walkV S L (0,(descF L S d a p).1.1.2.2) [t]=_
  rw [walkV_cons,walkV_cons,e]
  rfl
theorem stat_kind (B:BS) (i:Int):(B.stat i).1.1=B.kindOf i:=by
 unfold BS.stat BS.kindOf
 split <;> rfl
end
end cu
namespace cu
open Go.RowKit
open dn (En lget lset ldel nerr dotB Sorted)
open br (BS Ino Inv at_nat abE nameE fresh badKind upd_same upd_other)
open bl (AB)
open cb (newI)
open mg (Nd opq kindV getV rootV belV readN)
open fl (Ln treeF)
section
variable {S S1 S' L:BS} {r r2 room:Nat}
def Lk (S:BS):Prop:=∀k,(S.ino k).kind=3→(S.ino k).target≠⟨#[]⟩
theorem Lk.fresh:Lk fresh:=fun k h=>by
 rw [br.fresh_ino] at h
 split at h <;> exact absurd h (by decide)
theorem Lk.put (h:Lk S) (i:Int) (x:Ino) (hx:x.kind=3→x.target≠⟨#[]⟩):Lk (S.put i x):=fun k hk=>by
 unfold BS.put at hk ⊢
 dsimp only at hk ⊢
 by_cases e:k=i.toNat
 ·subst e;rw [upd_same] at hk ⊢;exact hx hk
 ·rw [upd_other _ _ e] at hk ⊢;exact h k hk
theorem Lk.make (h:Lk S) (d:Int) (s:ByteArray) (k:Int) (t:ByteArray):Lk (S.make d s k t).2:=by
 unfold BS.make
 split
 ·exact h
 ·split
  ·exact h
  ·rename_i hb
   dsimp only
   split
   ·exact h
   ·have h1:Lk (S.put (S.free 1 200:Nat) ⟨k,1,0,0,if k=2 then d else 0,abE,[],t⟩):=h.put _ _ fun hk ht=>hb (decide_eq_true (.inr (.inr (.inr ⟨hk,.inl ht⟩))))
    exact h1.put _ _ fun hk=>h1 _ hk
theorem Lk.wrote (h:Lk S) (i off:Int) (p:Nat) (f:Nat→UInt8):Lk (S.wrote i off p f):=fun k hk=>by
 unfold BS.wrote at hk ⊢
 dsimp only at hk ⊢
 by_cases e:k=i.toNat
 ·subst e;rw [upd_same] at hk ⊢;exact h _ hk
 ·rw [upd_other _ _ e] at hk ⊢;exact h k hk
theorem Lk.putF (h:Lk S) {x:Ln} (hp:fl.putF room S x=some S'):Lk S':=by
 unfold fl.putF fl.fileF fl.makeF at hp
 split at hp
 ·cases hp
 ·split at hp
  ·split at hp
   ·cases hp
   ·split at hp
    ·injection hp with hp;subst hp;exact (h.make _ _ _ _).wrote _ _ _ _
    ·cases hp
  ·split at hp
   ·split at hp
    ·cases hp
    ·injection hp with hp;subst hp;exact h.make _ _ _ _
   ·split at hp
    ·split at hp
     ·cases hp
     ·injection hp with hp;subst hp;exact h.make _ _ _ _
    ·cases hp
theorem lk_tree:∀(l:List Ln) {S L:BS},Lk S→treeF room S l=some L→Lk L
 | [],S,L,h,e=>by
  have e:some S=some L:=e
  injection e with e
  exact e▸h
 | x::l,S,L,h,e=>by
  unfold fl.treeF at e
  split at e
  ·cases e
  ·rename_i S' hp
   exact lk_tree l (h.putF hp) e
theorem descF_app:∀(p q:List ByteArray) {S:BS} {d:Int} {a:Nd},(descF L S d a p).1.2=0→descF L S d a (p++q)=descF L (descF L S d a p).2 (descF L S d a p).1.1.1 (descF L S d a p).1.1.2 q
 | [],q,S,d,a,h=>rfl
 | t::p,q,S,d,a,h=>by
  rw [descF_cons] at h ⊢
  rw [List.cons_append,descF_cons]
  by_cases h0:(enterF S L d a t).1.2≠0
  ·rw [Jb h0] at h;exact absurd h h0
  ·rw [Ja h0] at h ⊢
   rw [Ja h0]
   exact descF_app p q h
theorem Ch.snoc {a b c:Nd} {p:List ByteArray} {t:ByteArray} (h:Ch S L a p b):getV S L b t=(c,0)→c.1≠0→S.kindOf c.1=2→Ch S L a (p++[t]) c:=by
 induction h with
 | nil=>exact fun h1 h2 h3=>.cons h1 h2 h3 .nil
 | cons g1 g2 g3 _ ih=>exact fun h1 h2 h3=>.cons g1 g2 g3 (ih h1 h2 h3)
theorem Ch.split {c:Nd} {t:ByteArray}:∀ {p:List ByteArray} {a:Nd},Ch S L a (p++[t]) c→∃b,Ch S L a p b∧getV S L b t=(c,0)∧c.1≠0∧S.kindOf c.1=2
 | [],a,h=>by
  cases h with
  | cons h1 h2 h3 h4=>cases h4;exact ⟨a,.nil,h1,h2,h3⟩
 | s::p,a,h=>by
  rw [List.cons_append] at h
  cases h with
  | cons h1 h2 h3 h4 =>
   obtain ⟨b,k1,k2⟩:=Ch.split h4
   exact ⟨b,.cons h1 h2 h3 k1,k2⟩
theorem desc_bg (hL:br.Good L r2):∀(p:List ByteArray) {S:BS} {d:Int} {a:Nd},br.Good S room→a.1=d→S.kindOf d=2→(S.at d).links≠0→d≠1→d≠3→Bg S→Bg (descF L S d a p).2
 | [],S,d,a,hG,hd,hk,hl,h1,h2,hB=>hB
 | t::p,S,d,a,hG,hd,hk,hl,h1,h2,hB=>by
  rw [descF_cons]
  by_cases h0:(enterF S L d a t).1.2=0
  case neg=>rw [Jb h0,(enter_no hG hL.1 hd hk hl h0).1];exact hB
  rw [Ja (by simpa using h0)]
  obtain ⟨g1,g2,g3,g4,g5,g6⟩:=enter_ok hG hd hk h0
  have hn:=kind_ne g2
  rcases g6 with ⟨a1,a2⟩|⟨a1,a2,D,n,rfl,a4,a5⟩
  ·rw [a2] at g1 g2 ⊢
   have h9:=getV_up a1 hn
   have ma:=got_links (S:=S) (d:=a.1) (t:=t) hG.1 (by rw [h9];exact hn)
   have hc:=child_out hG.1 hB.out (d:=a.1) (t:=t) (by rw [hd];exact h1) (by rw [h9];exact hn)
   rw [h9] at ma hc
   exact desc_bg hL p g1 rfl g2 ma hc.1 hc.2 hB
  ·have hb:=(new_bare a5).2.2
   have qa:(n:Int)≠1:=fun e=>by
    have:n=1:=by omega
    have h3:=a5.hz
    rw [this,hG.1.root.1] at h3;cases h3
   have ja:(n:Int)≠3:=fun e=>by
    have:n=3:=by omega
    have h3:=a5.hz
    rw [this,hB.out.kind] at h3;cases h3
   exact desc_bg hL p g1 rfl g2 (by rw [a4];exact hb) (by rw [a4];exact qa) (by rw [a4];exact ja) (a5.bg (fun e=>h2 (by omega)) (by show (1:Int)≤1;decide) hB)
theorem one_link (hB:Bg S) (hI:Inv S room) {i:Int} (h:(S.at i).links≠0):(S.at i).links=1:=by
 unfold BS.at at *
 have h1:=hB.one i.toNat
 have h2:=(hI.nums i.toNat).1
 omega
theorem getV_low0 {a c:Nd} {t:ByteArray} (h:getV S L a t=(c,0)) (h1:c.1≠0) (h2:S.kindOf c.1≠2):c.2=0:=by
 unfold mg.getV at h
 split at h
 ·injection h with h _;exact absurd (by rw [←h]) h1
 ·split at h
  ·injection h with h _;exact absurd (by rw [←h]) h1
  ·injection h with h _
   unfold mg.seenV at h
   split at h
   ·split at h <;> exact absurd (by rw [←h]) h1
   ·split at h
    ·exact absurd (by rw [←h]) h1
    ·split at h
     ·rename_i e;rw [h] at e;exact absurd e.1 h2
     ·rw [←h]
def Like (x y:Ino):Prop:=x.kind=y.kind∧x.body.size=y.body.size∧x.body.dat=y.body.dat∧x.target=y.target
theorem Like.dir (hI:Inv S room) (hI2:Inv S' r) {i j:Int} (h:(S.at i).kind=2) (h2:(S'.at j).kind=2):Like (S.at i) (S'.at j):=by
 unfold BS.at at *
 have n1:¬((2:Int)=1):=by decide
 have n3:¬((2:Int)=3):=by decide
 refine ⟨h.trans h2.symm,?_,?_,?_⟩
 ·rw [hI.noBody _ (by rw [h];exact n1),hI2.noBody _ (by rw [h2];exact n1)]
 ·rw [hI.noBody _ (by rw [h];exact n1),hI2.noBody _ (by rw [h2];exact n1)]
 ·rw [hI.noTarget _ (by rw [h];exact n3),hI2.noTarget _ (by rw [h2];exact n3)]
structure Cop (S L:BS) (n:Nd) (S':BS) (v:Int):Prop where
 like:Like (S'.at v) ((readN S L n).1.at (readN S L n).2)
 k1:S'.kindOf v≠0
 k4:S'.kindOf v≠4
 b:(readN S L n).1.kindOf (readN S L n).2≠0
 one:(S'.at v).links=1
theorem kindOf_at {i:Int} (h:S.kindOf i≠0):S.kindOf i=(S.at i).kind∧S.isI i=true:=by
 unfold BS.kindOf at h ⊢
 by_cases e:S.isI i=true
 ·rw [Jb e];exact ⟨rfl,e⟩
 ·rw [Ja e] at h;exact absurd rfl h
theorem up_again {l v y v2 er2:Int} {S2:BS} {p:List ByteArray} {t:ByteArray} {a:Nd} (hu:S'.kindOf 2=2) (hc:Ch S' L (rootV S' L 2 l) p a) (hg:getV S' L a t=((v,y),0)) (hv:v≠0) (h:UpR r S' L 2 l 3 (p++[t]) v2 er2 S2) :
  v2=v∧er2=0∧S2=S':=by
 have hr:(rootV S' L 2 l).1=2:=root_up hu
 have ha:=hc.again
 rw [hr] at ha
 rcases h with ⟨h,_⟩|⟨p2,t2,d,a2,e1,S1,hp,hd,h⟩
 ·exact absurd h (by simp)
 obtain ⟨rfl,ht⟩:=List.append_inj' hp rfl
 injection ht with ht _
 subst ht
 rw [ha] at hd
 injection hd with hd h3
 injection hd with hd h2
 injection hd with hd h1
 subst h1 h2 h3
 rw [hg] at h
 dsimp only at h
 rcases h with ⟨h,_⟩|⟨_,h,_⟩|⟨_,_,hk,x,h⟩|⟨_,_,_,_,h1,h2,h3⟩|⟨Y,_,h,_⟩|⟨Y,_,h,_⟩
 ·exact absurd rfl h
 ·exact absurd rfl h
 ·have h2:=kindV_two hk hv
  have h3:=(hc.snoc hg hv h2).again
  rw [hr,h] at h3
  injection h3 with h3 h4
  injection h3 with h3 h5
  injection h3 with h3 h6
  exact ⟨h3,h5,h4⟩
 ·exact ⟨h1,h2,h3⟩
 ·injection h with h _;injection h with h _;exact absurd h hv
 ·injection h with h _;injection h with h _;exact absurd h hv
end
end cu
namespace cu
open Go.RowKit
open dn (En lget lset ldel nerr dotB Sorted)
open br (BS Ino Inv at_nat abE nameE fresh badKind upd_same upd_other)
open bl (AB)
open cb (newI)
open mg (Nd opq kindV getV rootV belV readN)
section
variable {S S1 S' L:BS} {r r2 room:Nat}
theorem readN_low {y:Int}:readN S L (0,y)=(L,y):=by unfold mg.readN;rw [Ja (by simp)]
theorem readN_up {c:Nd} (h:c.1≠0):readN S L c=(S,c.1):=by unfold mg.readN;rw [Jb h]
theorem made_cop {D n Y:Nat} {t:ByteArray} {x:Ino} (hG:br.Good S1 r) (hm:Mk S1 S' D n t x) (y1:1≤Y) (y2:Y≤200) (hl:Like x (L.ino Y)) (h0:x.kind≠0) (h4:x.kind≠4) (h1:x.links=1):Cop S L (0,(Y:Int)) S' (n:Int):=by
 have hk:=hm.kindN h0
 refine ⟨?_,by rw [hk];exact h0,by rw [hk];exact h4,?_,?_⟩
 ·rw [readN_low]
  show Like (S'.at (n:Int)) (L.at (Y:Int))
  rw [at_nat,at_nat,hm.eN];exact hl
 ·rw [readN_low]
  show L.kindOf (Y:Int)≠0
  unfold BS.kindOf BS.isI
  rw [at_nat,decide_eq_true ⟨by omega,by omega,by rw [←hl.1];exact h0⟩,←hl.1]
  exact h0
 ·rw [at_nat,hm.eN];exact h1
theorem up_says {l:Int} {names:List ByteArray} {v er:Int} (hG:br.Good S r) (hL:br.Good L r2) (hB:Bg S) (hLk:Lk L) (h:UpR r S L 2 l 3 names v er S') :
  (er≠0→v=0∧((names=[]∧er=22)∨er=28∨(walkV S L (rootV S L 2 l) names).2=er)) ∧
  (er=0→∃(n:Nd) (y:Int),walkV S L (rootV S L 2 l) names=(n,0)∧Cop S L n S' v∧Bg S'∧walkV S' L (rootV S' L 2 l) names=((v,y),0)∧(S'.kindOf v≠2→y=0) ∧
   ∀v2 er2 S2,UpR r S' L 2 l 3 names v2 er2 S2→v2=v∧er2=0∧S2=S'):=by
 have hu:S.kindOf 2=2:=by
  have:=hB.k2
  unfold BS.kindOf BS.isI
  rw [show (2:Int)=((2:Nat):Int) from rfl,at_nat,decide_eq_true ⟨by decide,by decide,by rw [this];decide⟩,this];rfl
 have rb:(S.at 2).links≠0:=hB.l2
 rcases h with ⟨h1,h2,h3,_⟩|⟨p,t,d,a,e1,S1,hp,hd,h⟩
 ·exact ⟨fun _=>⟨h2,.inl ⟨h1,h3⟩⟩,fun h=>absurd (h3.symm.trans h) (by decide)⟩
 subst hp
 have qa:=desc_led hL.1 p (a:=rootV S L 2 l) hG (root_up hu) hu rb
 have kb:=led_get (p:=p) (d:=2) (a:=rootV S L 2 l) (c:=(0,0)) (t:=t) hL hG (root_up hu) hu rb
 have mc:=desc_ok (L:=L) p (d:=2) (a:=rootV S L 2 l) hG (root_up hu) hu
 have xa:=desc_bg hL p (a:=rootV S L 2 l) hG (root_up hu) hu rb (by decide) (by decide) hB
 have sa:=desc_out (W:=3) hL.1 p (a:=rootV S L 2 l) hG (root_up hu) hu rb (by decide) (by decide) hB.out
 rw [hd] at qa kb mc xa sa
 dsimp only at qa kb mc xa sa
 by_cases he1:e1=0
 case neg =>
  rcases h with ⟨_,h1,h2,_⟩|⟨h,_⟩|⟨h,_⟩|⟨h,_⟩|⟨Y,h,_⟩|⟨Y,h,_⟩
  ·refine ⟨fun _=>⟨h1,.inr ?_⟩,fun h=>absurd (h2.symm.trans h) he1⟩
   rw [h2]
   exact (qa.2 he1).imp id fun h=>h t
  all_goals exact absurd h he1
 subst he1
 obtain ⟨g1,g2,g3,g4,g5⟩:=mc rfl
 obtain ⟨o1,o2,o3,o4⟩:=sa rfl
 have qa:=qa.1 rfl
 have kb:=kb rfl
 have ja:S1.kindOf 2=2:=g3.dir 2 hu
 have la:rootV S1 L 2 l=rootV S L 2 l:=g3.root hu
 have yd:S1.kindOf a.1=2:=g4.kind (by rw [root_up hu];exact ja)
 have pb:∀c:Nd,getV S1 L a t=(c,0)→walkV S L (rootV S L 2 l) (p++[t])=(c,0):=fun c h=>by rw [kb,walkV_cons,h];rfl
 have jc:∀c:Nd,getV S1 L a t=(c,0)→c.1≠0→S1=S:=fun c h hc=>by
  rcases qa with ⟨_,h2⟩|⟨_,_,h3,_⟩
  ·exact h2
  ·exact absurd (getV_up h hc).symm (by rw [h3];exact hc)
 rcases h with ⟨h,_⟩|⟨_,h1,h2,h3,_⟩|⟨_,h1,h2,x,h3⟩|⟨_,h1,h2,h3,h4,h5,h6⟩|⟨Y,_,h1,y1,y2,h2,hv,h3⟩|⟨Y,_,h1,y1,y2,h2,hv,h3⟩
 ·exact absurd rfl h
 ·refine ⟨fun _=>⟨h2,.inr (.inr ?_)⟩,fun h=>absurd (h3.symm.trans h) h1⟩
  rw [kb,walkV_no h1,h3]
 ·-- a directory
  obtain ⟨c,hc⟩:∃c,(getV S1 L a t).1=c:=⟨_,rfl⟩
  have ya:getV S1 L a t=(c,0):=Prod.ext hc h1
  rw [hc] at h2
  have pc:=g4.again
  rw [root_up hu] at pc
  have ma:=descF_app (L:=L) p [t] (S:=S1) (d:=2) (a:=rootV S1 L 2 l) (by rw [la,pc])
  rw [h3,la,pc] at ma
  dsimp only at ma
  rw [descF_cons] at ma
  by_cases h0:(enterF S1 L a.1 a t).1.2=0
  case neg =>
   rw [Jb h0] at ma
   injection ma with ma _
   injection ma with ma e2
   injection ma with ma _
   refine ⟨fun _=>⟨ma,.inr (.inl ?_)⟩,fun h=>absurd (e2.symm.trans h) h0⟩
   rw [e2]
   rcases (enter_no g1 hL.1 rfl yd (by rw [g2];exact o1) h0).2 with h|⟨h,_⟩|⟨_,_,h⟩
   ·exact h
   ·exact absurd h1 h
   ·rw [hc] at h;exact absurd h2 h
  rw [Ja (by simpa using h0)] at ma
  injection ma with ma _
  injection ma with ma e2
  have e2:er=0:=e2
  subst e2
  refine ⟨fun h=>absurd rfl h,fun _=>?_⟩
  obtain ⟨k1,k2,k3,k4,_⟩:=desc_ok (L:=L) (p++[t]) (d:=2) (a:=rootV S1 L 2 l) g1 (by rw [la];exact root_up hu) ja (by rw [h3])
  have fb:=desc_bg hL (p++[t]) (a:=rootV S1 L 2 l) g1 (by rw [la];exact root_up hu) ja xa.l2 (by decide) (by decide) xa
  rw [h3] at k1 k2 k3 k4 fb
  dsimp only at k1 k2 k3 k4 fb
  have fc:rootV S' L 2 l=rootV S1 L 2 l:=k3.root ja
  obtain ⟨b,c1,c2,c3,c4⟩:=k4.split
  have hx:x=(v,x.2):=Prod.ext k2 rfl
  have vd:v≠0:=by rw [←k2];exact c3
  have mb:S'.kindOf v=2:=by rw [←k2];exact c4
  have qd:=(kindOf_at (by rw [mb];decide)).1
  refine ⟨c,x.2,pb c ya,⟨?_,by rw [mb];decide,by rw [mb];decide,?_,?_⟩,fb,?_,fun h=>absurd mb h,fun v2 er2 S2 h=>?_⟩
  ·by_cases e:c.1=0
   ·have e9:c=(0,c.2):=Prod.ext e rfl
    have da:=kindV_dir h2 e
    rw [e9,readN_low]
    exact Like.dir k1.1 hL.1 (qd.symm.trans mb) ((kindOf_at (by rw [da];decide)).1.symm.trans da)
   ·have da:=kindV_two h2 e
    rw [jc c ya e] at da
    rw [readN_up e]
    exact Like.dir k1.1 hG.1 (qd.symm.trans mb) ((kindOf_at (by rw [da];decide)).1.symm.trans da)
  ·by_cases e:c.1=0
   ·have e9:c=(0,c.2):=Prod.ext e rfl
    have da:=kindV_dir h2 e
    rw [e9,readN_low]
    show L.kindOf c.2≠0
    rw [da];decide
   ·have da:=kindV_two h2 e
    rw [jc c ya e] at da
    rw [readN_up e]
    show S.kindOf c.1≠0
    rw [da];decide
  ·have h9:=getV_up c2 c3
   have:=got_links (S:=S') (d:=b.1) (t:=t) k1.1 (by rw [h9];exact c3)
   rw [h9,k2] at this
   exact one_link fb k1.1 this
  ·rw [fc,k4.walk,←hx]
  ·refine up_again (k3.dir 2 ja) (a:=b) (y:=x.2) (by rw [fc];exact c1) (by rw [←hx];exact c2) vd h
 ·-- there already
  obtain ⟨c,hc⟩:∃c,(getV S1 L a t).1=c:=⟨_,rfl⟩
  have ya:getV S1 L a t=(c,0):=Prod.ext hc h1
  rw [hc] at h2 h3 h4
  have hS:=jc c ya h3
  subst h4 h5 h6 hS
  have jb:=got_kind g1.1 hL.1 ya
  have kc:S'.kindOf c.1≠0∧S'.kindOf c.1≠4∧S'.kindOf c.1≠2:=by
   unfold mg.kindV at jb h2
   simp only [Jb h3] at jb h2
   by_cases e:S'.kindOf c.1=4
   ·rw [Jb e] at jb;exact absurd rfl jb
   ·rw [Ja e] at jb h2;exact ⟨jb,e,h2⟩
  have hy:=getV_low0 ya h3 kc.2.2
  refine ⟨fun h=>absurd rfl h,fun _=>⟨c,0,pb c ya,⟨?_,kc.1,kc.2.1,?_,?_⟩,xa,?_,fun _=>rfl,fun v2 er2 S2 h=>?_⟩⟩
  ·rw [readN_up h3];exact ⟨rfl,rfl,rfl,rfl⟩
  ·rw [readN_up h3];exact kc.1
  ·have h9:=getV_up ya h3
   have:=got_links (S:=S') (d:=a.1) (t:=t) g1.1 (by rw [h9];exact h3)
   rw [h9] at this
   exact one_link xa g1.1 this
  ·rw [pb c ya];exact congrArg (fun z:Nd=>(z,(0:Int))) (Prod.ext rfl hy)
  ·exact up_again ja (a:=a) (y:=0) (by rw [la];exact g4) (by rw [ya];exact congrArg (fun z:Nd=>(z,(0:Int))) (Prod.ext rfl hy)) h3 h
 ·-- a link
  have gd:badKind 3 (L.ino Y).target=false:=by
   unfold br.badKind
   refine decide_eq_false ?_
   have h6:=hLk Y h2
   have h7:=hL.1.target Y
   rintro (h|h|⟨h,_⟩|⟨_,h|h⟩)
   ·exact absurd h (by decide)
   ·exact absurd h (by decide)
   ·exact h rfl
   ·exact h6 h
   ·omega
  have ga:=make_full (d:=d) (s:=t) hv gd
  rw [h3] at ga
  dsimp only at ga
  by_cases e0:er=0
  case neg =>
   have jd:=make_no (S:=S1) (d:=d) (s:=t) (kind:=3) (t:=(L.ino Y).target) (by rw [h3];exact e0)
   rw [h3] at jd
   exact ⟨fun _=>⟨jd.2,.inr (.inl (ga.resolve_left e0))⟩,fun h=>absurd h e0⟩
  subst e0
  obtain ⟨D,n,rfl,e2,hm,_,_⟩:=mk_of g1 (d:=d) (s:=t) (kind:=3) (t:=(L.ino Y).target) (by rw [h3])
  rw [h3] at e2 hm
  dsimp only at e2 hm
  subst e2
  have hz:(newI 3 (D:Int) (L.ino Y).target).kind≠0:=by show (3:Int)≠0;decide
  have ba:=hm.grow (L:=L) g1.1
  have fa:Cop S L (0,(Y:Int)) S' (n:Int):=made_cop g1 hm y1 y2 ⟨h2.symm,by rw [hL.1.noBody Y (by rw [h2];decide)];rfl,by rw [hL.1.noBody Y (by rw [h2];decide)];rfl,rfl⟩ hz (by show (3:Int)≠4;decide) rfl
  have ea:a=((D:Int),a.2):=Prod.ext g2 rfl
  have xb:getV S' L a t=(((n:Int),0),0):=by
   rw [ea,hm.getV_now g1.1 hz rfl,Ja (show ¬(newI 3 (D:Int) (L.ino Y).target).kind=4 by show ¬((3:Int)=4);decide),Ja (show ¬((newI 3 (D:Int) (L.ino Y).target).kind=2∧_) from fun e=>absurd (show (3:Int)=2 from e.1) (by decide))]
  have xc:rootV S' L 2 l=rootV S L 2 l:=(ba.root ja).trans la
  have yb:Ch S' L (rootV S' L 2 l) p a:=by rw [xc];exact g4.grow ba (by rw [root_up hu];exact ja)
  refine ⟨fun h=>absurd rfl h,fun _=>⟨_,0,pb _ h1,fa,hm.bg (fun e=>o3 (by rw [e])) (by show (1:Int)≤1;decide) xa,?_,fun _=>rfl,fun v2 er2 S2 h=>up_again (ba.dir 2 ja) yb xb (by have:=hm.n1;omega) h⟩⟩
  rw [walkV_app,yb.walk,Ja (by simp),walkV_cons,xb];rfl
 ·-- a file
  rcases h3 with ⟨rfl,D,n,rfl,rfl,hm⟩|⟨e0,h5,h6,h7⟩
  case inr =>
   refine ⟨fun _=>⟨h5,.inr (.inl ?_)⟩,fun h=>absurd h e0⟩
   rcases h7 with ⟨h7,_⟩|h7
   ·exact h7
   ·have sd:S1.kindOf 3=2:=by
     have:=xa.out.kind
     unfold BS.kindOf BS.isI
     rw [show (3:Int)=((3:Nat):Int) from rfl,at_nat,decide_eq_true ⟨by decide,by decide,by rw [this];decide⟩,this];rfl
    have yc:(S1.get 3 draft).1=0:=by
     have ld:(S1.at 3).dir=[]:=xa.d3
     unfold BS.get
     split
     ·rfl
     ·rw [ld];rfl
    have bc:=vac_of g1.1 sd (by exact xa.l3) yc (by decide +kernel)
    rcases make_full (S:=S1) (d:=3) (s:=draft) (kind:=1) (t:=⟨#[]⟩) bc (by decide) with h|h
    ·exact absurd (h7.trans h) e0
    ·exact h7.trans h
  have hz:(fileI (copyB (L.ino Y).body)).kind≠0:=by show (1:Int)≠0;decide
  have ba:=hm.grow (L:=L) g1.1
  have fa:Cop S L (0,(Y:Int)) S' (n:Int):=made_cop g1 hm y1 y2 ⟨h2.symm,rfl,rfl,(hL.1.noTarget Y (by rw [h2];decide)).symm⟩ hz (by show (1:Int)≠4;decide) rfl
  have ea:a=((D:Int),a.2):=Prod.ext g2 rfl
  have xb:getV S' L a t=(((n:Int),0),0):=by
   rw [ea,hm.getV_now g1.1 hz rfl,Ja (show ¬(fileI (copyB (L.ino Y).body)).kind=4 by show ¬((1:Int)=4);decide),Ja (show ¬((fileI (copyB (L.ino Y).body)).kind=2∧_) from fun e=>absurd (show (1:Int)=2 from e.1) (by decide))]
  have xc:rootV S' L 2 l=rootV S L 2 l:=(ba.root ja).trans la
  have yb:Ch S' L (rootV S' L 2 l) p a:=by rw [xc];exact g4.grow ba (by rw [root_up hu];exact ja)
  refine ⟨fun h=>absurd rfl h,fun _=>⟨_,0,pb _ h1,fa,hm.bg (fun e=>o3 (by rw [e])) (by show (1:Int)≤1;decide) xa,?_,fun _=>rfl,fun v2 er2 S2 h=>up_again (ba.dir 2 ja) yb xb (by have:=hm.n1;omega) h⟩⟩
  rw [walkV_app,yb.walk,Ja (by simp),walkV_cons,xb];rfl
end
end cu
namespace cu
open Go.RowKit Go.Deep
open br (BS Ino Inv at_nat abE fresh)
open cb (BrX RetW RetI No KB KD Res HB Stab NxR Same WrI Wz sF)
open bl (Pq Only AB U8)
open mg (bel_step bel_alloc)
open fl (Ln LR treeF)
theorem begin_bad {w:World} {A B:Option Addr} {lower:List Ln} {m c1 c2:Nat} (hl:LR w w.heap.size B lower) (hnl:lower.length≤400) (hdl:∀x∈lower,x.data.size≤1000000) {room:Int} (hr:room<0∨65536<room) :
  Calls Tryz.prog 46 #[.slice A m c1,.slice B lower.length c2,.int .i64 room] w (fun e w'=>e=.returned (.tuple #[.pointer none,.bool false])∧Below w.heap.size w w'):=by
 have HN:=Qa (fun W=>cb.new_no room W hr)
 have HM:=Qa (fun W=>cb.rb_new_no room W hr)
 have Qb:=Qa (fun (L:List Res) (X:Nat→Prop) (W:World) (h:cb.Sys w W L X) (k:LX W X B lower)=>ctree_any (c:=c2) h k hnl hdl)
 have Qc:=Qa (fun (L:List Res) (X:Nat→Prop) (W:World) (h:cb.Sys w W L X) (k:LX W X B lower)=>rtree_any (c:=c2) h k (by omega) hdl)
 have Qd:=Qa (show ∀(W:World),Below w.heap.size w W→LX W (fun b=>b<w.heap.size) B lower from fun W hb=>(LX.of (X:=fun b=>b<w.heap.size) hl fun b hb=>hb).same fun b h=>hb.block b h)
 have Qf:=Qa (show ∀W:World,Below w.heap.size w W→(fun (e:Ending) (w':World)=>e=.returned (.tuple #[.pointer none,.bool false])∧Below w.heap.size w w') (Ending.returned (.tuple #[.pointer none,.bool false])) W from fun W a=>⟨rfl,a⟩)
 generalize (fun (e:Ending) (w':World)=>e=Ending.returned (.tuple #[.pointer none,.bool false])∧Below w.heap.size w w')=PQ at *
 obtain ⟨nl,hnl2⟩:∃n,lower.length=n:=⟨_,rfl⟩
 rw [hnl2] at Qb Qc hnl ⊢
 unfold CTreeE at Qb
 unfold RTreeE at Qc
 clear hl hdl hnl2 hr hnl
 go_enter Tryz.func46,Tryz.ntmps46
 go_wp2_with fail
 refine (HN.out w).mono ?_
 rintro _ w1 ⟨rfl,e1⟩
 replace e1:=e1.symm
 subst e1
 clear HN
 go_wp2_with fail
 refine (HM.out _).mono ?_
 rintro _ w2 ⟨rfl,e2⟩
 subst e2
 clear HM
 obtain ⟨G,hG⟩:∃g,w.heap.size=g:=⟨_,rfl⟩
 obtain ⟨w3,hw3⟩:∃w3,w.alloc (.cells #[.pointer none,.pointer none,.pointer none,.pointer none,.pointer none,.pointer none] 83)=w3:=⟨_,rfl⟩
 have ma:Below w.heap.size w w3:=by rw [←hw3];exact bel_alloc _ _
 have Qe:=Qa (show w3.heap[G]?=some (.cells #[.pointer none,.pointer none,.pointer none,.pointer none,.pointer none,.pointer none] 83 (0,0)) by rw [←hw3,←hG];exact heap_alloc_new w _)
 have H3:=Qa (show cb.Sys w w3 [] (fun b=>b<w.heap.size∨b=G) from (cb.Sys.nil (Below.refl w.heap.size w)).box ma (fun b hb=>hb.imp id fun e=>by rw [e,←hG,←hw3,World.size_alloc];omega))
 clear ma
 go_upto_region 2 with fail
 try rw [hw3]
 try rw [hG]
 clear hw3 hG
 go_wp2_with fail
 refine (Qb.out _ _ w3 H3.out ((Qd.out w3 H3.out.bel).sub fun b hb=>.inl hb)).mono ?_
 rintro e w4 ⟨qa,hc⟩
 have Qg:=Qa ((qa.block G (H3.out.lt (.inr rfl))).trans Qe.out)
 obtain ⟨v,er,LL,rfl,h4⟩:∃(v:Value) (er:Int) (LL:List Res),e=.returned (.tuple #[v,.int .i64 er])∧cb.Sys w w4 LL (fun b=>b<w.heap.size∨b=G):=by
  rcases hc with ⟨err,_,_,rfl,h4⟩|⟨P2,L,_,rfl,h4⟩
  ·exact ⟨_,_,_,rfl,h4⟩
  ·exact ⟨_,_,_,rfl,h4⟩
 have H4:=Qa h4
 clear qa hc Qe H3 Qb h4
 go_wp2_with fail
 refine (Qc.out _ _ w4 H4.out ((Qd.out w4 H4.out.bel).sub fun b hb=>.inl hb)).mono ?_
 rintro e w5 ⟨ja,hc⟩
 have Qh:=Qa ((ja G (.inr rfl)).trans Qg.out)
 obtain ⟨v5,er5,LL5,rfl,h5⟩:∃(v:Value) (er:Int) (LL:List Res),e=.returned (.tuple #[v,.int .i64 er])∧cb.Sys w w5 LL (fun b=>b<w.heap.size∨b=G):=by
  rcases hc with ⟨err,_,_,rfl,h4⟩|⟨P2,L,S,_,rfl,h4,_⟩
  ·exact ⟨_,_,_,rfl,h4⟩
  ·exact ⟨_,_,_,rfl,h4⟩
 have g0:w5.cell? ⟨G,0,none⟩=some (.pointer none):=(Lib.cell_of_heap Qh.out 0).trans rfl
 have HF:=Qa (Qf.out w5 h5.bel)
 clear ja hc h5 Qc H4
 go_wp2_with fail
 exact HF.out
end cu
end Go.Proofs.YtgoddboicjfkcaaGreat
