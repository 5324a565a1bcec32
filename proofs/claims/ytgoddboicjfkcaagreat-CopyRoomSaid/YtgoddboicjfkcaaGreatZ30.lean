/- Part 30 of what is known of the program's functions and of the document's words: contracts, and the mathematics beneath them. -/
import Derived.Test.YtgoddboicjfkcaaGreatProg
import Derived.Test.YtgoddboicjfkcaaGreatZ22
import Derived.Test.YtgoddboicjfkcaaGreatZ29
import Derived.Test.YtgoddboicjfkcaaGreatZ27
import Derived.Test.YtgoddboicjfkcaaGreatZ20
set_option linter.unusedVariables false
set_option linter.unusedSimpArgs false
set_option maxRecDepth 100000
set_option maxHeartbeats 8000000
namespace Go.Proofs.YtgoddboicjfkcaaGreat.cu
open Go.RowKit Go.Deep
open br (BS Ino Inv at_nat abE nameE fresh)
open cb (BrX RetW RetI No KB KD Res HB Stab NxR Same WrI Wz ReadI newI)
open bl (Pq Only U8 AB)
open mg (Vx Nd Nv Nb R2 R3 bel_step bel_alloc kindV getV rootV AwakeE)
open fl (Ln LR treeF)
section
variable {w0 w:World} {c:Cp} {S L:BS} {r T:Nat} {M:List Res} {X:Nat→Prop}
theorem Zs.row2 (h:Zs w0 w c S L r T M X) {w':World} {g:Nat} (hg:w.heap.size=g) {a b:ByteArray} (hw:w.alloc (.cells #[.string a,.string b] 9)=w') (ha:a.size≤9223372036854775807) (hb:b.size≤9223372036854775807) :
  Zs w0 w' c S L r T M (fun b=>X b∨b=g)∧NL w' (fun b=>X b∨b=g) (some ⟨g,0,none⟩) [a,b]∧Below w.heap.size w w':=by
 subst hg hw
 have hbel:=bel_alloc w (.cells #[.string a,.string b] 9)
 refine ⟨h.box hbel (fun b hb=>hb.imp id fun e=>by rw [e,World.size_alloc];omega) (.inl h.xC) (.inl h.xV),fun j s hj=>?_,hbel⟩
 match j,hj with
 | 0,hj=>injection hj with hj;subst hj;exact ⟨w.heap.size,0,rfl,.inr rfl,by simp,ha⟩
 | 1,hj=>injection hj with hj;subst hj;exact ⟨w.heap.size,0,rfl,.inr rfl,by simp,hb⟩
 | n+2,hj=>cases hj
theorem Zs.row1 (h:Zs w0 w c S L r T M X) {w':World} {g:Nat} (hg:w.heap.size=g) {a:ByteArray} (hw:w.alloc (.cells #[.string a] 9)=w') (ha:a.size≤9223372036854775807) :
  Zs w0 w' c S L r T M (fun b=>X b∨b=g)∧NL w' (fun b=>X b∨b=g) (some ⟨g,0,none⟩) [a]∧Below w.heap.size w w':=by
 subst hg hw
 have hbel:=bel_alloc w (.cells #[.string a] 9)
 refine ⟨h.box hbel (fun b hb=>hb.imp id fun e=>by rw [e,World.size_alloc];omega) (.inl h.xC) (.inl h.xV),fun j s hj=>?_,hbel⟩
 match j,hj with
 | 0,hj=>injection hj with hj;subst hj;exact ⟨w.heap.size,0,rfl,.inr rfl,by simp,ha⟩
 | n+1,hj=>cases hj
end
theorem awake_any (w:World):Calls Tryz.prog 44 #[] w (AwakeE w):=by
 obtain ⟨b,hb⟩:∃b,w.heap.size=b:=⟨_,rfl⟩
 obtain ⟨w1,hw1⟩:∃w1,w.alloc (.cells #[.string ⟨#[47,97]⟩,.int .i64 2,.string ⟨#[]⟩,.string ⟨#[47,97,47,98]⟩,.int .i64 1,.string ⟨#[120,121]⟩] 104)=w1:=⟨_,rfl⟩
 have hh:w1.heap[b]?=some (.cells #[.string ⟨#[47,97]⟩,.int .i64 2,.string ⟨#[]⟩,.string ⟨#[47,97,47,98]⟩,.int .i64 1,.string ⟨#[120,121]⟩] 104 (0,0)):=by rw [←hw1,←hb];exact heap_alloc_new w _
 have hb1:Below w.heap.size w w1:=by rw [←hw1];exact bel_alloc _ _
 have hbs:b<w1.heap.size:=by rw [←hw1,←hb,World.size_alloc];omega
 have hlr:LR w1 w1.heap.size (some ⟨b,0,none⟩) zl2:=fun j x hx=>by
  have c:=fun i=>Lib.cell_of_heap hh i
  match j,hx with
  | 0,hx=>injection hx with hx;subst hx;exact ⟨b,0,rfl,hbs,(c 0).trans rfl,(c 1).trans rfl,(c 2).trans rfl⟩
  | 1,hx=>injection hx with hx;subst hx;exact ⟨b,0,rfl,hbs,(c 3).trans rfl,(c 4).trans rfl,(c 5).trans rfl⟩
  | n+2,hx=>cases hx
 have Qf:=Qa (begin_any (A:=none) (c1:=0) (c2:=2) (upper:=[]) (fun j x hx=>by cases hx) hlr (by decide) (by decide) (fun x hx=>nomatch hx) (fun x hx=>by
  rcases List.mem_cons.1 hx with rfl|hx
  ·decide
  ·rcases List.mem_cons.1 hx with rfl|hx
   ·decide
   ·cases hx) (r:=9) (by decide))
 unfold BegE at Qf
 have HF:=Qa (show ∀W:World,Below w.heap.size w W→AwakeE w (.returned (.bool true)) W from fun W h=>⟨rfl,h⟩)
 obtain ⟨PQ,hPQ⟩:∃P,AwakeE w=P:=⟨_,rfl⟩
 rw [hPQ] at HF ⊢
 have Xp:=Qa hb1
 clear hh hbs hlr hb1 hPQ
 go_enter Tryz.func44,Tryz.ntmps44
 go_wp2_with fail
 try rw [hw1]
 try rw [hb]
 clear hw1 hb
 refine Qf.out.mono ?_
 rintro _ w2 (⟨-,-,hne⟩|⟨G,c,R,D1,R1,D2,R2',S,Sd,L,T,rfl,hbg,htr,hs0⟩)
 ·have:=hne (by first|rfl|trivial)
  rw [aL_is] at this;cases this
 rw [aL_is] at htr
 injection htr with htr
 subst htr
 have hs:=hs0 (by first|rfl|trivial)
 subst hs
 have HZ:=Qa hbg.z
 have Qs:=Qa hbg.bx
 have HT:=Qa hbg.T
 have Qc:=Qa (show ∀b,b=G→b<w1.heap.size∨b=G∨b=c.C∨b=c.V∨b=R from fun b h=>.inr (.inl h))
 obtain ⟨hcu,hcl,hcw⟩:c.u=2∧c.l=1∧c.wk=3:=⟨hbg.u,hbg.l,hbg.wk⟩
 have Qb:=Qa hcu
 have Qi:=Qa hcl
 have Qg:=Qa hcw
 obtain ⟨X,hX⟩:∃X:Nat→Prop,(fun b=>b<w1.heap.size∨b=G∨b=c.C∨b=c.V∨b=R)=X:=⟨_,rfl⟩
 have Qc:=Qa (show X G by rw [←hX];exact .inr (.inl rfl))
 rw [hX] at HZ
 generalize [KD w1 D1 R1 Sd 9,KD w1 D2 R2' aL 65536]=M at *
 clear hbg hs0 Qf hcu hcl hcw hX
 have k4:w2.cell? ⟨G,4,none⟩=some (Pq c.C):=(Lib.cell_of_heap Qs.out 4).trans rfl
 have Q3:=Qa (cnew_nil w2 1 1 1)
 have Q4:=Qa (view_any HZ.out)
 go_wp2_with fail
 refine Q3.out.mono ?_
 rintro _ w3 ⟨rfl,rfl⟩
 go_wp2_with fail
 refine Q4.out.mono ?_
 rintro _ w3 ⟨rfl,rfl⟩
 clear Q3 Q4
 -- Node
 obtain ⟨g1,hg1⟩:∃g,w3.heap.size=g:=⟨_,rfl⟩
 obtain ⟨w4,hw4⟩:∃w4,w3.alloc (.cells #[.string ⟨#[97]⟩,.string ⟨#[98]⟩] 9)=w4:=⟨_,rfl⟩
 obtain ⟨hz4,hn4,hb4⟩:=HZ.out.row2 hg1 hw4 (by decide) (by decide)
 have Qt:=Qa (hz4.sub (Y:=X) (fun b h=>.inl h) HZ.out.xC HZ.out.xV)
 have Qm:=Qa (node_any (cap:=2) hz4 hn4 (by decide))
 rw [Qb.out,Qi.out,aw_node] at Qm
 unfold RetW at Qm
 have Q5:=Qa ((hb4.block G (HZ.out.lt Qc.out)).trans Qs.out)
 clear hz4 hn4 hb4 HZ Qs
 go_upto_region 4 with fail
 go_wp2_with fail
 try rw [hw4]
 try rw [hg1]
 clear hw4 hg1
 refine Qm.out.mono ?_
 rintro _ w5 ⟨rfl,hb5⟩
 have Qk:=Qa (Qt.out.below hb5)
 have Q6:=Qa ((hb5.block G (Qt.out.lt Qc.out)).trans Q5.out)
 clear hb5 Qm Qt Q5 k4
 obtain ⟨g3,hg3⟩:∃g,w5.heap.size=g:=⟨_,rfl⟩
 obtain ⟨w6,hw6⟩:∃w6,w5.alloc (.cells #[.int .i64 0,.int .i64 3] 24)=w6:=⟨_,rfl⟩
 have hb6:Below w5.heap.size w5 w6:=by rw [←hw6];exact bel_alloc _ _
 have Qj:=Qa (Qk.out.box (Y:=fun b=>X b∨b=g3) hb6 (fun b hb=>hb.imp id fun e=>by rw [e,←hg3,←hw6,World.size_alloc];omega) (.inl Qk.out.xC) (.inl Qk.out.xV))
 have Qv:=Qa ((hb6.block G (Qk.out.lt Qc.out)).trans Q6.out)
 have Q7:=Qa (show R2 w6 g3 0 3 by rw [←hw6,←hg3];exact R2.new w5 0 3)
 clear hb6 Qk Q6
 go_upto_region 5 with fail
 try rw [hw6]
 try rw [hg3]
 clear hw6 hg3
 -- Up
 have k4:w6.cell? ⟨G,4,none⟩=some (Pq c.C):=(Lib.cell_of_heap Qv.out 4).trans rfl
 obtain ⟨g4,hg4⟩:∃g,w6.heap.size=g:=⟨_,rfl⟩
 obtain ⟨w7,hw7⟩:∃w7,w6.alloc (.cells #[.string ⟨#[97]⟩,.string ⟨#[98]⟩] 9)=w7:=⟨_,rfl⟩
 obtain ⟨hz7,hn7,hb7⟩:=Qj.out.row2 hg4 hw7 (by decide) (by decide)
 have Q8:=Qa ((hb7.block G (Qj.out.lt (.inl Qc.out))).trans Qv.out)
 have Q9:=Qa (Q7.out.below hb7)
 have Qd:=Qa (And.intro Qj.out.xC Qj.out.xV)
 have Qn:=Qa (up_any (cap:=2) (W:=3) hz7 hn7 (by decide) (by decide) (by have:=HT.out;omega) (by rw [Qb.out];exact Bg.start.kind2) (by rw [Qb.out];exact Bg.start.l2) Bg.start.out (by rw [Qg.out];rfl) (by rw [Qb.out];decide) (by rw [Qb.out,Qg.out];decide))
 unfold UpE at Qn
 rw [Qb.out,Qi.out,Qg.out] at Qn
 have Xq:=Qa (Qj.out.good2)
 clear hz7 hn7 hb7 Qj Qv Q7
 go_wp2_with fail
 try rw [hw7]
 try rw [hg4]
 clear hw7 hg4 k4
 refine Qn.out.mono ?_
 rintro _ w8 ⟨v,er,S',rfl,hz8,hs8,hur⟩
 obtain ⟨rfl,n,rfl,hmk⟩:=aw_up Xq.out hur
 have Qh:=Qa hmk
 have Qo:=Qa (hz8.sub (Y:=fun b=>X b∨b=g3) (fun b h=>.inl h) Qd.out.1 Qd.out.2)
 have Qw:=Qa ((hs8 G (.inl (.inl Qc.out))).trans Q8.out)
 have Xa:=Qa (Q9.out.same (hs8 g3 (.inl (.inr rfl))))
 clear hz8 hs8 hur hmk Qn Q8 Q9
 have k0:w8.cell? ⟨G,0,none⟩=some (Pq c.P1):=(Lib.cell_of_heap Qw.out 0).trans rfl
 -- Read
 have Qe:=Qa (cb.x_read Qo.out.brx1 (n:Int) 0 9)
 unfold cb.ReadI at Qe
 rw [(aw_read Qh.out).1,(aw_read Qh.out).2] at Qe
 dsimp only at Qe
 go_wp2_with fail
 refine Qe.out.mono ?_
 rintro _ w9 ⟨A,cc,rfl,hrow,hb9⟩
 obtain ⟨hcc,hrow2⟩:=hrow
 subst hcc
 obtain ⟨g7,hg7a,rfl,hg7b⟩:=hrow2.resolve_left (fun e=>absurd e.2 (by decide))
 have Qp:=Qa (Qo.out.box (Y:=fun b=>(X b∨b=g3)∨b=g7) hb9 (fun b hb=>hb.imp id fun e=>by rw [e];exact ⟨hg7a,(Array.getElem?_eq_some_iff.1 hg7b).1⟩) (.inl Qd.out.1) (.inl Qd.out.2))
 have Qx:=Qa ((hb9.block G (Qo.out.lt (.inl Qc.out))).trans Qw.out)
 have Xb:=Qa (Xa.out.below hb9)
 have Xc:=Qa hg7b
 clear hb9 hg7a hg7b hrow2 Qe Qo Qw Xa k0
 -- Hide
 have k4:w9.cell? ⟨G,4,none⟩=some (Pq c.C):=(Lib.cell_of_heap Qx.out 4).trans rfl
 obtain ⟨gA,hgA⟩:∃g,w9.heap.size=g:=⟨_,rfl⟩
 obtain ⟨wA,hwA⟩:∃wA,w9.alloc (.cells #[.string ⟨#[97]⟩,.string ⟨#[99]⟩] 9)=wA:=⟨_,rfl⟩
 obtain ⟨hzA,hnA,hbA⟩:=Qp.out.row2 hgA hwA (by decide) (by decide)
 have Xd:=Qa ((hbA.block G (Qp.out.lt (.inl (.inl Qc.out)))).trans Qx.out)
 have Xe:=Qa (Xb.out.below hbA)
 have Xf:=Qa ((hbA.block g7 (Qp.out.lt (.inr rfl))).trans Xc.out)
 have Qq:=Qa (hide_any (cap:=2) hzA hnA (by decide) (by decide) (by have:=HT.out;omega))
 unfold HideE at Qq
 rw [Qb.out,Qi.out] at Qq
 clear hzA hnA hbA Qp Qx Xb Xc
 go_wp2_with fail
 try rw [hwA]
 try rw [hgA]
 clear hwA hgA k4
 refine Qq.out.mono ?_
 rintro _ wB ⟨er,S2,rfl,hzB,hsB,hhr⟩
 obtain ⟨rfl,rfl⟩:=aw_hide Qh.out hhr
 have Qr:=Qa (hzB.sub (Y:=fun b=>(X b∨b=g3)∨b=g7) (fun b h=>.inl h) (.inl Qd.out.1) (.inl Qd.out.2))
 have Qy:=Qa ((hsB G (.inl (.inl (.inl Qc.out)))).trans Xd.out)
 have Xg:=Qa (Xe.out.same (hsB g3 (.inl (.inl (.inr rfl)))))
 have Xh:=Qa ((hsB g7 (.inl (.inr rfl))).trans Xf.out)
 clear hzB hsB hhr Qq Xd Xe Xf
 -- Chain
 have k4:wB.cell? ⟨G,4,none⟩=some (Pq c.C):=(Lib.cell_of_heap Qy.out 4).trans rfl
 obtain ⟨gC,hgC⟩:∃g,wB.heap.size=g:=⟨_,rfl⟩
 obtain ⟨wC,hwC⟩:∃wC,wB.alloc (.cells #[.string ⟨#[97]⟩] 9)=wC:=⟨_,rfl⟩
 obtain ⟨hzC,hnC,hbC⟩:=Qr.out.row1 hgC hwC (by decide)
 have Xi:=Qa ((hbC.block G (Qr.out.lt (.inl (.inl Qc.out)))).trans Qy.out)
 have Xj:=Qa (Xg.out.below hbC)
 have Xk:=Qa ((hbC.block g7 (Qr.out.lt (.inr rfl))).trans Xh.out)
 have Ql:=Qa (chain_any (cap:=1) hzC hnC (by decide) (by have:=HT.out;omega))
 unfold ChainE at Ql
 rw [Qb.out,Qi.out,aw_chain Qh.out] at Ql
 dsimp only at Ql
 clear hzC hnC hbC Qr Qy Xg Xh
 go_wp2_with fail
 try rw [hwC]
 try rw [hgC]
 clear hwC hgC k4
 refine Ql.out.mono ?_
 rintro _ wD ⟨rfl,hzD,hsD⟩
 have Qz:=Qa (hzD.sub (Y:=fun b=>(X b∨b=g3)∨b=g7) (fun b h=>.inl h) (.inl Qd.out.1) (.inl Qd.out.2))
 have Xl:=Qa ((hsD G (.inl (.inl (.inl Qc.out)))).trans Xi.out)
 have Qe:=Qa (Xj.out.same (hsD g3 (.inl (.inl (.inr rfl)))))
 have Xm:=Qa ((hsD g7 (.inl (.inr rfl))).trans Xk.out)
 clear hzD hsD Ql Xi Xj Xk
 -- Deep
 have k4:wD.cell? ⟨G,4,none⟩=some (Pq c.C):=(Lib.cell_of_heap Xl.out 4).trans rfl
 obtain ⟨gE,hgE⟩:∃g,wD.heap.size=g:=⟨_,rfl⟩
 obtain ⟨wE,hwE⟩:∃wE,wD.alloc (.cells #[.string ⟨#[122]⟩] 9)=wE:=⟨_,rfl⟩
 obtain ⟨hzE,hnE,hbE⟩:=Qz.out.row1 hgE hwE (by decide)
 have Xn:=Qa (Qe.out.below hbE)
 have Xo:=Qa ((hbE.block g7 (Qz.out.lt (.inr rfl))).trans Xm.out)
 have Qf:=Qa (aw_bg Qh.out)
 have Q2:=Qa (deepE_any (cap:=1) (W:=3) hzE hnE (by decide) (by decide) (by have:=HT.out;simp only [List.length_cons,List.length_nil];omega) (by rw [Qb.out];exact Qf.out.kind2) (by rw [Qb.out];exact Qf.out.l2) Qf.out.out (by rw [Qg.out];rfl) (by rw [Qb.out];decide) (by rw [Qb.out,Qg.out];decide)
  (fun v er S' h=>by rw [Qb.out,Qi.out,Qg.out] at h;rw [(aw_deep Qh.out h).1];decide))
 rw [Qb.out,Qi.out,Qg.out] at Q2
 clear hzE hnE hbE Qz Xl Qe Xm
 go_wp2_with fail
 try rw [hwE]
 try rw [hgE]
 clear hwE hgE k4
 refine Q2.out.mono ?_
 rintro _ wF ⟨v,er,S3,rfl,hzF,hsF,hur⟩
 obtain ⟨rfl,-⟩:=aw_deep Qh.out hur
 have Xr:=Qa (Xn.out.same (hsF g3 (.inl (.inl (.inr rfl)))))
 have hdF:=(hsF g7 (.inl (.inr rfl))).trans Xo.out
 have hcv:=bl.Row.conv (w:=wF) (lo:=0) (n:=2) (c:=2) (A:=some ⟨g7,0,none⟩) (f:=fun j=>(aL.ino 3).body.dat ((0:Int).toNat+j)) ⟨rfl,.inr ⟨g7,Nat.zero_le _,rfl,hdF⟩⟩
 have htx:bl.strF 2 (fun j=>(aL.ino 3).body.dat ((0:Int).toNat+j))=zxy:=by
  have e:(fun j=>(aL.ino 3).body.dat ((0:Int).toNat+j))=(aL.ino 3).body.dat:=funext fun j=>by simp
  rw [e];exact aw_text
 rw [htx] at hcv
 have Xs:=Qa (HF.out wF (bel_step Xp.out hzF.bel))
 obtain ⟨t0,t1⟩:=Xr.out
 clear hzF hsF hur hdF htx Q2 Xn Xo
 go_wp2_with fail
 exact Xs.out
end Go.Proofs.YtgoddboicjfkcaaGreat.cu
namespace Go.Proofs.YtgoddboicjfkcaaGreat.cu
open Go.RowKit Go.Deep
open br (BS Ino Inv at_nat abE nameE fresh)
open bl (Pq Only U8 AB)
open mg (bel_step bel_alloc)
open fl (Ln LR)
def Few (l:List Ln):Prop:=l.length≤41∧∀x∈l,x.data.size≤65536
def SmallE (w:World) (upper lower:List Ln) (e:Ending) (w':World):Prop:=∃b:Bool,e=.returned (.bool b)∧Below w.heap.size w w'∧(b=true→Few upper∧Few lower)
theorem small_any {w:World} {A B:Option Addr} {upper lower:List Ln} {c1 c2:Nat} (hu:LR w w.heap.size A upper) (hl:LR w w.heap.size B lower) (hnu:upper.length≤maxLen) (hnl:lower.length≤maxLen) (hzu:∀x∈upper,x.path.size≤maxLen∧x.data.size≤maxLen) (hzl:∀x∈lower,x.path.size≤maxLen∧x.data.size≤maxLen) :
  Calls Tryz.prog 45 #[.slice A upper.length c1,.slice B lower.length c2,.slice none 0 0] w (SmallE w upper lower):=by
 have HF:=Qa (show ∀W:World,Below w.heap.size w W→SmallE w upper lower (.returned (.bool false)) W from fun W h=>⟨false,rfl,h,fun e=>nomatch e⟩)
 have HT:=Qa (show ∀W:World,Below w.heap.size w W→Few upper→Few lower→SmallE w upper lower (.returned (.bool true)) W from fun W h a b=>⟨true,rfl,h,fun _=>⟨a,b⟩⟩)
 obtain ⟨PQ,hPQ⟩:∃P,SmallE w upper lower=P:=⟨_,rfl⟩
 rw [hPQ] at HF HT ⊢
 obtain ⟨nu,hnu2⟩:∃n,upper.length=n:=⟨_,rfl⟩
 obtain ⟨nl,hnl2⟩:∃n,lower.length=n:=⟨_,rfl⟩
 have Qd:=Qa hnu2
 have Qe:=Qa hnl2
 have Qh:=Qa hu
 have Qj:=Qa hl
 have Qi:=Qa hzu
 have Qk:=Qa hzl
 rw [hnu2] at hnu ⊢
 rw [hnl2] at hnl ⊢
 have Ql:=Qa hnu
 have Qq:=Qa hnl
 clear hu hl hzu hzl hPQ hnu2 hnl2 hnu hnl
 go_enter Tryz.func45,Tryz.ntmps45
 go_upto_region 3 with fail
 go_loopg [7,8,13] nu (fun gh s7 s8 s13 wr=>∃(j v:Nat),gh+j=nu∧s13=.int .i64 (j:Int)∧s7=.int .i64 (v:Int)∧v≤65536∧Hid (Below w.heap.size w wr)∧Hid (j≤41∧∀i,∀x,i<j→upper[i]?=some x→x.data.size≤65536))
 case atStart=>exact ⟨0,0,by omega,rfl,rfl,by omega,Qa (Below.refl _ _),Qa ⟨by omega,fun i x h=>by omega⟩⟩
 case round =>
  obtain ⟨j,v,hgj,rfl,rfl,hv,HB,HJ⟩:=hrel
  by_cases hj:j<nu
  ·obtain ⟨x,hx⟩:∃x,upper[j]?=some x:=⟨upper[j]'(by rw [Qd.out];exact hj),List.getElem?_eq_getElem _⟩
   obtain ⟨b,off,hA,hbB,k0,-,k2⟩:=(Qh.out.same fun b hb=>HB.out.block b hb) j x hx
   subst hA
   have hmx:=Qi.out x (List.mem_of_getElem? hx)
   unfold maxLen at hmx
   obtain ⟨p,hp⟩:∃p,x.path.size=p:=⟨_,rfl⟩
   obtain ⟨d,hd⟩:∃d,x.data.size=d:=⟨_,rfl⟩
   rw [hp,hd] at hmx
   have HX:=Qa hx
   have HD:=Qa hd
   obtain ⟨xp,xk,xd⟩:=x
   dsimp only at k0 k2 hp hd
   have hjm:j≤41:=HJ.out.1
   obtain ⟨md,hmd1⟩:∃m:Nat,min d 262144=m:=⟨_,rfl⟩
   obtain ⟨mp,hmp1⟩:∃m:Nat,min p 262144=m:=⟨_,rfl⟩
   obtain ⟨sm,hsm⟩:∃m:Nat,md+mp=m:=⟨_,rfl⟩
   obtain ⟨v',hv'⟩:∃m:Nat,v+sm=m:=⟨_,rfl⟩
   have hmd:min (d:Int) 262144=(md:Int):=by omega
   have hmp:min (p:Int) 262144=(mp:Int):=by omega
   have hw1:IntKind.i64.wrap ((md:Int)+(mp:Int))=(sm:Int):=by rw [IntWalk.i64_in _ (by omega)];omega
   have hw2:IntKind.i64.wrap ((v:Int)+(sm:Int))=(v':Int):=by rw [IntWalk.i64_in _ (by omega)];omega
   have Qf:=Qa (And.intro hmd1 (And.intro hmp1 (And.intro hsm hv')))
   have Qb:=Qa (And.intro hj hgj)
   clear hmd1 hmp1 hsm hv' hmx
   go_upto_region 5 with fail
   have S0:wr.drew.cell? ⟨b,off+j*3,none⟩=some (.string xp)∧wr.drew.cell? ⟨b,off+j*3+2,none⟩=some (.string xd):=⟨k0,k2⟩
   clear k0 k2 hx
   go_region_held3 (fun W=>W.cell? ⟨b,off+j*3,none⟩=some (.string xp)∧W.cell? ⟨b,off+j*3+2,none⟩=some (.string xd))
    (first|with_reducible exact S0|assumption|go_keep) (fail)
   all_goals
    clear S0 hw1 hw2 hmd hmp
    have Qc:=Qa (HF.out wr.drew HB.out.drew)
    by_cases hbad:v'≤65536∧j≤40
    ·have g1:¬(v':Int) > 65536:=by omega
     have g2:¬(j:Int) > 40:=by omega
     have hd2:d≤65536:=by have:=Qf.out;omega
     have Qg:=Qa (show j+1≤41∧∀i,∀x,i<j+1→upper[i]?=some x→x.data.size≤65536 from ⟨by omega,fun i x hi hx=>by
      by_cases e:i=j
      ·subst e
       rw [HX.out] at hx
       injection hx with hx
       rw [←hx]
       exact Nat.le_trans (Nat.le_of_eq HD.out) hd2
      ·exact HJ.out.2 i x (by omega) hx⟩)
     have hv2:=hbad.1
     clear hbad hd2
     go_wp2_with fail
     go_roundg (gk - 1)
     case measure=>have:=Qb.out;omega
     case rel=>exact ⟨j+1,v',by have:=Qb.out;omega,by go_num,rfl,hv2,Qa HB.out.drew,Qg⟩
    ·by_cases h1:v'≤65536
     ·have g1:¬(v':Int) > 65536:=by omega
      have g2:(j:Int) > 40:=by omega
      clear hbad
      go_wp2_with fail
      exact Qc.out
     ·have g1:(v':Int) > 65536:=by omega
      clear hbad
      go_wp2_with fail
      exact Qc.out
  ·have hjn:j=nu:=by omega
   have Qm:=Qa (show Few upper from ⟨by rw [Qd.out,←hjn];exact HJ.out.1,fun x hx=>by
    obtain ⟨i,hi⟩:=List.mem_iff_getElem?.1 hx
    exact HJ.out.2 i x (by have:=(List.getElem?_eq_some_iff.1 hi).1;rw [Qd.out] at this;omega) hi⟩)
   have Qn:=Qa HB.out
   have hv0:=hv
   clear HJ hjn HB hv Qd Qh Qi Ql hgj
   go_upto_region 10 with fail
   go_loopg [7,9,42] nl (fun gh s7 s9 s42 wr=>∃(j v:Nat),gh+j=nl∧s42=.int .i64 (j:Int)∧s7=.int .i64 (v:Int)∧v≤65536∧Hid (Below w.heap.size w wr)∧Hid (j≤41∧∀i,∀x,i<j→lower[i]?=some x→x.data.size≤65536))
   case atStart=>exact ⟨0,v,by omega,rfl,rfl,hv0,Qn,Qa ⟨by omega,fun i x h=>by omega⟩⟩
   case round =>
    obtain ⟨j,v,hgj,rfl,rfl,hv,HB,HJ⟩:=hrel
    by_cases hj:j<nl
    ·obtain ⟨x,hx⟩:∃x,lower[j]?=some x:=⟨lower[j]'(by rw [Qe.out];exact hj),List.getElem?_eq_getElem _⟩
     obtain ⟨b,off,hA,hbB,k0,-,k2⟩:=(Qj.out.same fun b hb=>HB.out.block b hb) j x hx
     subst hA
     have hmx:=Qk.out x (List.mem_of_getElem? hx)
     unfold maxLen at hmx
     obtain ⟨p,hp⟩:∃p,x.path.size=p:=⟨_,rfl⟩
     obtain ⟨d,hd⟩:∃d,x.data.size=d:=⟨_,rfl⟩
     rw [hp,hd] at hmx
     have HX:=Qa hx
     have HD:=Qa hd
     obtain ⟨xp,xk,xd⟩:=x
     dsimp only at k0 k2 hp hd
     have hjm:j≤41:=HJ.out.1
     obtain ⟨md,hmd1⟩:∃m:Nat,min d 262144=m:=⟨_,rfl⟩
     obtain ⟨mp,hmp1⟩:∃m:Nat,min p 262144=m:=⟨_,rfl⟩
     obtain ⟨sm,hsm⟩:∃m:Nat,md+mp=m:=⟨_,rfl⟩
     obtain ⟨v',hv'⟩:∃m:Nat,v+sm=m:=⟨_,rfl⟩
     have hmd:min (d:Int) 262144=(md:Int):=by omega
     have hmp:min (p:Int) 262144=(mp:Int):=by omega
     have hw1:IntKind.i64.wrap ((md:Int)+(mp:Int))=(sm:Int):=by rw [IntWalk.i64_in _ (by omega)];omega
     have hw2:IntKind.i64.wrap ((v:Int)+(sm:Int))=(v':Int):=by rw [IntWalk.i64_in _ (by omega)];omega
     have Qf:=Qa (And.intro hmd1 (And.intro hmp1 (And.intro hsm hv')))
     have Qb:=Qa (And.intro hj hgj)
     clear hmd1 hmp1 hsm hv' hmx
     go_upto_region 12 with fail
     have S0:wr.drew.cell? ⟨b,off+j*3,none⟩=some (.string xp)∧wr.drew.cell? ⟨b,off+j*3+2,none⟩=some (.string xd):=⟨k0,k2⟩
     clear k0 k2 hx
     go_region_held3 (fun W=>W.cell? ⟨b,off+j*3,none⟩=some (.string xp)∧W.cell? ⟨b,off+j*3+2,none⟩=some (.string xd))
      (first|with_reducible exact S0|assumption|go_keep) (fail)
     all_goals
      clear S0 hw1 hw2 hmd hmp
      have Qc:=Qa (HF.out wr.drew HB.out.drew)
      by_cases hbad:v'≤65536∧j≤40
      ·have g1:¬(v':Int) > 65536:=by omega
       have g2:¬(j:Int) > 40:=by omega
       have hd2:d≤65536:=by have:=Qf.out;omega
       have Qg:=Qa (show j+1≤41∧∀i,∀x,i<j+1→lower[i]?=some x→x.data.size≤65536 from ⟨by omega,fun i x hi hx=>by
        by_cases e:i=j
        ·subst e
         rw [HX.out] at hx
         injection hx with hx
         rw [←hx]
         exact Nat.le_trans (Nat.le_of_eq HD.out) hd2
        ·exact HJ.out.2 i x (by omega) hx⟩)
       have hv2:=hbad.1
       clear hbad hd2
       go_wp2_with fail
       go_roundg (gk - 1)
       case measure=>have:=Qb.out;omega
       case rel=>exact ⟨j+1,v',by have:=Qb.out;omega,by go_num,rfl,hv2,Qa HB.out.drew,Qg⟩
      ·by_cases h1:v'≤65536
       ·have g1:¬(v':Int) > 65536:=by omega
        have g2:(j:Int) > 40:=by omega
        clear hbad
        go_wp2_with fail
        exact Qc.out
       ·have g1:(v':Int) > 65536:=by omega
        clear hbad
        go_wp2_with fail
        exact Qc.out
    ·have hjn:j=nl:=by omega
     have Qo:=Qa (show Few lower from ⟨by rw [Qe.out,←hjn];exact HJ.out.1,fun x hx=>by
      obtain ⟨i,hi⟩:=List.mem_iff_getElem?.1 hx
      exact HJ.out.2 i x (by have:=(List.getElem?_eq_some_iff.1 hi).1;rw [Qe.out] at this;omega) hi⟩)
     have Qp:=Qa (HT.out wr HB.out Qm.out Qo.out)
     clear HJ hjn
     go_upto_region 17 with fail
     go_loopg [10] 1 (fun gh s10 wq=>wq=wr∧s10=.int .i64 0)
     case atStart=>exact ⟨rfl,rfl⟩
     case round =>
      obtain ⟨hwq,rfl⟩:=hrel
      replace hwq:=hwq.symm
      subst hwq
      go_wp2_with fail
      exact Qp.out
end Go.Proofs.YtgoddboicjfkcaaGreat.cu
namespace Go.Proofs.YtgoddboicjfkcaaGreat.cu
open Go.RowKit
open dn (En lget lset ldel nerr dotB Sorted)
open br (BS Ino Inv at_nat abE nameE fresh)
open bl (AB cnt)
open cb (newI)
open mg (Nd opq kindV getV rootV belV statN)
section
variable {S S' L:BS} {r r2:Nat}
theorem make_used (hG:br.Good S r) (d:Int) (s:ByteArray) (k:Int) (t:ByteArray):(S.make d s k t).2.used=S.used:=by
 by_cases h:(S.make d s k t).1.2=0
 ·obtain ⟨D,n,_,_,hm,_⟩:=mk_of hG h
  rw [hm.us]
  show S.used+abE.n=S.used
  rw [br.abE_n];rfl
 ·rw [(make_no h).1]
theorem enter_used (hG:br.Good S r) (d:Int) (a:Nd) (t:ByteArray):(enterF S L d a t).2.used=S.used∧br.Good (enterF S L d a t).2 r:=by
 unfold enterF
 split
 ·exact ⟨rfl,hG⟩
 ·split
  ·exact ⟨rfl,hG⟩
  ·split
   ·exact ⟨rfl,hG⟩
   ·split
    ·exact ⟨make_used hG _ _ _ _,hG.make _ _ _ _⟩
    ·exact ⟨make_used hG _ _ _ _,hG.make _ _ _ _⟩
theorem desc_used:∀(p:List ByteArray) {S:BS} {d:Int} {a:Nd},br.Good S r→(descF L S d a p).2.used=S.used∧br.Good (descF L S d a p).2 r
 | [],S,d,a,hG=>⟨rfl,hG⟩
 | t::p,S,d,a,hG=>by
  rw [descF_cons]
  obtain ⟨h1,h2⟩:=enter_used (L:=L) hG d a t
  split
  ·exact ⟨h1,h2⟩
  ·obtain ⟨k1,k2⟩:=desc_used p (d:=(enterF S L d a t).1.1.1) (a:=(enterF S L d a t).1.1) h2
   exact ⟨k1.trans h1,k2⟩
theorem copyB_many {B:AB} (ok:B.Ok):(copyB B).n≤(B.size+15) / 16:=by
 have hs:=ok.size
 have h:cnt 4096 (nz B)≤cnt 4096 (fun k=>decide (k<(B.size+15) / 16)):=bl.cnt_le fun k hk=>by
  rw [decide_eq_true_eq]
  apply Classical.byContradiction
  intro e
  unfold nz at hk
  have:allZ 16 (fun j=>B.dat (16*k+j))=true:=allZ_iff.2 fun j hj=>ok.dat _ (by omega)
  rw [this] at hk;cases hk
 rw [fl.cnt_lt _ _ (by omega)] at h
 exact h
theorem led_get {p:List ByteArray} {d:Int} {a c:Nd} {t:ByteArray} (hL:br.Good L r2) (hG:br.Good S r) (hd:a.1=d) (hk:S.kindOf d=2) (hl:(S.at d).links≠0) (h0:(descF L S d a p).1.2=0) :
  walkV S L a (p++[t])=walkV (descF L S d a p).2 L (descF L S d a p).1.1.2 [t]:=by
 have hled:=(desc_led hL.1 p hG hd hk hl).1 h0
 obtain ⟨g1,g2,g3,g4,g5⟩:=desc_ok (L:=L) p hG hd hk h0
 have hkb:(descF L S d a p).2.kindOf (descF L S d a p).1.1.2.1=2:=g4.kind (g3.dir _ (by rw [hd];exact hk))
 rw [walkV_app]
 rcases hled with ⟨h1,h2⟩|⟨h1,h2,h3,h4⟩
 ·rw [h1,h2,if_neg (by simp)]
 ·rw [h1,if_neg (by simp)]
  have e:getV (descF L S d a p).2 L (descF L S d a p).1.1.2 t=getV S L (0,(descF L S d a p).1.1.2.2) t:=getV_bare t hkb h3 h4 h2
  show walkV S L (0,(descF L S d a p).1.1.2.2) [t]=_
  rw [walkV_cons,walkV_cons,e]
  rfl
theorem room_math {u l wk:Int} {names:List ByteArray} {v er:Int} (hG:br.Good S r) (hL:br.Good L r2) (hu:S.kindOf u=2) (hul:(S.at u).links≠0) (h:UpR r S L u l wk names v er S') :
  S'.used=S.used∨(er=0∧∃Y:Nat,1≤Y∧Y≤200∧walkV S L (rootV S L u l) names=((0,(Y:Int)),0)∧(L.ino Y).kind=1∧S'.used=S.used+(copyB (L.ino Y).body).n):=by
 rcases h with ⟨_,_,_,h⟩|⟨p,t,d,a,e1,S1,hp,hd,hc⟩
 ·exact .inl (by rw [h])
 ·obtain ⟨k1,k2⟩:=desc_used (L:=L) p (d:=u) (a:=rootV S L u l) hG
  have hled:=led_get (p:=p) (d:=u) (a:=rootV S L u l) (c:=(0,0)) (t:=t) hL hG (root_up hu) hu hul
  rw [hd] at k1 k2 hled
  dsimp only at k1 k2 hled
  rcases hc with ⟨_,_,_,h⟩|⟨_,_,_,_,h⟩|⟨_,_,_,x,h⟩|⟨_,_,_,_,_,_,h⟩|⟨Y,_,h1,_,_,h2,_,h⟩|⟨Y,he,h1,y1,y2,h2,_,hc⟩
  ·exact .inl (by rw [h,k1])
  ·exact .inl (by rw [h,k1])
  ·obtain ⟨k3,_⟩:=desc_used (L:=L) names (d:=u) (a:=rootV S1 L u l) k2
   rw [h] at k3
   exact .inl (k3.trans k1)
  ·exact .inl (by rw [h,k1])
  ·have:=make_used k2 d t 3 (L.ino Y).target
   rw [h] at this
   exact .inl (this.trans k1)
  ·rcases hc with ⟨h3,D,n,_,_,hm⟩|⟨_,_,h,_⟩
   ·refine .inr ⟨h3,Y,y1,y2,?_,h2,?_⟩
    ·rw [hp,hled he,walkV_cons,h1];rfl
    ·rw [hm.us,k1];rfl
   ·exact .inl (by rw [h,k1])
theorem stat_kind (B:BS) (i:Int):(B.stat i).1.1=B.kindOf i:=by
 unfold BS.stat BS.kindOf
 split <;> rfl
theorem stat_size {n:Nd} {cnt:Int} (hG:br.Good S r) (hL:br.Good L r2) (h:(statN S L n cnt).1.1=1):0≤(statN S L n cnt).1.2.1∧(statN S L n cnt).1.2.1≤65536:=by
 have hone:∀ {B:BS} {r':Nat} (i:Int),br.Good B r'→(B.stat i).1.1=1→(B.stat i).1.2.1≤65536:=fun {B r'} i hB hk=>by
  unfold BS.stat at hk ⊢
  by_cases e:B.isI i=true
  ·rw [if_pos e] at hk ⊢
   dsimp only at hk ⊢
   unfold br.Ino.sizeOf
   rw [hk]
   exact (hB.1.body _).size
  ·rw [if_neg e] at hk;cases hk
 unfold mg.statN at h ⊢
 by_cases h0:kindV S L n=0
 ·rw [if_pos h0] at h;cases h
 rw [if_neg h0] at h ⊢
 dsimp only at h ⊢
 by_cases h2:kindV S L n=2
 ·exfalso
  unfold mg.kindV at h2
  by_cases e:n.1≠0
  ·rw [if_pos e] at h h2;rw [stat_kind] at h;rw [h] at h2;exact absurd h2 (by decide)
  ·rw [if_neg e] at h h2;rw [stat_kind] at h;rw [h] at h2;exact absurd h2 (by decide)
 ·rw [if_neg h2]
  refine ⟨by omega,?_⟩
  by_cases e:n.1≠0
  ·rw [if_pos e] at h ⊢;have:=hone n.1 hG h;omega
  ·rw [if_neg e] at h ⊢;have:=hone n.2 hL h;omega
theorem stat_file {Y:Nat} {cnt:Int} (hL:br.Good L r2) (h1:1≤Y) (h2:Y≤200) (hk:(L.ino Y).kind=1):statN S L (0,(Y:Int)) cnt=((1,((L.ino Y).body.size:Int),(L.ino Y).links),0):=by
 have hky:L.kindOf (Y:Int)=1:=by rw [cb.kind_of h1 h2];exact hk
 have hkv:kindV S L (0,(Y:Int))=1:=by unfold mg.kindV;simp [hky]
 have hst:L.stat (Y:Int)=((1,(L.ino Y).body.size,(L.ino Y).links),0):=by
  rw [cb.stat_of h1 h2 (by rw [hk];decide),hk]
  unfold br.Ino.sizeOf
  rw [hk];rfl
 unfold mg.statN
 rw [hkv,if_neg (by decide),if_neg (show ¬((0:Int),(Y:Int)).1≠0 by simp),hst]
 rfl
end
end Go.Proofs.YtgoddboicjfkcaaGreat.cu
namespace Go.Proofs.YtgoddboicjfkcaaGreat.cu
open Go.RowKit Go.Deep
open br (BS Ino Inv at_nat abE fresh)
open cb (BrX RetW RetI No KB KD Res HB Stab NxR Same WrI Wz sF)
open bl (Pq Only AB U8)
open mg (bel_step bel_alloc)
open fl (Ln LR treeF)
theorem begin_bad {w:World} {A B:Option Addr} {lower:List Ln} {m c1 c2:Nat} (hl:LR w w.heap.size B lower) (hnl:lower.length≤400) (hdl:∀x∈lower,x.data.size≤1000000) {room:Int} (hr:room<0∨65536<room) :
  Calls Tryz.prog 46 #[.slice A m c1,.slice B lower.length c2,.int .i64 room] w (fun e w'=>e=.returned (.tuple #[.pointer none,.bool false])∧Below w.heap.size w w'):=by
 have HN:=Qa (fun W=>cb.new_no room W hr)
 have HM:=Qa (fun W=>cb.rb_new_no room W hr)
 have Qb:=Qa (fun (L:List Res) (X:Nat→Prop) (W:World) (h:cb.Sys w W L X) (k:LX W X B lower)=>ctree_any (c:=c2) h k hnl hdl)
 have Qc:=Qa (fun (L:List Res) (X:Nat→Prop) (W:World) (h:cb.Sys w W L X) (k:LX W X B lower)=>rtree_any (c:=c2) h k (by omega) hdl)
 have Qd:=Qa (show ∀(W:World),Below w.heap.size w W→LX W (fun b=>b<w.heap.size) B lower from fun W hb=>(LX.of (X:=fun b=>b<w.heap.size) hl fun b hb=>hb).same fun b h=>hb.block b h)
 have Qf:=Qa (show ∀W:World,Below w.heap.size w W→(fun (e:Ending) (w':World)=>e=.returned (.tuple #[.pointer none,.bool false])∧Below w.heap.size w w') (Ending.returned (.tuple #[.pointer none,.bool false])) W from fun W a=>⟨rfl,a⟩)
 generalize (fun (e:Ending) (w':World)=>e=Ending.returned (.tuple #[.pointer none,.bool false])∧Below w.heap.size w w')=PQ at *
 obtain ⟨nl,hnl2⟩:∃n,lower.length=n:=⟨_,rfl⟩
 rw [hnl2] at Qb Qc hnl ⊢
 unfold CTreeE at Qb
 unfold RTreeE at Qc
 clear hl hdl hnl2 hr hnl
 go_enter Tryz.func46,Tryz.ntmps46
 go_wp2_with fail
 refine (HN.out w).mono ?_
 rintro _ w1 ⟨rfl,e1⟩
 replace e1:=e1.symm
 subst e1
 clear HN
 go_wp2_with fail
 refine (HM.out _).mono ?_
 rintro _ w2 ⟨rfl,e2⟩
 subst e2
 clear HM
 obtain ⟨G,hG⟩:∃g,w.heap.size=g:=⟨_,rfl⟩
 obtain ⟨w3,hw3⟩:∃w3,w.alloc (.cells #[.pointer none,.pointer none,.pointer none,.pointer none,.pointer none,.pointer none] 83)=w3:=⟨_,rfl⟩
 have hb3:Below w.heap.size w w3:=by rw [←hw3];exact bel_alloc _ _
 have Qe:=Qa (show w3.heap[G]?=some (.cells #[.pointer none,.pointer none,.pointer none,.pointer none,.pointer none,.pointer none] 83 (0,0)) by rw [←hw3,←hG];exact heap_alloc_new w _)
 have H3:=Qa (show cb.Sys w w3 [] (fun b=>b<w.heap.size∨b=G) from (cb.Sys.nil (Below.refl w.heap.size w)).box hb3 (fun b hb=>hb.imp id fun e=>by rw [e,←hG,←hw3,World.size_alloc];omega))
 clear hb3
 go_upto_region 2 with fail
 try rw [hw3]
 try rw [hG]
 clear hw3 hG
 go_wp2_with fail
 refine (Qb.out _ _ w3 H3.out ((Qd.out w3 H3.out.bel).sub fun b hb=>.inl hb)).mono ?_
 rintro e w4 ⟨hb4,hc⟩
 have Qg:=Qa ((hb4.block G (H3.out.lt (.inr rfl))).trans Qe.out)
 obtain ⟨v,er,LL,rfl,h4⟩:∃(v:Value) (er:Int) (LL:List Res),e=.returned (.tuple #[v,.int .i64 er])∧cb.Sys w w4 LL (fun b=>b<w.heap.size∨b=G):=by
  rcases hc with ⟨err,_,_,rfl,h4⟩|⟨P2,L,_,rfl,h4⟩
  ·exact ⟨_,_,_,rfl,h4⟩
  ·exact ⟨_,_,_,rfl,h4⟩
 have H4:=Qa h4
 clear hb4 hc Qe H3 Qb h4
 go_wp2_with fail
 refine (Qc.out _ _ w4 H4.out ((Qd.out w4 H4.out.bel).sub fun b hb=>.inl hb)).mono ?_
 rintro e w5 ⟨hs5,hc⟩
 have Qh:=Qa ((hs5 G (.inr rfl)).trans Qg.out)
 obtain ⟨v5,er5,LL5,rfl,h5⟩:∃(v:Value) (er:Int) (LL:List Res),e=.returned (.tuple #[v,.int .i64 er])∧cb.Sys w w5 LL (fun b=>b<w.heap.size∨b=G):=by
  rcases hc with ⟨err,_,_,rfl,h4⟩|⟨P2,L,S,_,rfl,h4,_⟩
  ·exact ⟨_,_,_,rfl,h4⟩
  ·exact ⟨_,_,_,rfl,h4⟩
 have g0:w5.cell? ⟨G,0,none⟩=some (.pointer none):=(Lib.cell_of_heap Qh.out 0).trans rfl
 have HF:=Qa (Qf.out w5 h5.bel)
 clear hs5 hc h5 Qc H4
 go_wp2_with fail
 exact HF.out
end Go.Proofs.YtgoddboicjfkcaaGreat.cu
namespace Go.Proofs.YtgoddboicjfkcaaGreat.cu
open Go.RowKit Go.Deep
open br (BS Ino Inv at_nat abE nameE fresh)
open cb (BrX RetW RetI No KB KD Res HB Stab NxR Same WrI Wz ReadI newI)
open bl (Pq Only U8 AB cnt)
open mg (Vx Nd Nv Nb R2 R3 bel_step bel_alloc kindV getV rootV AwakeE statN set3_below)
open fl (Ln LR treeF)
def StP (L:BS) (n:Nd) (sk ss:Int):Prop:=(sk=1→0≤ss∧ss≤65536)∧∀Y:Nat,n=(0,(Y:Int))→1≤Y→Y≤200→(L.ino Y).kind=1→sk=1∧ss=((L.ino Y).body.size:Int)
theorem stat_x {w0 w:World} {c:Cp} {S L:BS} {r T:Nat} {M:List Res} {X:Nat→Prop} (h:Zs w0 w c S L r T M X) (n:Nd) :
  Calls Tryz.prog 23 #[Pq c.V,Nv n] w (fun e w'=>∃sk ss sl se:Int,StP L n sk ss∧e=.returned (.tuple #[.agg #[.int .i64 sk,.int .i64 ss,.int .i64 sl],.int .i64 se])∧Below w.heap.size w w'):=by
 refine (mg.stat_any h.vx h.good1.1 h.good2.1 n).mono ?_
 rintro e w' ⟨l,_,rfl,hb⟩
 refine ⟨_,_,_,_,⟨fun h1=>stat_size h.good1 h.good2 h1,fun Y hn y1 y2 hk=>?_⟩,rfl,hb⟩
 subst hn
 rw [stat_file h.good2 y1 y2 hk]
 exact ⟨rfl,rfl⟩
theorem R3.put0 {w:World} {g:Nat} {x y z:Int} (h:R3 w g x y z) (a b d:Int):(((w.setCell ⟨g,0,none⟩ (.int .i64 a)).setCell ⟨g,1,none⟩ (.int .i64 b)).setCell ⟨g,2,none⟩ (.int .i64 d)).cell? ⟨g,0,none⟩=some (.int .i64 a):=by
 have n2:(⟨g,2,none⟩:Addr)≠⟨g,0,none⟩:=fun e=>by injection e with _ e;cases e
 have n1:(⟨g,1,none⟩:Addr)≠⟨g,0,none⟩:=fun e=>by injection e with _ e;cases e
 rw [World.cell?_setCell_other _ _ _ _ n2,World.cell?_setCell_other _ _ _ _ n1]
 exact World.cell?_setCell_same' _ _ _ (by rw [h.c0];rfl)
theorem room_any {w:World} {A B An:Option Addr} {upper lower:List Ln} {names:List ByteArray} {c1 c2 cn:Nat} (room:Int) (hu0:LR w w.heap.size A upper) (hl0:LR w w.heap.size B lower) (hnu:upper.length≤maxLen) (hnl:lower.length≤maxLen) (hzu:∀x∈upper,x.path.size≤maxLen∧x.data.size≤maxLen) (hzl:∀x∈lower,x.path.size≤maxLen∧x.data.size≤maxLen)
  (hnn:NL w (fun b=>b<w.heap.size) An names) (hcn:names.length≤cn∧cn≤maxLen) :
  Calls Tryz.prog 10 #[.slice A upper.length c1,.slice B lower.length c2,.int .i64 room,.slice An names.length cn] w (AwakeE w):=by
 have Q8:=Qa (awake_any w)
 unfold AwakeE at Q8
 have HF:=Qa (show ∀W:World,Below w.heap.size w W→AwakeE w (.returned (.bool true)) W from fun W h=>⟨rfl,h⟩)
 obtain ⟨PQ,hPQ⟩:∃P,AwakeE w=P:=⟨_,rfl⟩
 rw [hPQ] at HF ⊢
 have Qo:=Qa (fun (W:World) (hb:Below w.heap.size w W)=>small_any (c1:=c1) (c2:=c2) ((hu0.same fun b h=>hb.block b h).up hb.size) ((hl0.same fun b h=>hb.block b h).up hb.size) hnu hnl hzu hzl)
 have Qj:=Qa (fun (W:World) (hb:Below w.heap.size w W) (f1:Few upper) (f2:Few lower) (r:Nat) (hr:r≤65536)=>begin_any (c1:=c1) (c2:=c2) ((hu0.same fun b h=>hb.block b h).up hb.size) ((hl0.same fun b h=>hb.block b h).up hb.size) (Nat.le_trans f1.1 (by decide)) (Nat.le_trans f2.1 (by decide)) (fun x hx=>Nat.le_trans (f1.2 x hx) (by decide)) (fun x hx=>Nat.le_trans (f2.2 x hx) (by decide)) hr)
 have Qp:=Qa (fun (W:World) (hb:Below w.heap.size w W) (f2:Few lower) (hr:room<0∨65536<room)=>begin_bad (A:=A) (m:=upper.length) (c1:=c1) (c2:=c2) ((hl0.same fun b h=>hb.block b h).up hb.size) (Nat.le_trans f2.1 (by decide)) (fun x hx=>Nat.le_trans (f2.2 x hx) (by decide)) hr)
 have Xi:=Qa hnn
 have Xr:=Qa hcn
 unfold SmallE at Qo
 unfold BegE at Qj
 obtain ⟨nu,hnu2⟩:∃n,upper.length=n:=⟨_,rfl⟩
 obtain ⟨nl,hnl2⟩:∃n,lower.length=n:=⟨_,rfl⟩
 rw [hnu2] at Qo Qj Qp ⊢
 rw [hnl2] at Qo Qj Qp ⊢
 obtain ⟨nn,hnn2⟩:∃n,names.length=n:=⟨_,rfl⟩
 have Qy:=Qa hnn2
 rw [hnn2]
 have hnm:nn≤9223372036854775807:=by have:=Nat.le_trans hcn.1 hcn.2;unfold maxLen at this;omega
 clear hPQ hu0 hl0 hnu hnl hzu hzl hnn hcn hnu2 hnl2 hnn2
 go_enter Tryz.func10,Tryz.ntmps10
 go_wp2_with fail
 refine Q8.out.mono ?_
 rintro _ w1 ⟨rfl,hb1⟩
 have Q9:=Qa hb1
 clear hb1 Q8
 go_wp2_with fail
 refine (Qo.out w1 Q9.out).mono ?_
 rintro _ w2 ⟨b,rfl,hb2,hfew⟩
 have Qd:=Qa (bel_step Q9.out hb2)
 clear hb2 Qo Q9
 cases b with
 | false =>
  have Qe:=Qa (HF.out w2 Qd.out)
  clear hfew
  go_wp2_with fail
  exact Qe.out
 | true =>
 obtain ⟨f1,f2⟩:=hfew (by first|rfl|trivial)
 have Xa:=Qa (And.intro f1 f2)
 clear hfew f1 f2
 by_cases hnn:nn≤50
 case neg =>
  have hg:(nn:Int) > 50:=by omega
  have Qe:=Qa (HF.out w2 Qd.out)
  clear hnn
  go_wp2_with fail
  exact Qe.out
 have hg:¬(nn:Int) > 50:=by omega
 have Qq:=Qa hnn
 by_cases hr:room<0∨65536<room
 ·have Qc:=Qa (Qp.out w2 Qd.out Xa.out.2 hr)
  clear hr Qj Qp hnn
  go_wp2_with fail
  refine Qc.out.mono ?_
  rintro _ w3 ⟨rfl,hb3⟩
  have Qe:=Qa (HF.out w3 (bel_step Qd.out hb3))
  clear hb3
  go_wp2_with fail
  exact Qe.out
 obtain ⟨r,rfl⟩:∃r:Nat,room=(r:Int):=⟨room.toNat,by omega⟩
 have hr2:r≤65536:=by omega
 have Xs:=Qa hr2
 have Qc:=Qa (Qj.out w2 Qd.out Xa.out.1 Xa.out.2 r hr2)
 clear hr hr2 Qj Qp hnn
 go_wp2_with fail
 refine Qc.out.mono ?_
 rintro _ w3 (⟨rfl,hb3,-⟩|⟨G,c,R,D1,R1,D2,R2',S,Sd,L,T,rfl,hbg,-,-⟩)
 ·have Qe:=Qa (HF.out w3 (bel_step Qd.out hb3))
  clear hb3
  go_wp2_with fail
  exact Qe.out
 have HZ:=Qa hbg.z
 have Qg:=Qa hbg.bx
 have HT:=Qa hbg.T
 have Qk:=Qa hbg.u
 have Xj:=Qa hbg.l
 have Xb:=Qa hbg.wk
 have Qr:=Qa hbg.bg
 obtain ⟨X,hX⟩:∃X:Nat→Prop,(fun b=>b<w2.heap.size∨b=G∨b=c.C∨b=c.V∨b=R)=X:=⟨_,rfl⟩
 have Qs:=Qa (show X G by rw [←hX];exact .inr (.inl rfl))
 have Xk:=Qa (show ∀b,b<w.heap.size→X b from fun b h=>by rw [←hX];exact .inl (Nat.lt_of_lt_of_le h Qd.out.size))
 rw [hX] at HZ
 have Xt:=Qa (show Below w.heap.size w w3 from bel_step Qd.out HZ.out.bel)
 have Xc:=Qa (show NL w3 X An names from (Xi.out.same fun b hb=>Xt.out.block b hb).sub Xk.out)
 generalize [KD w2 D1 R1 Sd r,KD w2 D2 R2' L 65536]=M at *
 clear hbg hX Qc Xi Xk
 -- Node
 have k4:w3.cell? ⟨G,4,none⟩=some (Pq c.C):=(Lib.cell_of_heap Qg.out 4).trans rfl
 have Ql:=Qa (node_any (cap:=cn) HZ.out Xc.out (by rw [Qy.out];have:=Qq.out;omega))
 rw [Qk.out,Xj.out,Qy.out] at Ql
 unfold RetW at Ql
 have Xd:=Qa (fun (v er:Int) (S':BS) (h:UpR r S L 2 1 3 names v er S')=>room_math HZ.out.good1 HZ.out.good2 Qr.out.kind2 Qr.out.l2 h)
 obtain ⟨wv,hwv⟩:∃x,walkV S L (rootV S L 2 1) names=x:=⟨_,rfl⟩
 rw [hwv] at Ql
 simp only [hwv] at Xd
 clear hwv
 obtain ⟨⟨n1,n2⟩,ne⟩:=wv
 dsimp only at Ql
 go_wp2_with fail
 refine Ql.out.mono ?_
 rintro _ w4 ⟨rfl,hb4⟩
 have Qt:=Qa (HZ.out.below hb4)
 have Xl:=Qa ((hb4.block G (HZ.out.lt Qs.out)).trans Qg.out)
 have Qv:=Qa (Xc.out.below hb4)
 clear hb4 Ql HZ Qg Xc k4
 obtain ⟨g1,hg1⟩:∃g,w4.heap.size=g:=⟨_,rfl⟩
 obtain ⟨w5,hw5⟩:∃w5,w4.alloc (.cells #[.int .i64 n1,.int .i64 n2] 24)=w5:=⟨_,rfl⟩
 have hb5:Below w4.heap.size w4 w5:=by rw [←hw5];exact bel_alloc _ _
 have Qf:=Qa (Qt.out.box (Y:=fun b=>X b∨b=g1) hb5 (fun b hb=>hb.imp id fun e=>by rw [e,←hg1,←hw5,World.size_alloc];omega) (.inl Qt.out.xC) (.inl Qt.out.xV))
 have Qz:=Qa ((hb5.block G (Qt.out.lt Qs.out)).trans Xl.out)
 have Qw:=Qa (show R2 w5 g1 n1 n2 by rw [←hw5,←hg1];exact R2.new w4 n1 n2)
 have Qh:=Qa (show NL w5 (fun b=>X b∨b=g1) An names from (Qv.out.below hb5).sub fun b h=>.inl h)
 clear hb5 Qt Xl Qv
 go_upto_region 9 with fail
 try rw [hw5]
 try rw [hg1]
 clear hw5 hg1
 have Qm:=Qa (fun W (hb:Below w5.heap.size w5 W)=>show W.cell? ⟨G,4,none⟩=some (Pq c.C)∧W.cell? ⟨g1,0,none⟩=some (.int .i64 n1)∧W.cell? ⟨g1,1,none⟩=some (.int .i64 n2) from ⟨(Lib.cell_of_heap ((hb.block G (Qf.out.lt (.inl Qs.out))).trans Qz.out) 4).trans rfl,(Qw.out.below hb).c0,(Qw.out.below hb).c1⟩)
 have Q2:=Qa (fun W (hb:Below w5.heap.size w5 W)=>view_any (Qf.out.below hb))
 have Qb:=Qa (fun W (hb:Below w5.heap.size w5 W)=>stat_x (Qf.out.below hb) (n1,n2))
 go_cut [13,14] from 19 to 112 (fun va vb wx=>∃gs sk ss se,va=.pointer (some ⟨gs,0,none⟩)∧vb=.int .i64 se∧Hid (Below w5.heap.size w5 wx)∧Hid (wx.cell? ⟨gs,0,none⟩=some (.int .i64 sk)∧wx.cell? ⟨gs,1,none⟩=some (.int .i64 ss))∧Hid (StP L (n1,n2) sk ss)∧Hid (w5.heap.size≤gs))
 case first =>
  have S0:=Qm.out w5 (Below.refl _ _)
  have Xm:=Qa (bel_alloc w5 (.cells #[.int .i64 0,.int .i64 0,.int .i64 0] 47))
  have Xe:=Qa (bel_step Xm.out (Below.refl _ (w5.alloc (.cells #[.int .i64 0,.int .i64 0,.int .i64 0] 47))).drew)
  have SA:=Qm.out _ Xm.out
  have Xu:=Qa (Q2.out w5.drew (Below.refl w5.heap.size w5).drew)
  have Xv:=Qa (Q2.out (w5.alloc (.cells #[.int .i64 0,.int .i64 0,.int .i64 0] 47)).drew Xe.out)
  have Xw:=Qa (Qb.out w5.drew (Below.refl w5.heap.size w5).drew)
  have Xx:=Qa (Qb.out (w5.alloc (.cells #[.int .i64 0,.int .i64 0,.int .i64 0] 47)).drew Xe.out)
  have Xy:=Qa (show R3 (w5.alloc (.cells #[.int .i64 0,.int .i64 0,.int .i64 0] 47)).drew w5.heap.size 0 0 0 from (R3.new w5 0 0 0).below (Below.refl _ _).drew)
  clear Qf Qw Qz Qb Q2 Qh
  go_region_held3 (fun W=>W.cell? ⟨G,4,none⟩=some (Pq c.C)∧W.cell? ⟨g1,0,none⟩=some (.int .i64 n1)∧W.cell? ⟨g1,1,none⟩=some (.int .i64 n2))
   (first|with_reducible exact S0|with_reducible exact S5|with_reducible exact SA|with_reducible exact ST|assumption|go_keep)
   (first
    | (go_at_call 55;((with_reducible refine Xu.out.mono ?_);rintro _ wv ⟨rfl,ev⟩;subst ev))
    | (go_at_call 55;((with_reducible refine Xv.out.mono ?_);rintro _ wv ⟨rfl,ev⟩;subst ev))
    | (go_at_call 23;((with_reducible refine Xw.out.mono ?_);rintro _ w7 ⟨sk,ss,sl,se,hsp,rfl,hb7⟩;have Qn:=Qa (bel_step (Below.refl w5.heap.size w5).drew hb7);have S5:=Qm.out w7 Qn.out;have Xz:=Qa (show ∃Gs,w7.heap.size=Gs∧Below w5.heap.size w5 (w7.alloc (.cells #[.int .i64 sk,.int .i64 ss,.int .i64 sl] 47))∧R3 (w7.alloc (.cells #[.int .i64 sk,.int .i64 ss,.int .i64 sl] 47)) Gs sk ss sl∧w5.heap.size≤Gs from ⟨_,rfl,bel_step Qn.out (bel_alloc _ _),R3.new w7 sk ss sl,Qn.out.size⟩);have Qi:=Qa hsp;clear hb7 hsp))
    | (go_at_call 23;((with_reducible refine Xx.out.mono ?_);rintro _ w7 ⟨sk,ss,sl,se,hsp,rfl,hb7⟩;have Qn:=Qa (bel_step Xe.out hb7);have S5:=Qm.out w7 Qn.out;have Xf:=Qa (Xy.out.below hb7);obtain ⟨z0,z1,z2,f0,f1,f2⟩:=Xf.out;have Xn:=Qa (show Below w5.heap.size w5 (((w7.setCell ⟨w5.heap.size,0,none⟩ (.int .i64 sk)).setCell ⟨w5.heap.size,1,none⟩ (.int .i64 ss)).setCell ⟨w5.heap.size,2,none⟩ (.int .i64 sl)) from set3_below Qn.out (Nat.le_refl _) _ _ _);have ST:=Qm.out _ Xn.out;have X0:=Qa (And.intro (R3.put0 Xf.out sk ss sl) (R3.put Xf.out sk ss sl));have Qi:=Qa hsp;clear hb7 hsp)))
  all_goals
   go_wp2_with fail
   go_meet
   case rel=>first|exact ⟨_,sk,ss,se,rfl,rfl,Xn,X0,Qi,Qa (Nat.le_refl _)⟩|(obtain ⟨Gs,hG,h1,h2,h3⟩:=Xz.out;subst hG;exact ⟨_,sk,ss,se,rfl,rfl,Qa h1,Qa ⟨h2.c0,h2.c1⟩,Qi,Qa h3⟩)
 case rest =>
  obtain ⟨gs,sk,ss,se,rfl,rfl,Qc,Xg,Qi,X3⟩:=hcut
  obtain ⟨wx,rfl⟩:∃x,x=wc:=⟨_,rfl⟩
  have Q3:=Qa (Qf.out.box (Y:=fun b=>(X b∨b=g1)∨b=gs) Qc.out (fun b hb=>hb.imp id fun e=>by
   rw [e];exact ⟨X3.out,World.block_lt_of_cell? _ _ Xg.out.1⟩) (.inl Qf.out.xC) (.inl Qf.out.xV))
  have Q4:=Qa ((Qc.out.block G (Qf.out.lt (.inl Qs.out))).trans Qz.out)
  have Xo:=Qa (Qw.out.below Qc.out)
  have Xp:=Qa (show NL wx (fun b=>(X b∨b=g1)∨b=gs) An names from (Qh.out.below Qc.out).sub fun b h=>.inl h)
  clear Qf Qz Qw Qh Qm Q2 Qb Qc
  have k0:wx.cell? ⟨G,0,none⟩=some (Pq c.P1):=(Lib.cell_of_heap Q4.out 0).trans rfl
  have k4:wx.cell? ⟨G,4,none⟩=some (Pq c.C):=(Lib.cell_of_heap Q4.out 4).trans rfl
  have Xq:=Qa (cb.x_used Q3.out.brx1)
  have Q5:=Qa (up_any (cap:=cn) (W:=3) Q3.out Xp.out (by rw [Qy.out];have:=Qq.out;omega) Xr.out.1 (by have:=HT.out;omega) (by rw [Qk.out];exact Qr.out.kind2) (by rw [Qk.out];exact Qr.out.l2) Qr.out.out (by rw [Xb.out];rfl) (by rw [Qk.out];decide) (by rw [Qk.out,Xb.out];decide))
  unfold UpE at Q5
  rw [Qk.out,Xj.out,Xb.out,Qy.out] at Q5
  have X8:=Qa (Q3.out.good1.1.room)
  go_wp2_with fail
  refine Xq.out.mono ?_
  rintro _ wy ⟨rfl,ey⟩
  subst ey
  go_wp2_with fail
  refine Q5.out.mono ?_
  rintro _ w8 ⟨v,er,S',rfl,hz8,hs8,hur⟩
  have hm:=Xd.out v er S' hur
  have Q6:=Qa hz8
  have X4:=Qa ((hs8 G (.inl (.inl Qs.out))).trans Q4.out)
  have X5:=Qa (Xo.out.same (hs8 g1 (.inl (.inr rfl))))
  have X6:=Qa (show w8.cell? ⟨gs,0,none⟩=some (.int .i64 sk)∧w8.cell? ⟨gs,1,none⟩=some (.int .i64 ss) from ⟨(World.cell?_of_block (a:=⟨gs,0,none⟩) (hs8 gs (.inr rfl))).trans Xg.out.1,(World.cell?_of_block (a:=⟨gs,1,none⟩) (hs8 gs (.inr rfl))).trans Xg.out.2⟩)
  have Xh:=Qa (cb.x_used Q6.out.brx1)
  have hroom:=Q6.out.good1.1.room
  have hr5:=Xs.out
  have hbody:∀Y:Nat,(copyB (L.ino Y).body).n≤((L.ino Y).body.size+15) / 16:=fun Y=>copyB_many (Q6.out.good2.1.body Y)
  have Qe:=Qa (fun W (hb:Below w8.heap.size w8 W)=>HF.out W (bel_step Qd.out (Q6.out.below hb).bel))
  have Q7:=Qa (Qe.out w8 (Below.refl _ _))
  obtain ⟨us,hus⟩:∃n,S.used=n:=⟨_,rfl⟩
  obtain ⟨us',hus'⟩:∃n,S'.used=n:=⟨_,rfl⟩
  rw [hus] at hm ⊢
  rw [hus'] at hm hroom Xh
  obtain ⟨mo,hmo⟩:∃mo:Nat,us'=us+mo:=by
   rcases hm with h|⟨_,Y,_,_,_,_,h⟩
   ·exact ⟨0,by omega⟩
   ·exact ⟨_,h⟩
  have hwm:IntKind.i64.wrap ((us':Int) - (us:Int))=(mo:Int):=by rw [IntWalk.i64_in _ (by omega)];omega
  have k0:w8.cell? ⟨G,0,none⟩=some (Pq c.P1):=(Lib.cell_of_heap X4.out 0).trans rfl
  obtain ⟨e0,e1⟩:=X6.out
  obtain ⟨m0,m1⟩:=X5.out
  have hle:(us':Int)≤(r:Int):=by omega
  have Qx:=Qa (And.intro hm hmo)
  have X7:=Qa hbody
  clear hz8 hs8 hur Q3 Q4 Xo Xp Xq Q5 Xd hm hmo hroom hr5 hbody k4 hus hus'
  go_wp2_with fail
  refine Xh.out.mono ?_
  rintro _ wz ⟨rfl,ez⟩
  subst ez
  by_cases h1:er=0∧sk=1∧n1=0
  case neg =>
   have h0:mo=0:=by
    rcases Qx.out.1 with h|⟨h2,Y,y1,y2,h3,h4,h5⟩
    ·have:=Qx.out.2;omega
    ·exfalso
     injection h3 with h3 _
     have:=Qi.out.2 Y h3 y1 y2 h4
     injection h3 with h3 _
     exact h1 ⟨h2,this.1,h3⟩
   subst h0
   by_cases e1:er=0
   ·subst e1
    by_cases e2:sk=1
    ·have e3:n1≠0:=fun e=>h1 ⟨rfl,e2,e⟩
     have q2:(sk != 1)=false:=by simpa using e2
     have q3:(n1 != 0)=true:=by simpa using e3
     clear h1 e2 e3
     go_wp2_with fail
     exact Q7.out
    ·have q2:(sk != 1)=true:=by simpa using e2
     clear h1 e2
     go_wp2_with fail
     exact Q7.out
   ·have q1:(er != 0)=true:=by simpa using e1
    clear h1 e1
    go_wp2_with fail
    exact Q7.out
  obtain ⟨rfl,rfl,rfl⟩:=h1
  obtain ⟨hs0,hs1⟩:=Qi.out.1 rfl
  obtain ⟨sn,rfl⟩:∃sn:Nat,ss=(sn:Int):=⟨ss.toNat,by omega⟩
  have hmo2:mo≤(sn+15) / 16:=by
   rcases Qx.out.1 with h|⟨h2,Y,y1,y2,h3,h4,h5⟩
   ·have:=Qx.out.2;omega
   ·injection h3 with h3 _
    have h6:=(Qi.out.2 Y h3 y1 y2 h4).2
    have h7:=X7.out Y
    have:=Qx.out.2
    have h8:sn=(L.ino Y).body.size:=by omega
    rw [h8];omega
  have hw1:IntKind.i64.wrap ((sn:Int)+16)=(sn:Int)+16:=IntWalk.i64_in _ (by omega)
  obtain ⟨q,hq⟩:∃q:Nat,(sn+15) / 16=q:=⟨_,rfl⟩
  have hqq:wrap64 (((sn:Int)+15).tdiv 16)=(q:Int):=by
   have e:((sn:Int)+15).tdiv 16=(q:Int):=by
    rw [Int.tdiv_eq_ediv_of_nonneg (by omega)];omega
   rw [e];exact IntWalk.wrap64_in (q:Int) (by omega)
  have hl1:(mo:Int)≤(q:Int):=by omega
  have hl2:(mo:Int)≤((sn:Int)+16 - 1) / 16:=by omega
  have hl3:¬((sn:Int)+16 - 1) / 16<(mo:Int):=by omega
  have hl0:(0:Int)≤(mo:Int):=by omega
  clear hmo2 hq
  go_wp2_with fail
  refine Xh.out.mono ?_
  rintro _ wq ⟨rfl,eq⟩
  subst eq
  go_wp2_with fail
  exact Q7.out
end Go.Proofs.YtgoddboicjfkcaaGreat.cu
namespace Go.Proofs.YtgoddboicjfkcaaGreat.fl
open Go.RowKit
open br (BS Ino Inv Tree sumF fresh)
open cb (BrX RetW RetI No)
open bl (Pq)
open mg (Nd Nv Vx bel_step bel_alloc BelowOf wp_region_below calls_below)
theorem three {b:Nat} {w:World} (h:w.heap[b]?=some (.cells #[.string yA,.int .i64 2,.string ⟨#[]⟩,.string yB,.int .i64 1,.string yX,.string yC,.int .i64 3,.string y1] 104 (0,0))) :
  LR w (b+1) (some ⟨b,0,none⟩) zl∧LR w (b+1) (some ⟨b,3,none⟩) z1∧LR w (b+1) (some ⟨b,3,none⟩) (zl.drop 1):=by
 have c:∀j,w.cell? ⟨b,j,none⟩=_:=fun j=>Lib.cell_of_heap h j
 refine ⟨fun j x hx=>?_,fun j x hx=>?_,fun j x hx=>?_⟩
 ·match j,hx with
  | 0,hx=>injection hx with hx;subst hx;exact ⟨b,0,rfl,Nat.lt_succ_self _,(c 0).trans rfl,(c 1).trans rfl,(c 2).trans rfl⟩
  | 1,hx=>injection hx with hx;subst hx;exact ⟨b,0,rfl,Nat.lt_succ_self _,(c 3).trans rfl,(c 4).trans rfl,(c 5).trans rfl⟩
  | 2,hx=>injection hx with hx;subst hx;exact ⟨b,0,rfl,Nat.lt_succ_self _,(c 6).trans rfl,(c 7).trans rfl,(c 8).trans rfl⟩
  | n+3,hx=>cases hx
 ·match j,hx with
  | 0,hx=>injection hx with hx;subst hx;exact ⟨b,3,rfl,Nat.lt_succ_self _,(c 3).trans rfl,(c 4).trans rfl,(c 5).trans rfl⟩
  | n+1,hx=>cases hx
 ·match j,hx with
  | 0,hx=>injection hx with hx;subst hx;exact ⟨b,3,rfl,Nat.lt_succ_self _,(c 3).trans rfl,(c 4).trans rfl,(c 5).trans rfl⟩
  | 1,hx=>injection hx with hx;subst hx;exact ⟨b,3,rfl,Nat.lt_succ_self _,(c 6).trans rfl,(c 7).trans rfl,(c 8).trans rfl⟩
  | n+2,hx=>cases hx
end Go.Proofs.YtgoddboicjfkcaaGreat.fl
namespace Go.Proofs.YtgoddboicjfkcaaGreat.fl
open Go.ChangeShapes Go.WideShapes Go.ChangeAt Go.RowKit
instance:Inhabited Ln:=⟨⟨⟨#[]⟩,0,⟨#[]⟩⟩⟩
theorem open_lines {H:Type} {enc:TypeId×Value→H} {W:World} {r:Reach} {b0:Nat} {sp:Nat→Bool} {held:Bool} {v:Value} {d:DataW H} {p:List MemPlace}
  (hv:Value.okWide Tryz.prog W r b0 70 v) (h:DataW.Trod enc Tryz.prog W 0 sp held 70 v d p) :
  ∃A c l,v=.slice A (l:List Ln).length c∧(l.length≤c∧c≤maxLen)∧LR W W.heap.size A l∧∀x∈l,x.path.size≤maxLen∧x.data.size≤maxLen:=by
 obtain ⟨fuel,hf⟩:=h
 have hcells:v.cells.toList=[v]:=by
  obtain ⟨A,n,c,rfl⟩:=okWide_slice Tryz.underlying70 hv
  rfl
 rw [hcells] at hf
 rcases cb.open_slice_fields Tryz.underlying70 Tryz.underlying104 (by kernel_rfl) (by kernel_rfl) hf with e|⟨a,len,cap,m,e,hl,hm,hlm,hi⟩
 ·injection e with e
  subst e
  exact ⟨none,0,[],rfl,⟨Nat.le_refl _,by unfold maxLen;omega⟩,fun j x hx=>(by cases hx),fun x hx=>(by cases hx)⟩
 ·injection e with e
  subst e
  have hall:∀i,∃x:Ln,i<len→∃b off,(some a:Option Addr)=some ⟨b,off,none⟩∧b<W.heap.size ∧
    W.cell? ⟨b,off+i*3,none⟩=some (.string x.path) ∧
 W.cell? ⟨b,off+i*3+1,none⟩=some (.int .i64 x.kind) ∧
 W.cell? ⟨b,off+i*3+2,none⟩=some (.string x.data)∧x.path.size≤maxLen∧x.data.size≤maxLen:=by
   intro i
   by_cases hil:i<len
   ·obtain ⟨n0,hj0⟩:=hi 0 (by omega)
    obtain ⟨_,_,c00,_⟩:=hj0 0 _ rfl
    obtain ⟨b,off,rfl,hb⟩:=cb.spot_none (by simpa using c00)
    obtain ⟨n,hj⟩:=hi i (by omega)
    obtain ⟨v0,y0,c0,t0⟩:=hj 0 _ rfl
    obtain ⟨v1,y1,c1,t1⟩:=hj 1 _ rfl
    obtain ⟨v2,y2,c2,t2⟩:=hj 2 _ rfl
    obtain ⟨z0,e0,_,hz0⟩:=DataW.trod_string Tryz.underlying9 t0
    obtain ⟨z1,e1,_⟩:=DataW.trod_int Tryz.underlying3 t1
    obtain ⟨z2,e2,_,hz2⟩:=DataW.trod_string Tryz.underlying9 t2
    injection e0 with e0
    subst e0
    injection e1 with e1
    subst e1
    injection e2 with e2
    subst e2
    rw [Go.WideShapes.add_plain] at c0 c1 c2
    exact ⟨⟨z0,z1,z2⟩,fun _=>⟨b,off,rfl,hb,by simpa using c0,by simpa [Nat.add_assoc] using c1,by simpa [Nat.add_assoc] using c2,hz0,hz2⟩⟩
   ·exact ⟨default,fun h=>absurd h hil⟩
  obtain ⟨F,hF⟩:=Classical.axiomOfChoice hall
  have hlen:((List.range len).map F).length=len:=by simp
  have hget:∀(j:Nat) (x:Ln),((List.range len).map F)[j]?=some x→j<len∧x=F j:=fun j x hx=>by
   rw [List.getElem?_map] at hx
   by_cases hj:j<len
   ·rw [List.getElem?_range hj] at hx
    injection hx with hx
    exact ⟨hj,hx.symm⟩
   ·rw [List.getElem?_eq_none (by simpa using hj)] at hx
    cases hx
  refine ⟨some a,cap,(List.range len).map F,by rw [hlen],by rw [hlen];exact ⟨hl,hm⟩,fun j x hx=>?_,fun x hx=>?_⟩
  ·obtain ⟨hj,rfl⟩:=hget j x hx
   obtain ⟨b,off,e,hb,c0,c1,c2,_⟩:=hF j hj
   exact ⟨b,off,e,hb,c0,c1,c2⟩
  ·obtain ⟨j,hx⟩:=List.getElem?_of_mem hx
   obtain ⟨hj,rfl⟩:=hget j x hx
   obtain ⟨_,_,_,_,_,_,_,h1,h2⟩:=hF j hj
   exact ⟨h1,h2⟩
theorem lines_stay {H:Type} {enc:TypeId×Value→H} {W W':World} {v:Value} {d:DataW H} {ps before:List MemPlace} {sp:Nat→Bool}
  (h:DataW.Trod enc Tryz.prog W 0 (fun _=>true) true 70 v d ps) (hb:Below W.heap.size W W') (hsub:∀x∈ps,x∈before) (hlt:∀x∈before,x.block<W.heap.size) (hsp:∀x∈before,sp x.block=true) (hlaid:laidOutB Tryz.prog=true) :
  DataW.Trod enc Tryz.prog W' 0 sp true 70 v d ps :=
 WideElems.Trod_stays hlaid (by kernel_rfl) (of_decide_eq_true (by kernel_rfl)) h (fun x hx=>hb.same (hlt x (hsub x hx))) (fun x hx=>hsp x (hsub x hx))
end Go.Proofs.YtgoddboicjfkcaaGreat.fl
