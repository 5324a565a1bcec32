/- Part 30 of what is known of the program's functions and of the document's words: contracts, and the mathematics beneath them. -/
import Derived.Test.YtgoddboicjfkcaaGreatProg
import Derived.Test.YtgoddboicjfkcaaGreatZ22
import Derived.Test.YtgoddboicjfkcaaGreatZ29
import Derived.Test.YtgoddboicjfkcaaGreatZ01
import Derived.Test.YtgoddboicjfkcaaGreatZ27
import Derived.Test.YtgoddboicjfkcaaGreatZ20
set_option linter.unusedVariables false
set_option linter.unusedSimpArgs false
set_option maxRecDepth 100000
set_option maxHeartbeats 8000000
namespace Go.Proofs.YtgoddboicjfkcaaGreat.cu
open Go.RowKit Go.Deep
open br (BS Ino Inv at_nat abE nameE fresh)
open cb (BrX RetW RetI No KB KD Res HB Stab NxR Same WrI Wz ReadI newI)
open bl (Pq Only U8 AB)
open mg (Vx Nd Nv Nb R2 R3 bel_step bel_alloc kindV getV rootV AwakeE)
open fl (Ln LR treeF)
section
variable {w0 w:World} {c:Cp} {S L:BS} {r T:Nat} {M:List Res} {X:Nat→Prop}
theorem Zs.row2 (h:Zs w0 w c S L r T M X) {w':World} {g:Nat} (hg:w.heap.size=g) {a b:ByteArray} (hw:w.alloc (.cells #[.string a,.string b] 9)=w') (ha:a.size≤9223372036854775807) (hb:b.size≤9223372036854775807) :
  Zs w0 w' c S L r T M (fun b=>X b∨b=g)∧NL w' (fun b=>X b∨b=g) (some ⟨g,0,none⟩) [a,b]∧Below w.heap.size w w':=by
 subst hg hw
 have hbel:=bel_alloc w (.cells #[.string a,.string b] 9)
 refine ⟨h.box hbel (fun b hb=>hb.imp id fun e=>by rw [e,World.size_alloc];omega) (.inl h.xC) (.inl h.xV),fun j s hj=>?_,hbel⟩
 match j,hj with
 | 0,hj=>injection hj with hj;subst hj;exact ⟨w.heap.size,0,rfl,.inr rfl,by simp,ha⟩
 | 1,hj=>injection hj with hj;subst hj;exact ⟨w.heap.size,0,rfl,.inr rfl,by simp,hb⟩
 | n+2,hj=>cases hj
theorem Zs.row1 (h:Zs w0 w c S L r T M X) {w':World} {g:Nat} (hg:w.heap.size=g) {a:ByteArray} (hw:w.alloc (.cells #[.string a] 9)=w') (ha:a.size≤9223372036854775807) :
  Zs w0 w' c S L r T M (fun b=>X b∨b=g)∧NL w' (fun b=>X b∨b=g) (some ⟨g,0,none⟩) [a]∧Below w.heap.size w w':=by
 subst hg hw
 have hbel:=bel_alloc w (.cells #[.string a] 9)
 refine ⟨h.box hbel (fun b hb=>hb.imp id fun e=>by rw [e,World.size_alloc];omega) (.inl h.xC) (.inl h.xV),fun j s hj=>?_,hbel⟩
 match j,hj with
 | 0,hj=>injection hj with hj;subst hj;exact ⟨w.heap.size,0,rfl,.inr rfl,by simp,ha⟩
 | n+1,hj=>cases hj
end
theorem awake_any (w:World):Calls Tryz.prog 44 #[] w (AwakeE w):=by
 obtain ⟨b,hb⟩:∃b,w.heap.size=b:=⟨_,rfl⟩
 obtain ⟨w1,hw1⟩:∃w1,w.alloc (.cells #[.string ⟨#[47,97]⟩,.int .i64 2,.string ⟨#[]⟩,.string ⟨#[47,97,47,98]⟩,.int .i64 1,.string ⟨#[120,121]⟩] 104)=w1:=⟨_,rfl⟩
 have hh:w1.heap[b]?=some (.cells #[.string ⟨#[47,97]⟩,.int .i64 2,.string ⟨#[]⟩,.string ⟨#[47,97,47,98]⟩,.int .i64 1,.string ⟨#[120,121]⟩] 104 (0,0)):=by rw [←hw1,←hb];exact heap_alloc_new w _
 have hb1:Below w.heap.size w w1:=by rw [←hw1];exact bel_alloc _ _
 have hbs:b<w1.heap.size:=by rw [←hw1,←hb,World.size_alloc];omega
 have hlr:LR w1 w1.heap.size (some ⟨b,0,none⟩) zl2:=fun j x hx=>by
  have c:=fun i=>Lib.cell_of_heap hh i
  match j,hx with
  | 0,hx=>injection hx with hx;subst hx;exact ⟨b,0,rfl,hbs,(c 0).trans rfl,(c 1).trans rfl,(c 2).trans rfl⟩
  | 1,hx=>injection hx with hx;subst hx;exact ⟨b,0,rfl,hbs,(c 3).trans rfl,(c 4).trans rfl,(c 5).trans rfl⟩
  | n+2,hx=>cases hx
 have Qf:=Qa (begin_any (A:=none) (c1:=0) (c2:=2) (upper:=[]) (fun j x hx=>by cases hx) hlr (by decide) (by decide) (fun x hx=>nomatch hx) (fun x hx=>by
  rcases List.mem_cons.1 hx with rfl|hx
  ·decide
  ·rcases List.mem_cons.1 hx with rfl|hx
   ·decide
   ·cases hx) (r:=9) (by decide))
 unfold BegE at Qf
 have HF:=Qa (show ∀W:World,Below w.heap.size w W→AwakeE w (.returned (.bool true)) W from fun W h=>⟨rfl,h⟩)
 obtain ⟨PQ,hPQ⟩:∃P,AwakeE w=P:=⟨_,rfl⟩
 rw [hPQ] at HF ⊢
 have Xp:=Qa hb1
 clear hh hbs hlr hb1 hPQ
 go_enter Tryz.func44,Tryz.ntmps44
 go_wp2_with fail
 try rw [hw1]
 try rw [hb]
 clear hw1 hb
 refine Qf.out.mono ?_
 rintro _ w2 (⟨-,-,hne⟩|⟨G,c,R,D1,R1,D2,R2',S,Sd,L,T,rfl,hbg,htr,hs0⟩)
 ·have:=hne (by first|rfl|trivial)
  rw [aL_is] at this;cases this
 rw [aL_is] at htr
 injection htr with htr
 subst htr
 have hs:=hs0 (by first|rfl|trivial)
 subst hs
 have HZ:=Qa hbg.z
 have Qs:=Qa hbg.bx
 have HT:=Qa hbg.T
 have Qc:=Qa (show ∀b,b=G→b<w1.heap.size∨b=G∨b=c.C∨b=c.V∨b=R from fun b h=>.inr (.inl h))
 obtain ⟨hcu,hcl,hcw⟩:c.u=2∧c.l=1∧c.wk=3:=⟨hbg.u,hbg.l,hbg.wk⟩
 have Qb:=Qa hcu
 have Qi:=Qa hcl
 have Qg:=Qa hcw
 obtain ⟨X,hX⟩:∃X:Nat→Prop,(fun b=>b<w1.heap.size∨b=G∨b=c.C∨b=c.V∨b=R)=X:=⟨_,rfl⟩
 have Qc:=Qa (show X G by rw [←hX];exact .inr (.inl rfl))
 rw [hX] at HZ
 generalize [KD w1 D1 R1 Sd 9,KD w1 D2 R2' aL 65536]=M at *
 clear hbg hs0 Qf hcu hcl hcw hX
 have k4:w2.cell? ⟨G,4,none⟩=some (Pq c.C):=(Lib.cell_of_heap Qs.out 4).trans rfl
 have Q3:=Qa (cnew_nil w2 1 1 1)
 have Q4:=Qa (view_any HZ.out)
 go_wp2_with fail
 refine Q3.out.mono ?_
 rintro _ w3 ⟨rfl,rfl⟩
 go_wp2_with fail
 refine Q4.out.mono ?_
 rintro _ w3 ⟨rfl,rfl⟩
 clear Q3 Q4
 -- Node
 obtain ⟨g1,hg1⟩:∃g,w3.heap.size=g:=⟨_,rfl⟩
 obtain ⟨w4,hw4⟩:∃w4,w3.alloc (.cells #[.string ⟨#[97]⟩,.string ⟨#[98]⟩] 9)=w4:=⟨_,rfl⟩
 obtain ⟨hz4,hn4,hb4⟩:=HZ.out.row2 hg1 hw4 (by decide) (by decide)
 have Qt:=Qa (hz4.sub (Y:=X) (fun b h=>.inl h) HZ.out.xC HZ.out.xV)
 have Qm:=Qa (node_any (cap:=2) hz4 hn4 (by decide))
 rw [Qb.out,Qi.out,aw_node] at Qm
 unfold RetW at Qm
 have Q5:=Qa ((hb4.block G (HZ.out.lt Qc.out)).trans Qs.out)
 clear hz4 hn4 hb4 HZ Qs
 go_upto_region 4 with fail
 go_wp2_with fail
 try rw [hw4]
 try rw [hg1]
 clear hw4 hg1
 refine Qm.out.mono ?_
 rintro _ w5 ⟨rfl,hb5⟩
 have Qk:=Qa (Qt.out.below hb5)
 have Q6:=Qa ((hb5.block G (Qt.out.lt Qc.out)).trans Q5.out)
 clear hb5 Qm Qt Q5 k4
 obtain ⟨g3,hg3⟩:∃g,w5.heap.size=g:=⟨_,rfl⟩
 obtain ⟨w6,hw6⟩:∃w6,w5.alloc (.cells #[.int .i64 0,.int .i64 3] 24)=w6:=⟨_,rfl⟩
 have hb6:Below w5.heap.size w5 w6:=by rw [←hw6];exact bel_alloc _ _
 have Qj:=Qa (Qk.out.box (Y:=fun b=>X b∨b=g3) hb6 (fun b hb=>hb.imp id fun e=>by rw [e,←hg3,←hw6,World.size_alloc];omega) (.inl Qk.out.xC) (.inl Qk.out.xV))
 have Qv:=Qa ((hb6.block G (Qk.out.lt Qc.out)).trans Q6.out)
 have Q7:=Qa (show R2 w6 g3 0 3 by rw [←hw6,←hg3];exact R2.new w5 0 3)
 clear hb6 Qk Q6
 go_upto_region 5 with fail
 try rw [hw6]
 try rw [hg3]
 clear hw6 hg3
 -- Up
 have k4:w6.cell? ⟨G,4,none⟩=some (Pq c.C):=(Lib.cell_of_heap Qv.out 4).trans rfl
 obtain ⟨g4,hg4⟩:∃g,w6.heap.size=g:=⟨_,rfl⟩
 obtain ⟨w7,hw7⟩:∃w7,w6.alloc (.cells #[.string ⟨#[97]⟩,.string ⟨#[98]⟩] 9)=w7:=⟨_,rfl⟩
 obtain ⟨hz7,hn7,hb7⟩:=Qj.out.row2 hg4 hw7 (by decide) (by decide)
 have Q8:=Qa ((hb7.block G (Qj.out.lt (.inl Qc.out))).trans Qv.out)
 have Q9:=Qa (Q7.out.below hb7)
 have Qd:=Qa (And.intro Qj.out.xC Qj.out.xV)
 have Qn:=Qa (up_any (cap:=2) (W:=3) hz7 hn7 (by decide) (by decide) (by have:=HT.out;omega) (by rw [Qb.out];exact Bg.start.kind2) (by rw [Qb.out];exact Bg.start.l2) Bg.start.out (by rw [Qg.out];rfl) (by rw [Qb.out];decide) (by rw [Qb.out,Qg.out];decide))
 unfold UpE at Qn
 rw [Qb.out,Qi.out,Qg.out] at Qn
 have Xq:=Qa (Qj.out.good2)
 clear hz7 hn7 hb7 Qj Qv Q7
 go_wp2_with fail
 try rw [hw7]
 try rw [hg4]
 clear hw7 hg4 k4
 refine Qn.out.mono ?_
 rintro _ w8 ⟨v,er,S',rfl,hz8,hs8,hur⟩
 obtain ⟨rfl,n,rfl,hmk⟩:=aw_up Xq.out hur
 have Qh:=Qa hmk
 have Qo:=Qa (hz8.sub (Y:=fun b=>X b∨b=g3) (fun b h=>.inl h) Qd.out.1 Qd.out.2)
 have Qw:=Qa ((hs8 G (.inl (.inl Qc.out))).trans Q8.out)
 have Xa:=Qa (Q9.out.same (hs8 g3 (.inl (.inr rfl))))
 clear hz8 hs8 hur hmk Qn Q8 Q9
 have k0:w8.cell? ⟨G,0,none⟩=some (Pq c.P1):=(Lib.cell_of_heap Qw.out 0).trans rfl
 -- Read
 have Qe:=Qa (cb.x_read Qo.out.brx1 (n:Int) 0 9)
 unfold cb.ReadI at Qe
 rw [(aw_read Qh.out).1,(aw_read Qh.out).2] at Qe
 dsimp only at Qe
 go_wp2_with fail
 refine Qe.out.mono ?_
 rintro _ w9 ⟨A,cc,rfl,hrow,hb9⟩
 obtain ⟨hcc,hrow2⟩:=hrow
 subst hcc
 obtain ⟨g7,hg7a,rfl,hg7b⟩:=hrow2.resolve_left (fun e=>absurd e.2 (by decide))
 have Qp:=Qa (Qo.out.box (Y:=fun b=>(X b∨b=g3)∨b=g7) hb9 (fun b hb=>hb.imp id fun e=>by rw [e];exact ⟨hg7a,(Array.getElem?_eq_some_iff.1 hg7b).1⟩) (.inl Qd.out.1) (.inl Qd.out.2))
 have Qx:=Qa ((hb9.block G (Qo.out.lt (.inl Qc.out))).trans Qw.out)
 have Xb:=Qa (Xa.out.below hb9)
 have Xc:=Qa hg7b
 clear hb9 hg7a hg7b hrow2 Qe Qo Qw Xa k0
 -- Hide
 have k4:w9.cell? ⟨G,4,none⟩=some (Pq c.C):=(Lib.cell_of_heap Qx.out 4).trans rfl
 obtain ⟨gA,hgA⟩:∃g,w9.heap.size=g:=⟨_,rfl⟩
 obtain ⟨wA,hwA⟩:∃wA,w9.alloc (.cells #[.string ⟨#[97]⟩,.string ⟨#[99]⟩] 9)=wA:=⟨_,rfl⟩
 obtain ⟨hzA,hnA,hbA⟩:=Qp.out.row2 hgA hwA (by decide) (by decide)
 have Xd:=Qa ((hbA.block G (Qp.out.lt (.inl (.inl Qc.out)))).trans Qx.out)
 have Xe:=Qa (Xb.out.below hbA)
 have Xf:=Qa ((hbA.block g7 (Qp.out.lt (.inr rfl))).trans Xc.out)
 have Qq:=Qa (hide_any (cap:=2) hzA hnA (by decide) (by decide) (by have:=HT.out;omega))
 unfold HideE at Qq
 rw [Qb.out,Qi.out] at Qq
 clear hzA hnA hbA Qp Qx Xb Xc
 go_wp2_with fail
 try rw [hwA]
 try rw [hgA]
 clear hwA hgA k4
 refine Qq.out.mono ?_
 rintro _ wB ⟨er,S2,rfl,hzB,hsB,hhr⟩
 obtain ⟨rfl,rfl⟩:=aw_hide Qh.out hhr
 have Qr:=Qa (hzB.sub (Y:=fun b=>(X b∨b=g3)∨b=g7) (fun b h=>.inl h) (.inl Qd.out.1) (.inl Qd.out.2))
 have Qy:=Qa ((hsB G (.inl (.inl (.inl Qc.out)))).trans Xd.out)
 have Xg:=Qa (Xe.out.same (hsB g3 (.inl (.inl (.inr rfl)))))
 have Xh:=Qa ((hsB g7 (.inl (.inr rfl))).trans Xf.out)
 clear hzB hsB hhr Qq Xd Xe Xf
 -- Chain
 have k4:wB.cell? ⟨G,4,none⟩=some (Pq c.C):=(Lib.cell_of_heap Qy.out 4).trans rfl
 obtain ⟨gC,hgC⟩:∃g,wB.heap.size=g:=⟨_,rfl⟩
 obtain ⟨wC,hwC⟩:∃wC,wB.alloc (.cells #[.string ⟨#[97]⟩] 9)=wC:=⟨_,rfl⟩
 obtain ⟨hzC,hnC,hbC⟩:=Qr.out.row1 hgC hwC (by decide)
 have Xi:=Qa ((hbC.block G (Qr.out.lt (.inl (.inl Qc.out)))).trans Qy.out)
 have Xj:=Qa (Xg.out.below hbC)
 have Xk:=Qa ((hbC.block g7 (Qr.out.lt (.inr rfl))).trans Xh.out)
 have Ql:=Qa (chain_any (cap:=1) hzC hnC (by decide) (by have:=HT.out;omega))
 unfold ChainE at Ql
 rw [Qb.out,Qi.out,aw_chain Qh.out] at Ql
 dsimp only at Ql
 clear hzC hnC hbC Qr Qy Xg Xh
 go_wp2_with fail
 try rw [hwC]
 try rw [hgC]
 clear hwC hgC k4
 refine Ql.out.mono ?_
 rintro _ wD ⟨rfl,hzD,hsD⟩
 have Qz:=Qa (hzD.sub (Y:=fun b=>(X b∨b=g3)∨b=g7) (fun b h=>.inl h) (.inl Qd.out.1) (.inl Qd.out.2))
 have Xl:=Qa ((hsD G (.inl (.inl (.inl Qc.out)))).trans Xi.out)
 have Qe:=Qa (Xj.out.same (hsD g3 (.inl (.inl (.inr rfl)))))
 have Xm:=Qa ((hsD g7 (.inl (.inr rfl))).trans Xk.out)
 clear hzD hsD Ql Xi Xj Xk
 -- Deep
 have k4:wD.cell? ⟨G,4,none⟩=some (Pq c.C):=(Lib.cell_of_heap Xl.out 4).trans rfl
 obtain ⟨gE,hgE⟩:∃g,wD.heap.size=g:=⟨_,rfl⟩
 obtain ⟨wE,hwE⟩:∃wE,wD.alloc (.cells #[.string ⟨#[122]⟩] 9)=wE:=⟨_,rfl⟩
 obtain ⟨hzE,hnE,hbE⟩:=Qz.out.row1 hgE hwE (by decide)
 have Xn:=Qa (Qe.out.below hbE)
 have Xo:=Qa ((hbE.block g7 (Qz.out.lt (.inr rfl))).trans Xm.out)
 have Qf:=Qa (aw_bg Qh.out)
 have Q2:=Qa (deepE_any (cap:=1) (W:=3) hzE hnE (by decide) (by decide) (by have:=HT.out;simp only [List.length_cons,List.length_nil];omega) (by rw [Qb.out];exact Qf.out.kind2) (by rw [Qb.out];exact Qf.out.l2) Qf.out.out (by rw [Qg.out];rfl) (by rw [Qb.out];decide) (by rw [Qb.out,Qg.out];decide)
  (fun v er S' h=>by rw [Qb.out,Qi.out,Qg.out] at h;rw [(aw_deep Qh.out h).1];decide))
 rw [Qb.out,Qi.out,Qg.out] at Q2
 clear hzE hnE hbE Qz Xl Qe Xm
 go_wp2_with fail
 try rw [hwE]
 try rw [hgE]
 clear hwE hgE k4
 refine Q2.out.mono ?_
 rintro _ wF ⟨v,er,S3,rfl,hzF,hsF,hur⟩
 obtain ⟨rfl,-⟩:=aw_deep Qh.out hur
 have Xr:=Qa (Xn.out.same (hsF g3 (.inl (.inl (.inr rfl)))))
 have hdF:=(hsF g7 (.inl (.inr rfl))).trans Xo.out
 have hcv:=bl.Row.conv (w:=wF) (lo:=0) (n:=2) (c:=2) (A:=some ⟨g7,0,none⟩) (f:=fun j=>(aL.ino 3).body.dat ((0:Int).toNat+j)) ⟨rfl,.inr ⟨g7,Nat.zero_le _,rfl,hdF⟩⟩
 have htx:bl.strF 2 (fun j=>(aL.ino 3).body.dat ((0:Int).toNat+j))=zxy:=by
  have e:(fun j=>(aL.ino 3).body.dat ((0:Int).toNat+j))=(aL.ino 3).body.dat:=funext fun j=>by simp
  rw [e];exact aw_text
 rw [htx] at hcv
 have Xs:=Qa (HF.out wF (bel_step Xp.out hzF.bel))
 obtain ⟨t0,t1⟩:=Xr.out
 clear hzF hsF hur hdF htx Q2 Xn Xo
 go_wp2_with fail
 exact Xs.out
end Go.Proofs.YtgoddboicjfkcaaGreat.cu
namespace Go.Proofs.YtgoddboicjfkcaaGreat.cu
open Go.RowKit Go.Deep
open br (BS Ino Inv at_nat abE nameE fresh)
open bl (Pq Only U8 AB)
open mg (bel_step bel_alloc)
open fl (Ln LR)
def Few (l:List Ln):Prop:=l.length≤41∧∀x∈l,x.data.size≤65536
def SmallE (w:World) (upper lower:List Ln) (e:Ending) (w':World):Prop:=∃b:Bool,e=.returned (.bool b)∧Below w.heap.size w w'∧(b=true→Few upper∧Few lower)
theorem small_any {w:World} {A B:Option Addr} {upper lower:List Ln} {c1 c2:Nat} (hu:LR w w.heap.size A upper) (hl:LR w w.heap.size B lower) (hnu:upper.length≤maxLen) (hnl:lower.length≤maxLen) (hzu:∀x∈upper,x.path.size≤maxLen∧x.data.size≤maxLen) (hzl:∀x∈lower,x.path.size≤maxLen∧x.data.size≤maxLen) :
  Calls Tryz.prog 45 #[.slice A upper.length c1,.slice B lower.length c2,.slice none 0 0] w (SmallE w upper lower):=by
 have HF:=Qa (show ∀W:World,Below w.heap.size w W→SmallE w upper lower (.returned (.bool false)) W from fun W h=>⟨false,rfl,h,fun e=>nomatch e⟩)
 have HT:=Qa (show ∀W:World,Below w.heap.size w W→Few upper→Few lower→SmallE w upper lower (.returned (.bool true)) W from fun W h a b=>⟨true,rfl,h,fun _=>⟨a,b⟩⟩)
 obtain ⟨PQ,hPQ⟩:∃P,SmallE w upper lower=P:=⟨_,rfl⟩
 rw [hPQ] at HF HT ⊢
 obtain ⟨nu,hnu2⟩:∃n,upper.length=n:=⟨_,rfl⟩
 obtain ⟨nl,hnl2⟩:∃n,lower.length=n:=⟨_,rfl⟩
 have Qd:=Qa hnu2
 have Qe:=Qa hnl2
 have Qh:=Qa hu
 have Qj:=Qa hl
 have Qi:=Qa hzu
 have Qk:=Qa hzl
 rw [hnu2] at hnu ⊢
 rw [hnl2] at hnl ⊢
 have Ql:=Qa hnu
 have Qq:=Qa hnl
 clear hu hl hzu hzl hPQ hnu2 hnl2 hnu hnl
 go_enter Tryz.func45,Tryz.ntmps45
 go_upto_region 3 with fail
 go_loopg [7,8,13] nu (fun gh s7 s8 s13 wr=>∃(j v:Nat),gh+j=nu∧s13=.int .i64 (j:Int)∧s7=.int .i64 (v:Int)∧v≤65536∧Hid (Below w.heap.size w wr)∧Hid (j≤41∧∀i,∀x,i<j→upper[i]?=some x→x.data.size≤65536))
 case atStart=>exact ⟨0,0,by omega,rfl,rfl,by omega,Qa (Below.refl _ _),Qa ⟨by omega,fun i x h=>by omega⟩⟩
 case round =>
  obtain ⟨j,v,hgj,rfl,rfl,hv,HB,HJ⟩:=hrel
  by_cases hj:j<nu
  ·obtain ⟨x,hx⟩:∃x,upper[j]?=some x:=⟨upper[j]'(by rw [Qd.out];exact hj),List.getElem?_eq_getElem _⟩
   obtain ⟨b,off,hA,hbB,k0,-,k2⟩:=(Qh.out.same fun b hb=>HB.out.block b hb) j x hx
   subst hA
   have hmx:=Qi.out x (List.mem_of_getElem? hx)
   unfold maxLen at hmx
   obtain ⟨p,hp⟩:∃p,x.path.size=p:=⟨_,rfl⟩
   obtain ⟨d,hd⟩:∃d,x.data.size=d:=⟨_,rfl⟩
   rw [hp,hd] at hmx
   have HX:=Qa hx
   have HD:=Qa hd
   obtain ⟨xp,xk,xd⟩:=x
   dsimp only at k0 k2 hp hd
   have hjm:j≤41:=HJ.out.1
   obtain ⟨md,hmd1⟩:∃m:Nat,min d 262144=m:=⟨_,rfl⟩
   obtain ⟨mp,hmp1⟩:∃m:Nat,min p 262144=m:=⟨_,rfl⟩
   obtain ⟨sm,hsm⟩:∃m:Nat,md+mp=m:=⟨_,rfl⟩
   obtain ⟨v',hv'⟩:∃m:Nat,v+sm=m:=⟨_,rfl⟩
   have hmd:min (d:Int) 262144=(md:Int):=by omega
   have hmp:min (p:Int) 262144=(mp:Int):=by omega
   have hw1:IntKind.i64.wrap ((md:Int)+(mp:Int))=(sm:Int):=by rw [IntWalk.i64_in _ (by omega)];omega
   have hw2:IntKind.i64.wrap ((v:Int)+(sm:Int))=(v':Int):=by rw [IntWalk.i64_in _ (by omega)];omega
   have Qf:=Qa (And.intro hmd1 (And.intro hmp1 (And.intro hsm hv')))
   have Qb:=Qa (And.intro hj hgj)
   clear hmd1 hmp1 hsm hv' hmx
   go_upto_region 5 with fail
   have S0:wr.drew.cell? ⟨b,off+j*3,none⟩=some (.string xp)∧wr.drew.cell? ⟨b,off+j*3+2,none⟩=some (.string xd):=⟨k0,k2⟩
   clear k0 k2 hx
   go_region_held3 (fun W=>W.cell? ⟨b,off+j*3,none⟩=some (.string xp)∧W.cell? ⟨b,off+j*3+2,none⟩=some (.string xd))
    (first|with_reducible exact S0|assumption|go_keep) (fail)
   all_goals
    clear S0 hw1 hw2 hmd hmp
    have Qc:=Qa (HF.out wr.drew HB.out.drew)
    by_cases hbad:v'≤65536∧j≤40
    ·have g1:¬(v':Int) > 65536:=by omega
     have g2:¬(j:Int) > 40:=by omega
     have hd2:d≤65536:=by have:=Qf.out;omega
     have Qg:=Qa (show j+1≤41∧∀i,∀x,i<j+1→upper[i]?=some x→x.data.size≤65536 from ⟨by omega,fun i x hi hx=>by
      by_cases e:i=j
      ·subst e
       rw [HX.out] at hx
       injection hx with hx
       rw [←hx]
       exact Nat.le_trans (Nat.le_of_eq HD.out) hd2
      ·exact HJ.out.2 i x (by omega) hx⟩)
     have hv2:=hbad.1
     clear hbad hd2
     go_wp2_with fail
     go_roundg (gk - 1)
     case measure=>have:=Qb.out;omega
     case rel=>exact ⟨j+1,v',by have:=Qb.out;omega,by go_num,rfl,hv2,Qa HB.out.drew,Qg⟩
    ·by_cases h1:v'≤65536
     ·have g1:¬(v':Int) > 65536:=by omega
      have g2:(j:Int) > 40:=by omega
      clear hbad
      go_wp2_with fail
      exact Qc.out
     ·have g1:(v':Int) > 65536:=by omega
      clear hbad
      go_wp2_with fail
      exact Qc.out
  ·have hjn:j=nu:=by omega
   have Qm:=Qa (show Few upper from ⟨by rw [Qd.out,←hjn];exact HJ.out.1,fun x hx=>by
    obtain ⟨i,hi⟩:=List.mem_iff_getElem?.1 hx
    exact HJ.out.2 i x (by have:=(List.getElem?_eq_some_iff.1 hi).1;rw [Qd.out] at this;omega) hi⟩)
   have Qn:=Qa HB.out
   have hv0:=hv
   clear HJ hjn HB hv Qd Qh Qi Ql hgj
   go_upto_region 10 with fail
   go_loopg [7,9,42] nl (fun gh s7 s9 s42 wr=>∃(j v:Nat),gh+j=nl∧s42=.int .i64 (j:Int)∧s7=.int .i64 (v:Int)∧v≤65536∧Hid (Below w.heap.size w wr)∧Hid (j≤41∧∀i,∀x,i<j→lower[i]?=some x→x.data.size≤65536))
   case atStart=>exact ⟨0,v,by omega,rfl,rfl,hv0,Qn,Qa ⟨by omega,fun i x h=>by omega⟩⟩
   case round =>
    obtain ⟨j,v,hgj,rfl,rfl,hv,HB,HJ⟩:=hrel
    by_cases hj:j<nl
    ·obtain ⟨x,hx⟩:∃x,lower[j]?=some x:=⟨lower[j]'(by rw [Qe.out];exact hj),List.getElem?_eq_getElem _⟩
     obtain ⟨b,off,hA,hbB,k0,-,k2⟩:=(Qj.out.same fun b hb=>HB.out.block b hb) j x hx
     subst hA
     have hmx:=Qk.out x (List.mem_of_getElem? hx)
     unfold maxLen at hmx
     obtain ⟨p,hp⟩:∃p,x.path.size=p:=⟨_,rfl⟩
     obtain ⟨d,hd⟩:∃d,x.data.size=d:=⟨_,rfl⟩
     rw [hp,hd] at hmx
     have HX:=Qa hx
     have HD:=Qa hd
     obtain ⟨xp,xk,xd⟩:=x
     dsimp only at k0 k2 hp hd
     have hjm:j≤41:=HJ.out.1
     obtain ⟨md,hmd1⟩:∃m:Nat,min d 262144=m:=⟨_,rfl⟩
     obtain ⟨mp,hmp1⟩:∃m:Nat,min p 262144=m:=⟨_,rfl⟩
     obtain ⟨sm,hsm⟩:∃m:Nat,md+mp=m:=⟨_,rfl⟩
     obtain ⟨v',hv'⟩:∃m:Nat,v+sm=m:=⟨_,rfl⟩
     have hmd:min (d:Int) 262144=(md:Int):=by omega
     have hmp:min (p:Int) 262144=(mp:Int):=by omega
     have hw1:IntKind.i64.wrap ((md:Int)+(mp:Int))=(sm:Int):=by rw [IntWalk.i64_in _ (by omega)];omega
     have hw2:IntKind.i64.wrap ((v:Int)+(sm:Int))=(v':Int):=by rw [IntWalk.i64_in _ (by omega)];omega
     have Qf:=Qa (And.intro hmd1 (And.intro hmp1 (And.intro hsm hv')))
     have Qb:=Qa (And.intro hj hgj)
     clear hmd1 hmp1 hsm hv' hmx
     go_upto_region 12 with fail
     have S0:wr.drew.cell? ⟨b,off+j*3,none⟩=some (.string xp)∧wr.drew.cell? ⟨b,off+j*3+2,none⟩=some (.string xd):=⟨k0,k2⟩
     clear k0 k2 hx
     go_region_held3 (fun W=>W.cell? ⟨b,off+j*3,none⟩=some (.string xp)∧W.cell? ⟨b,off+j*3+2,none⟩=some (.string xd))
      (first|with_reducible exact S0|assumption|go_keep) (fail)
     all_goals
      clear S0 hw1 hw2 hmd hmp
      have Qc:=Qa (HF.out wr.drew HB.out.drew)
      by_cases hbad:v'≤65536∧j≤40
      ·have g1:¬(v':Int) > 65536:=by omega
       have g2:¬(j:Int) > 40:=by omega
       have hd2:d≤65536:=by have:=Qf.out;omega
       have Qg:=Qa (show j+1≤41∧∀i,∀x,i<j+1→lower[i]?=some x→x.data.size≤65536 from ⟨by omega,fun i x hi hx=>by
        by_cases e:i=j
        ·subst e
         rw [HX.out] at hx
         injection hx with hx
         rw [←hx]
         exact Nat.le_trans (Nat.le_of_eq HD.out) hd2
        ·exact HJ.out.2 i x (by omega) hx⟩)
       have hv2:=hbad.1
       clear hbad hd2
       go_wp2_with fail
       go_roundg (gk - 1)
       case measure=>have:=Qb.out;omega
       case rel=>exact ⟨j+1,v',by have:=Qb.out;omega,by go_num,rfl,hv2,Qa HB.out.drew,Qg⟩
      ·by_cases h1:v'≤65536
       ·have g1:¬(v':Int) > 65536:=by omega
        have g2:(j:Int) > 40:=by omega
        clear hbad
        go_wp2_with fail
        exact Qc.out
       ·have g1:(v':Int) > 65536:=by omega
        clear hbad
        go_wp2_with fail
        exact Qc.out
    ·have hjn:j=nl:=by omega
     have Qo:=Qa (show Few lower from ⟨by rw [Qe.out,←hjn];exact HJ.out.1,fun x hx=>by
      obtain ⟨i,hi⟩:=List.mem_iff_getElem?.1 hx
      exact HJ.out.2 i x (by have:=(List.getElem?_eq_some_iff.1 hi).1;rw [Qe.out] at this;omega) hi⟩)
     have Qp:=Qa (HT.out wr HB.out Qm.out Qo.out)
     clear HJ hjn
     go_upto_region 17 with fail
     go_loopg [10] 1 (fun gh s10 wq=>wq=wr∧s10=.int .i64 0)
     case atStart=>exact ⟨rfl,rfl⟩
     case round =>
      obtain ⟨hwq,rfl⟩:=hrel
      replace hwq:=hwq.symm
      subst hwq
      go_wp2_with fail
      exact Qp.out
end Go.Proofs.YtgoddboicjfkcaaGreat.cu
namespace Go.Proofs.YtgoddboicjfkcaaGreat.cu
open Go.RowKit
open dn (En lget lset ldel nerr dotB Sorted)
open br (BS Ino Inv at_nat abE nameE fresh)
open bl (AB cnt)
open cb (newI)
open mg (Nd opq kindV getV rootV belV statN)
section
variable {S S' L:BS} {r r2:Nat}
theorem make_used (hG:br.Good S r) (d:Int) (s:ByteArray) (k:Int) (t:ByteArray):(S.make d s k t).2.used=S.used:=by
 by_cases h:(S.make d s k t).1.2=0
 ·obtain ⟨D,n,_,_,hm,_⟩:=mk_of hG h
  rw [hm.us]
  show S.used+abE.n=S.used
  rw [br.abE_n];rfl
 ·rw [(make_no h).1]
theorem enter_used (hG:br.Good S r) (d:Int) (a:Nd) (t:ByteArray):(enterF S L d a t).2.used=S.used∧br.Good (enterF S L d a t).2 r:=by
 unfold enterF
 split
 ·exact ⟨rfl,hG⟩
 ·split
  ·exact ⟨rfl,hG⟩
  ·split
   ·exact ⟨rfl,hG⟩
   ·split
    ·exact ⟨make_used hG _ _ _ _,hG.make _ _ _ _⟩
    ·exact ⟨make_used hG _ _ _ _,hG.make _ _ _ _⟩
theorem desc_used:∀(p:List ByteArray) {S:BS} {d:Int} {a:Nd},br.Good S r→(descF L S d a p).2.used=S.used∧br.Good (descF L S d a p).2 r
 | [],S,d,a,hG=>⟨rfl,hG⟩
 | t::p,S,d,a,hG=>by
  rw [descF_cons]
  obtain ⟨h1,h2⟩:=enter_used (L:=L) hG d a t
  split
  ·exact ⟨h1,h2⟩
  ·obtain ⟨k1,k2⟩:=desc_used p (d:=(enterF S L d a t).1.1.1) (a:=(enterF S L d a t).1.1) h2
   exact ⟨k1.trans h1,k2⟩
end
end Go.Proofs.YtgoddboicjfkcaaGreat.cu
namespace Go.Proofs.YtgoddboicjfkcaaGreat.cu
open Go.RowKit
open dn (En lget lset ldel nerr dotB Sorted)
open br (BS Ino Inv at_nat abE nameE fresh badKind)
open cb (newI)
open mg (Nd opq kindV getV rootV belV)
section
variable {S S' L:BS} {r r2:Nat}
theorem enter_grow (hG:br.Good S r) (d:Int) (a:Nd) (t:ByteArray):Grow L S (enterF S L d a t).2:=by
 have hm:Grow L S (S.make d t 2 ⟨#[]⟩).2:=by
  by_cases h:(S.make d t 2 ⟨#[]⟩).1.2=0
  ·obtain ⟨D,n,_,_,hm,_⟩:=mk_of hG h
   exact hm.grow hG.1
  ·rw [(make_no h).1];exact Grow.refl L S
 unfold enterF
 split
 ·exact Grow.refl L S
 ·split
  ·exact Grow.refl L S
  ·split
   ·exact Grow.refl L S
   ·split
    ·exact hm
    ·exact hm
theorem desc_grow:∀(p:List ByteArray) {S:BS} {d:Int} {a:Nd},br.Good S r→Grow L S (descF L S d a p).2
 | [],S,d,a,hG=>Grow.refl L S
 | t::p,S,d,a,hG=>by
  rw [descF_cons]
  have h1:=enter_grow (L:=L) hG d a t
  split
  ·exact h1
  ·exact h1.trans (desc_grow p (enter_used (L:=L) hG d a t).2)
def Bar (m:Nd×Int) (S L:BS) (e:Int):Prop:=e=28∨m.2=e∨(e=20∧m.2=0∧kindV S L m.1≠2)
theorem desc_bar (hL:br.Good L r2):∀(p:List ByteArray) {S:BS} {d:Int} {a:Nd},br.Good S r→a.1=d→S.kindOf d=2→(S.at d).links≠0→(descF L S d a p).1.2≠0 →
  (descF L S d a p).1.1.1=0∧Bar (walkV (descF L S d a p).2 L a p) (descF L S d a p).2 L (descF L S d a p).1.2
 | [],S,d,a,hG,hd,hk,hl,h=>absurd rfl h
 | t::p,S,d,a,hG,hd,hk,hl,h=>by
  rw [descF_cons] at h ⊢
  by_cases h0:(enterF S L d a t).1.2=0
  ·rw [if_neg (by simpa using h0)] at h ⊢
   obtain ⟨g1,g2,g3,g4,g5,g6⟩:=enter_ok hG hd hk h0
   have hn:=kind_ne g2
   have hl2:((enterF S L d a t).2.at (enterF S L d a t).1.1.1).links≠0:=by
    rcases g6 with ⟨a1,a2⟩|⟨a1,a2,D,n,rfl,a4,a5⟩
    ·have h9:=getV_up a1 hn
     have:=got_links (S:=S) (d:=a.1) (t:=t) hG.1 (by rw [h9];exact hn)
     rw [h9] at this
     rw [a2];exact this
    ·rw [a4];exact (new_bare a5).2.2
   obtain ⟨i1,i2⟩:=desc_bar hL p g1 (a:=(enterF S L d a t).1.1) rfl g2 hl2 h
   refine ⟨i1,?_⟩
   have hgr:=desc_grow (L:=L) p (d:=(enterF S L d a t).1.1.1) (a:=(enterF S L d a t).1.1) g1
   have hg:getV (descF L (enterF S L d a t).2 (enterF S L d a t).1.1.1 (enterF S L d a t).1.1 p).2 L a t=((enterF S L d a t).1.1,0):=hgr.got a _ t (g3.dir _ (by rw [hd];exact hk)) g4 hn
   rw [walkV_ok hg]
   exact i2
  ·rw [if_pos h0]
   refine ⟨rfl,?_⟩
   dsimp only
   unfold enterF at h0 ⊢
   by_cases e1:(getV S L a t).2=0
   ·rw [if_neg (by simpa using e1)] at h0 ⊢
    have hgv:getV S L a t=((getV S L a t).1,0):=Prod.ext rfl e1
    have hk0:=got_kind hG.1 hL.1 hgv
    by_cases e2:kindV S L (getV S L a t).1=2
    ·rw [if_neg (by simpa using e2)] at h0 ⊢
     by_cases e3:(getV S L a t).1.1≠0
     ·rw [if_pos e3] at h0;exact absurd rfl h0
     ·rw [if_neg e3] at h0 ⊢
      by_cases e4:(S.make d t 2 ⟨#[]⟩).1.2≠0
      ·rw [if_pos e4] at h0 ⊢
       refine .inl ?_
       dsimp only
       have hv:S.vacant d t=0:=by
        have e5:(getV S L a t).1.1=0:=Classical.byContradiction e3
        obtain ⟨Y,_,_,_,_,hv⟩:=low_seen (y:=(getV S L a t).1.2) hG hL hd hk hl (by rw [hgv];exact Prod.ext (Prod.ext e5 rfl) rfl)
        exact hv
       rcases make_full (t:=⟨#[]⟩) (kind:=2) hv (by decide) with h5|h5
       ·exact absurd h5 e4
       ·exact h5
      ·rw [if_neg e4] at h0;exact absurd rfl h0
    ·rw [if_pos e2]
     dsimp only
     rw [walkV_ok hgv]
     cases p with
     | nil=>exact .inr (.inr ⟨rfl,rfl,e2⟩)
     | cons t2 p=>exact .inr (.inl (by rw [walkV_no (by rw [lst_no e2 hk0];decide),lst_no e2 hk0]))
   ·rw [if_pos e1]
    dsimp only
    rw [walkV_no e1]
    exact .inr (.inl rfl)
end
end Go.Proofs.YtgoddboicjfkcaaGreat.cu
namespace Go.Proofs.YtgoddboicjfkcaaGreat.cu
open Go.RowKit Go.Deep
open br (BS Ino Inv at_nat abE fresh)
open cb (BrX RetW RetI No KB KD Res HB Stab NxR Same WrI Wz sF)
open bl (Pq Only AB U8)
open mg (bel_step bel_alloc)
open fl (Ln LR treeF)
theorem begin_bad {w:World} {A B:Option Addr} {lower:List Ln} {m c1 c2:Nat} (hl:LR w w.heap.size B lower) (hnl:lower.length≤400) (hdl:∀x∈lower,x.data.size≤1000000) {room:Int} (hr:room<0∨65536<room) :
  Calls Tryz.prog 46 #[.slice A m c1,.slice B lower.length c2,.int .i64 room] w (fun e w'=>e=.returned (.tuple #[.pointer none,.bool false])∧Below w.heap.size w w'):=by
 have HN:=Qa (fun W=>cb.new_no room W hr)
 have HM:=Qa (fun W=>cb.rb_new_no room W hr)
 have Qb:=Qa (fun (L:List Res) (X:Nat→Prop) (W:World) (h:cb.Sys w W L X) (k:LX W X B lower)=>ctree_any (c:=c2) h k hnl hdl)
 have Qc:=Qa (fun (L:List Res) (X:Nat→Prop) (W:World) (h:cb.Sys w W L X) (k:LX W X B lower)=>rtree_any (c:=c2) h k (by omega) hdl)
 have Qd:=Qa (show ∀(W:World),Below w.heap.size w W→LX W (fun b=>b<w.heap.size) B lower from fun W hb=>(LX.of (X:=fun b=>b<w.heap.size) hl fun b hb=>hb).same fun b h=>hb.block b h)
 have Qf:=Qa (show ∀W:World,Below w.heap.size w W→(fun (e:Ending) (w':World)=>e=.returned (.tuple #[.pointer none,.bool false])∧Below w.heap.size w w') (Ending.returned (.tuple #[.pointer none,.bool false])) W from fun W a=>⟨rfl,a⟩)
 generalize (fun (e:Ending) (w':World)=>e=Ending.returned (.tuple #[.pointer none,.bool false])∧Below w.heap.size w w')=PQ at *
 obtain ⟨nl,hnl2⟩:∃n,lower.length=n:=⟨_,rfl⟩
 rw [hnl2] at Qb Qc hnl ⊢
 unfold CTreeE at Qb
 unfold RTreeE at Qc
 clear hl hdl hnl2 hr hnl
 go_enter Tryz.func46,Tryz.ntmps46
 go_wp2_with fail
 refine (HN.out w).mono ?_
 rintro _ w1 ⟨rfl,e1⟩
 replace e1:=e1.symm
 subst e1
 clear HN
 go_wp2_with fail
 refine (HM.out _).mono ?_
 rintro _ w2 ⟨rfl,e2⟩
 subst e2
 clear HM
 obtain ⟨G,hG⟩:∃g,w.heap.size=g:=⟨_,rfl⟩
 obtain ⟨w3,hw3⟩:∃w3,w.alloc (.cells #[.pointer none,.pointer none,.pointer none,.pointer none,.pointer none,.pointer none] 83)=w3:=⟨_,rfl⟩
 have hb3:Below w.heap.size w w3:=by rw [←hw3];exact bel_alloc _ _
 have Qe:=Qa (show w3.heap[G]?=some (.cells #[.pointer none,.pointer none,.pointer none,.pointer none,.pointer none,.pointer none] 83 (0,0)) by rw [←hw3,←hG];exact heap_alloc_new w _)
 have H3:=Qa (show cb.Sys w w3 [] (fun b=>b<w.heap.size∨b=G) from (cb.Sys.nil (Below.refl w.heap.size w)).box hb3 (fun b hb=>hb.imp id fun e=>by rw [e,←hG,←hw3,World.size_alloc];omega))
 clear hb3
 go_upto_region 2 with fail
 try rw [hw3]
 try rw [hG]
 clear hw3 hG
 go_wp2_with fail
 refine (Qb.out _ _ w3 H3.out ((Qd.out w3 H3.out.bel).sub fun b hb=>.inl hb)).mono ?_
 rintro e w4 ⟨hb4,hc⟩
 have Qg:=Qa ((hb4.block G (H3.out.lt (.inr rfl))).trans Qe.out)
 obtain ⟨v,er,LL,rfl,h4⟩:∃(v:Value) (er:Int) (LL:List Res),e=.returned (.tuple #[v,.int .i64 er])∧cb.Sys w w4 LL (fun b=>b<w.heap.size∨b=G):=by
  rcases hc with ⟨err,_,_,rfl,h4⟩|⟨P2,L,_,rfl,h4⟩
  ·exact ⟨_,_,_,rfl,h4⟩
  ·exact ⟨_,_,_,rfl,h4⟩
 have H4:=Qa h4
 clear hb4 hc Qe H3 Qb h4
 go_wp2_with fail
 refine (Qc.out _ _ w4 H4.out ((Qd.out w4 H4.out.bel).sub fun b hb=>.inl hb)).mono ?_
 rintro e w5 ⟨hs5,hc⟩
 have Qh:=Qa ((hs5 G (.inr rfl)).trans Qg.out)
 obtain ⟨v5,er5,LL5,rfl,h5⟩:∃(v:Value) (er:Int) (LL:List Res),e=.returned (.tuple #[v,.int .i64 er])∧cb.Sys w w5 LL (fun b=>b<w.heap.size∨b=G):=by
  rcases hc with ⟨err,_,_,rfl,h4⟩|⟨P2,L,S,_,rfl,h4,_⟩
  ·exact ⟨_,_,_,rfl,h4⟩
  ·exact ⟨_,_,_,rfl,h4⟩
 have g0:w5.cell? ⟨G,0,none⟩=some (.pointer none):=(Lib.cell_of_heap Qh.out 0).trans rfl
 have HF:=Qa (Qf.out w5 h5.bel)
 clear hs5 hc h5 Qc H4
 go_wp2_with fail
 exact HF.out
end Go.Proofs.YtgoddboicjfkcaaGreat.cu
namespace Go.Proofs.YtgoddboicjfkcaaGreat.cu
open Go.RowKit Go.Deep
open br (BS Ino Inv at_nat abE nameE fresh)
open cb (BrX RetW RetI No KB KD Res HB Stab NxR Same WrI Wz ReadI newI)
open bl (Pq Only U8 AB cnt)
open mg (Vx Nd Nv Nb R2 R3 bel_step bel_alloc kindV getV rootV AwakeE statN set3_below)
open fl (Ln LR treeF)
section
variable {P:Program} {ops:Array Oper} {Q:Exit→Act→World→Prop} {md:Region.Mode} {S:World→Prop} {ex:List Nat}
theorem tk {i:Nat} {o:Oper} (u:Value) (d:Option Tmp) {n:Nat} {done:Array Bool} {a:Act} {w:World} (hi:ops[i]?=some o) (hd:o.dst=d)
  (hc:(Region.noSelect ops && Region.free md ops done i && (Region.ready md ops done).contains i && rj.behind md ops ex i && rj.downB md ops done)=true)
  (hQ:∀c a w,Q (.panic c) (a.put o.dst u) w→Q (.panic c) a w) (hy:YieldsIf P ops S o u a) (hS:S w)
  (h:rj.anyE P md ops Q S ex n (done.setIfInBounds i true) (a.put d u) w):rj.anyE P md ops Q S ex (n+1) done a w:=by
 subst hd
 simp only [Bool.and_eq_true] at hc
 exact rj.take_E u hi hc.1.1.1.1 hc.1.1.1.2 hc.1.1.2 hc.1.2 hc.2 hQ hy hS h
end
theorem kindOf_le {S:BS} {r:Nat} (hS:Inv S r) (i:Int):0≤S.kindOf i∧S.kindOf i≤4:=by
 by_cases h:S.kindOf i=0
 ·rw [h];decide
 ·obtain ⟨I,_,_,_,e⟩:=kind_at h
  rw [e];exact hS.kinds I
theorem kindV_le {S L:BS} {r r2:Nat} (hS:Inv S r) (hL:Inv L r2) (a:mg.Nd):0≤kindV S L a∧kindV S L a≤4:=by
 unfold mg.kindV
 by_cases h:a.1≠0
 ·rw [if_pos h]
  split
  ·decide
  ·exact kindOf_le hS _
 ·rw [if_neg h]
  split
  ·decide
  ·exact kindOf_le hL _
theorem chains_any {w:World} {A B An:Option Addr} {upper lower:List Ln} {names:List ByteArray} {c1 c2 cn:Nat} (room:Int) (hu0:LR w w.heap.size A upper) (hl0:LR w w.heap.size B lower) (hnu:upper.length≤maxLen) (hnl:lower.length≤maxLen) (hzu:∀x∈upper,x.path.size≤maxLen∧x.data.size≤maxLen) (hzl:∀x∈lower,x.path.size≤maxLen∧x.data.size≤maxLen)
  (hnn:NL w (fun b=>b<w.heap.size) An names) (hcn:names.length≤cn∧cn≤maxLen) :
  Calls Tryz.prog 9 #[.slice A upper.length c1,.slice B lower.length c2,.int .i64 room,.slice An names.length cn] w (AwakeE w):=by
 have Q9:=Qa (awake_any w)
 unfold AwakeE at Q9
 have HF:=Qa (show ∀W:World,Below w.heap.size w W→AwakeE w (.returned (.bool true)) W from fun W h=>⟨rfl,h⟩)
 obtain ⟨PQ,hPQ⟩:∃P,AwakeE w=P:=⟨_,rfl⟩
 rw [hPQ] at HF ⊢
 have Q2:=Qa (fun (W:World) (hb:Below w.heap.size w W)=>small_any (c1:=c1) (c2:=c2) ((hu0.same fun b h=>hb.block b h).up hb.size) ((hl0.same fun b h=>hb.block b h).up hb.size) hnu hnl hzu hzl)
 have Qv:=Qa (fun (W:World) (hb:Below w.heap.size w W) (f1:Few upper) (f2:Few lower) (r:Nat) (hr:r≤65536)=>begin_any (c1:=c1) (c2:=c2) ((hu0.same fun b h=>hb.block b h).up hb.size) ((hl0.same fun b h=>hb.block b h).up hb.size) (Nat.le_trans f1.1 (by decide)) (Nat.le_trans f2.1 (by decide)) (fun x hx=>Nat.le_trans (f1.2 x hx) (by decide)) (fun x hx=>Nat.le_trans (f2.2 x hx) (by decide)) hr)
 have Q3:=Qa (fun (W:World) (hb:Below w.heap.size w W) (f2:Few lower) (hr:room<0∨65536<room)=>begin_bad (A:=A) (m:=upper.length) (c1:=c1) (c2:=c2) ((hl0.same fun b h=>hb.block b h).up hb.size) (Nat.le_trans f2.1 (by decide)) (fun x hx=>Nat.le_trans (f2.2 x hx) (by decide)) hr)
 have Xi:=Qa hnn
 have Xj:=Qa hcn
 unfold SmallE at Q2
 unfold BegE at Qv
 obtain ⟨nu,hnu2⟩:∃n,upper.length=n:=⟨_,rfl⟩
 obtain ⟨nl,hnl2⟩:∃n,lower.length=n:=⟨_,rfl⟩
 rw [hnu2] at Q2 Qv Q3 ⊢
 rw [hnl2] at Q2 Qv Q3 ⊢
 obtain ⟨nn,hnn2⟩:∃n,names.length=n:=⟨_,rfl⟩
 have Qi:=Qa hnn2
 rw [hnn2]
 have hnm:nn≤9223372036854775807:=by have:=Nat.le_trans hcn.1 hcn.2;unfold maxLen at this;omega
 clear hPQ hu0 hl0 hnu hnl hzu hzl hnn hcn hnu2 hnl2 hnn2
 go_enter Tryz.func9,Tryz.ntmps9
 go_wp2_with fail
 refine Q9.out.mono ?_
 rintro _ w1 ⟨rfl,hb1⟩
 have Xa:=Qa hb1
 clear hb1 Q9
 go_wp2_with fail
 refine (Q2.out w1 Xa.out).mono ?_
 rintro _ w2 ⟨b,rfl,hb2,hfew⟩
 have Qg:=Qa (bel_step Xa.out hb2)
 clear hb2 Q2 Xa
 cases b with
 | false =>
  have Qj:=Qa (HF.out w2 Qg.out)
  clear hfew
  go_wp2_with fail
  exact Qj.out
 | true =>
 obtain ⟨f1,f2⟩:=hfew (by first|rfl|trivial)
 have Xb:=Qa (And.intro f1 f2)
 clear hfew f1 f2
 by_cases hnn:nn≤50
 case neg =>
  have hg:(nn:Int) > 50:=by omega
  have Qj:=Qa (HF.out w2 Qg.out)
  clear hnn
  go_wp2_with fail
  exact Qj.out
 have hg:¬(nn:Int) > 50:=by omega
 have Qc:=Qa hnn
 by_cases hr:room<0∨65536<room
 ·have Qk:=Qa (Q3.out w2 Qg.out Xb.out.2 hr)
  clear hr Qv Q3 hnn
  go_wp2_with fail
  refine Qk.out.mono ?_
  rintro _ w3 ⟨rfl,hb3⟩
  have Qj:=Qa (HF.out w3 (bel_step Qg.out hb3))
  clear hb3
  go_wp2_with fail
  exact Qj.out
 obtain ⟨r,rfl⟩:∃r:Nat,room=(r:Int):=⟨room.toNat,by omega⟩
 have hr2:r≤65536:=by omega
 have Yi:=Qa hr2
 have Qk:=Qa (Qv.out w2 Qg.out Xb.out.1 Xb.out.2 r hr2)
 clear hr hr2 Qv Q3 hnn
 go_wp2_with fail
 refine Qk.out.mono ?_
 rintro _ w3 (⟨rfl,hb3,-⟩|⟨G,c,R,D1,R1,D2,R2',S,Sd,L,T,rfl,hbg,-,-⟩)
 ·have Qj:=Qa (HF.out w3 (bel_step Qg.out hb3))
  clear hb3
  go_wp2_with fail
  exact Qj.out
 have HZ:=Qa hbg.z
 have Qp:=Qa hbg.bx
 have HT:=Qa hbg.T
 have Q6:=Qa hbg.u
 have Q7:=Qa hbg.l
 have Yj:=Qa hbg.wk
 have Qo:=Qa hbg.bg
 obtain ⟨X,hX⟩:∃X:Nat→Prop,(fun b=>b<w2.heap.size∨b=G∨b=c.C∨b=c.V∨b=R)=X:=⟨_,rfl⟩
 have Ql:=Qa (show X G by rw [←hX];exact .inr (.inl rfl))
 have Xk:=Qa (show ∀b,b<w.heap.size→X b from fun b h=>by rw [←hX];exact .inl (Nat.lt_of_lt_of_le h Qg.out.size))
 rw [hX] at HZ
 have Xz:=Qa (show Below w.heap.size w w3 from bel_step Qg.out HZ.out.bel)
 have Xc:=Qa (show NL w3 X An names from (Xi.out.same fun b hb=>Xz.out.block b hb).sub Xk.out)
 generalize [KD w2 D1 R1 Sd r,KD w2 D2 R2' L 65536]=M at *
 clear hbg hX Qk Xi Xk
 -- Chain
 have k4:w3.cell? ⟨G,4,none⟩=some (Pq c.C):=(Lib.cell_of_heap Qp.out 4).trans rfl
 have Qw:=Qa (chain_any (cap:=cn) HZ.out Xc.out (by rw [Qi.out];have:=Qc.out;omega) (by have:=HT.out;omega))
 unfold ChainE at Qw
 rw [Q6.out,Q7.out,Qi.out] at Qw
 have hbar:=desc_bar HZ.out.good2 names (d:=2) (a:=rootV S L 2 1) HZ.out.good1 (root_up Qo.out.kind2) Qo.out.kind2 Qo.out.l2
 have hgr:=desc_grow (L:=L) names (d:=2) (a:=rootV S L 2 1) HZ.out.good1
 have hok:=desc_ok (L:=L) names (d:=2) (a:=rootV S L 2 1) HZ.out.good1 (root_up Qo.out.kind2) Qo.out.kind2
 have hgd:=(desc_used (L:=L) names (d:=2) (a:=rootV S L 2 1) HZ.out.good1).2
 have hrt:=hgr.root (u:=2) (l:=1) Qo.out.kind2
 obtain ⟨res,hres⟩:∃x,descF L S 2 (rootV S L 2 1) names=x:=⟨_,rfl⟩
 rw [hres] at Qw hbar hgr hok hgd hrt
 clear hres
 obtain ⟨⟨⟨v,nd⟩,er⟩,S'⟩:=res
 dsimp only at Qw hbar hgr hok hgd hrt
 have Xd:=Qa hbar
 have Xe:=Qa hok
 have Xf:=Qa hrt
 clear hbar hgr hok hrt
 go_wp2_with fail
 refine Qw.out.mono ?_
 rintro _ w4 ⟨rfl,hz4,hs4⟩
 have Qq:=Qa hz4
 have Qr:=Qa ((hs4 G Ql.out).trans Qp.out)
 have Qd:=Qa (Xc.out.same hs4)
 clear hz4 hs4 Qw HZ Qp Xc k4
 by_cases he:er=0
 case neg =>
  obtain ⟨rfl,hb0⟩:=Xd.out he
  have k4:w4.cell? ⟨G,4,none⟩=some (Pq c.C):=(Lib.cell_of_heap Qr.out 4).trans rfl
  have Qb:=Qa (node_any (cap:=cn) Qq.out Qd.out (by rw [Qi.out];have:=Qc.out;omega))
  rw [Q6.out,Q7.out,Qi.out,Xf.out] at Qb
  unfold RetW at Qb
  obtain ⟨wv,hwv⟩:∃x,walkV S' L (rootV S L 2 1) names=x:=⟨_,rfl⟩
  rw [hwv] at Qb hb0
  clear hwv
  obtain ⟨⟨n1,n2⟩,ne⟩:=wv
  unfold Bar at hb0
  dsimp only at Qb hb0
  have X0:=Qa hb0
  have Yk:=Qa he
  have q0:(er != 0)=true:=by simpa using he
  clear hb0 he Xd Xe
  go_wp2_with fail
  refine Qb.out.mono ?_
  rintro _ w5 ⟨rfl,hb5⟩
  have Qm:=Qa (Qq.out.below hb5)
  have Qs:=Qa ((hb5.block G (Qq.out.lt Ql.out)).trans Qr.out)
  clear hb5 Qb Qq Qr Qd k4
  obtain ⟨g1,hg1⟩:∃g,w5.heap.size=g:=⟨_,rfl⟩
  obtain ⟨w6,hw6⟩:∃w6,w5.alloc (.cells #[.int .i64 n1,.int .i64 n2] 24)=w6:=⟨_,rfl⟩
  have hb6:Below w5.heap.size w5 w6:=by rw [←hw6];exact bel_alloc _ _
  have Qx:=Qa (Qm.out.below hb6)
  have X3:=Qa ((hb6.block G (Qm.out.lt Ql.out)).trans Qs.out)
  have Xl:=Qa (show R2 w6 g1 n1 n2 by rw [←hw6,←hg1];exact R2.new w5 n1 n2)
  clear hb6 Qm Qs
  go_upto_region 11 with fail
  try rw [hw6]
  try rw [hg1]
  clear hw6 hg1 q0
  have Xm:=Qa (fun (W:World) (hb:Below w6.heap.size w6 W)=>HF.out W (bel_step Qg.out (Qx.out.below hb).bel))
  have Xn:=Qa (fun (k:Nat)=>Xm.out (w6.drewN k) (mg.bel_drewN w6 k))
  by_cases h1:er=ne
  ·have q1:(er == ne)=true:=by simpa using h1
   clear h1
   go_quiet (fail)
   go_wp2_with fail
   exact Xn.out _
  have q1:(er == ne)=false:=by simpa using h1
  rcases X0.out with h2|h2|⟨h2,h3,h4⟩
  ·subst h2
   clear h1
   go_quiet (fail)
   go_wp2_with fail
   exact Xn.out _
  ·exact absurd h2.symm h1
  ·subst h2 h3
   clear h1
   have Qn:=Qa (fun W (hb:Below w6.heap.size w6 W)=>show W.cell? ⟨G,4,none⟩=some (Pq c.C)∧W.cell? ⟨g1,0,none⟩=some (.int .i64 n1)∧W.cell? ⟨g1,1,none⟩=some (.int .i64 n2) from ⟨(Lib.cell_of_heap ((hb.block G (Qx.out.lt Ql.out)).trans X3.out) 4).trans rfl,(Xl.out.below hb).c0,(Xl.out.below hb).c1⟩)
   have Xo:=Qa (view_any (Qx.out.below (Below.refl w6.heap.size w6).drew))
   have X4:=Qa (kindV_le Qx.out.good1.1 Qx.out.good2.1 (n1,n2))
   have Q8:=Qa (mg.kind_any (Qx.out.below (Below.refl w6.heap.size w6).drew).vx (n1,n2))
   unfold RetI at Q8
   obtain ⟨kv,hkv⟩:∃k,kindV S' L (n1,n2)=k:=⟨_,rfl⟩
   rw [hkv] at Q8 h4 X4
   clear hkv
   have S0:=Qn.out w6.drew (Below.refl w6.heap.size w6).drew
   have q4:(kv != 2)=true:=by simpa using h4
   clear h4
   refine rj.region_E (S:=fun W=>W.cell? ⟨G,4,none⟩=some (Pq c.C)∧W.cell? ⟨g1,0,none⟩=some (.int .i64 n1)∧W.cell? ⟨g1,1,none⟩=some (.int .i64 n2)) (ex:=[]) (by kernel_rfl) ?_
   simp only [List.size_toArray,List.length_cons,List.length_nil,Nat.zero_add,Nat.reduceAdd]
   rw [show Array.replicate 30 false=#[false,false,false,false,false,false,false,false,false,false,false,false,false,false,false,false,false,false,false,false,false,false,false,false,false,false,false,false,false,false] from rfl]
   refine tk (i:=0) (.int .i64 0) (some 61) rfl (by kernel_rfl) (by kernel_rfl) (fun _ _ _ h=>h) (.inl ⟨by kernel_rfl,by intros;go_simp⟩) S0 ?_
   refine tk (i:=1) (.bool true) (some 62) rfl (by kernel_rfl) (by kernel_rfl) (fun _ _ _ h=>h) (.inl ⟨by kernel_rfl,by intros;go_simp⟩) S0 ?_
   refine tk (i:=2) (.bool true) (some 63) rfl (by kernel_rfl) (by kernel_rfl) (fun _ _ _ h=>h) (.inl ⟨by kernel_rfl,by intros;go_simp⟩) S0 ?_
   refine tk (i:=3) (.int .i64 20) (some 64) rfl (by kernel_rfl) (by kernel_rfl) (fun _ _ _ h=>h) (.inl ⟨by kernel_rfl,by intros;go_simp⟩) S0 ?_
   refine tk (i:=4) (.int .i64 0) (some 65) rfl (by kernel_rfl) (by kernel_rfl) (fun _ _ _ h=>h) (.inl ⟨by kernel_rfl,by intros;go_simp⟩) S0 ?_
   refine tk (i:=5) (.bool false) (some 66) rfl (by kernel_rfl) (by kernel_rfl) (fun _ _ _ h=>h) (.inl ⟨by kernel_rfl,by intros;go_simp⟩) S0 ?_
   simp only [Act.put,List.setIfInBounds_toArray,List.set_cons_zero,List.set_cons_succ]
   refine tk (i:=6) (.bool false) (some 67) rfl (by kernel_rfl) (by kernel_rfl) (fun _ _ _ h=>h) (.inl ⟨by kernel_rfl,by intros;go_simp⟩) S0 ?_
   refine tk (i:=7) (.int .i64 20) (some 68) rfl (by kernel_rfl) (by kernel_rfl) (fun _ _ _ h=>h) (.inl ⟨by kernel_rfl,by intros;go_simp⟩) S0 ?_
   refine tk (i:=8) (.bool true) (some 69) rfl (by kernel_rfl) (by kernel_rfl) (fun _ _ _ h=>h) (.inl ⟨by kernel_rfl,by intros;go_simp⟩) S0 ?_
   refine tk (i:=9) (.bool true) (some 70) rfl (by kernel_rfl) (by kernel_rfl) (fun _ _ _ h=>h) (.inl ⟨by kernel_rfl,by intros;go_simp⟩) S0 ?_
   refine tk (i:=10) (.int .i64 0) (some 71) rfl (by kernel_rfl) (by kernel_rfl) (fun _ _ _ h=>h) (.inl ⟨by kernel_rfl,by intros;go_simp⟩) S0 ?_
   refine tk (i:=11) (.bool true) (some 72) rfl (by kernel_rfl) (by kernel_rfl) (fun _ _ _ h=>h) (.inl ⟨by kernel_rfl,by intros;go_simp⟩) S0 ?_
   simp only [Act.put,List.setIfInBounds_toArray,List.set_cons_zero,List.set_cons_succ]
   refine tk (i:=12) (.bool true) (some 73) rfl (by kernel_rfl) (by kernel_rfl) (fun _ _ _ h=>h) (.inl ⟨by kernel_rfl,by intros;go_simp⟩) S0 ?_
   refine tk (i:=13) (.bool true) (some 74) rfl (by kernel_rfl) (by kernel_rfl) (fun _ _ _ h=>h) (.inl ⟨by kernel_rfl,by intros;go_simp⟩) S0 ?_
   refine tk (i:=14) (Pq G) (some 75) rfl (by kernel_rfl) (by kernel_rfl) (fun _ _ _ h=>h) (.inl ⟨by kernel_rfl,by intros;go_simp⟩) S0 ?_
   refine tk (i:=15) (.pointer (some ⟨G,0,none⟩)) (some 76) rfl (by kernel_rfl) (by kernel_rfl) (fun _ _ _ h=>h) (.inl ⟨by kernel_rfl,by intros;go_simp⟩) S0 ?_
   refine tk (i:=16) (.pointer (some ⟨G,4,none⟩)) (some 77) rfl (by kernel_rfl) (by kernel_rfl) (fun _ _ _ h=>h) (.inl ⟨by kernel_rfl,by intros;go_simp⟩) S0 ?_
   simp only [Act.put,List.setIfInBounds_toArray,List.set_cons_zero,List.set_cons_succ]
   refine tk (i:=17) (Pq c.C) (some 78) rfl (by kernel_rfl) (by kernel_rfl) (fun _ _ _ h=>h) (.inl ⟨by kernel_rfl,by intros;go_simp⟩) S0 ?_
   simp only [Act.put,List.setIfInBounds_toArray,List.set_cons_zero,List.set_cons_succ]
   refine tk (i:=19) (.agg #[.int .i64 n1,.int .i64 n2]) (some 80) rfl (by kernel_rfl) (by kernel_rfl) (fun _ _ _ h=>h) (.inl ⟨by kernel_rfl,by intros;go_simp⟩) S0 ?_
   simp only [Act.put,List.setIfInBounds_toArray,List.set_cons_zero,List.set_cons_succ]
   refine rj.step_E (i:=18) (by kernel_rfl) rfl fun K hK=>?_
   go_simp
   go_at_call 55
   with_reducible refine Xo.out.mono ?_
   rintro _ wv ⟨rfl,ev⟩
   subst ev
   go_wp2_with fail
   refine hK.out _ _ (.inr S0) ?_
   clear hK K
   simp only [Act.put,List.setIfInBounds_toArray,List.set_cons_zero,List.set_cons_succ]
   refine rj.step_E (i:=20) (by kernel_rfl) rfl fun K hK=>?_
   go_simp
   go_at_call 19
   with_reducible refine Q8.out.mono ?_
   rintro _ w7 ⟨rfl,hb7⟩
   have Qe:=Qa (bel_step (Below.refl w6.heap.size w6).drew hb7)
   have S5:=Qn.out w7 Qe.out
   have X5:=Qa (Xm.out w7 Qe.out)
   clear hb7 S0 Xo Q8
   go_wp2_with fail
   refine hK.out _ _ (.inr S5) ?_
   clear hK K
   simp only [Act.put,List.setIfInBounds_toArray,List.set_cons_zero,List.set_cons_succ]
   refine tk (i:=21) (.bool true) (some 82) rfl (by kernel_rfl) (by kernel_rfl) (fun _ _ _ h=>h) (.inl ⟨by kernel_rfl,by intros;go_simp⟩) S5 ?_
   refine tk (i:=22) (.bool true) (some 83) rfl (by kernel_rfl) (by kernel_rfl) (fun _ _ _ h=>h) (.inl ⟨by kernel_rfl,by intros;go_simp⟩) S5 ?_
   refine tk (i:=23) (.bool true) (some 84) rfl (by kernel_rfl) (by kernel_rfl) (fun _ _ _ h=>h) (.inl ⟨by kernel_rfl,by intros;go_simp⟩) S5 ?_
   refine tk (i:=24) (.bool true) (some 85) rfl (by kernel_rfl) (by kernel_rfl) (fun _ _ _ h=>h) (.inl ⟨by kernel_rfl,by intros;go_simp⟩) S5 ?_
   simp only [Act.put,List.setIfInBounds_toArray,List.set_cons_zero,List.set_cons_succ]
   refine tk (i:=25) (undef) (some 86) rfl (by kernel_rfl) (by kernel_rfl) (fun _ _ _ h=>h) (.inr ⟨by kernel_rfl,rfl⟩) S5 ?_
   refine tk (i:=26) (undef) (some 87) rfl (by kernel_rfl) (by kernel_rfl) (fun _ _ _ h=>h) (.inr ⟨by kernel_rfl,rfl⟩) S5 ?_
   refine tk (i:=27) (.bool true) (some 88) rfl (by kernel_rfl) (by kernel_rfl) (fun _ _ _ h=>h) (.inl ⟨by kernel_rfl,by intros;go_simp⟩) S5 ?_
   refine tk (i:=28) (.bool true) (some 89) rfl (by kernel_rfl) (by kernel_rfl) (fun _ _ _ h=>h) (.inl ⟨by kernel_rfl,by intros;go_simp⟩) S5 ?_
   refine tk (i:=29) (.bool true) (some 8) rfl (by kernel_rfl) (by kernel_rfl) (fun _ _ _ h=>h) (.inl ⟨by kernel_rfl,by intros;go_simp⟩) S5 ?_
   simp only [Act.put,List.setIfInBounds_toArray,List.set_cons_zero,List.set_cons_succ]
   refine rj.done_E (by kernel_rfl) ?_
   go_wp2_with fail
   exact X5.out
 subst he
 obtain ⟨hg4,hnd,hgw,hch,hu4⟩:=Xe.out (by first|rfl|trivial)
 have ha:(rootV S L 2 1).1=2:=root_up Qo.out.kind2
 have hka:S'.kindOf (rootV S L 2 1).1=2:=by rw [ha];exact hgw.dir 2 Qo.out.kind2
 have hv2:S'.kindOf v=2:=by rw [←hnd];exact (hch.up hka).2
 have hag:descF L S' 2 (rootV S L 2 1) names=(((v,nd),0),S'):=by
  have h:=hch.again
  rw [ha,hnd] at h
  exact h
 have Xg:=Qa (show ∀j,∃c:Nd,walkV S' L (rootV S L 2 1) (names.take j)=(c,0)∧c.1≠0∧S'.kindOf c.1=2 from fun j=>by
  obtain ⟨b,hb⟩:=hch.take j
  exact ⟨b,hb.walk,(hb.up hka).1,(hb.up hka).2⟩)
 have k0:w4.cell? ⟨G,0,none⟩=some (Pq c.P1):=(Lib.cell_of_heap Qr.out 0).trans rfl
 have k4:w4.cell? ⟨G,4,none⟩=some (Pq c.C):=(Lib.cell_of_heap Qr.out 4).trans rfl
 have Qy:=Qa (cb.x_inodes Qq.out.brx1)
 have Q4:=Qa (chain_any (cap:=cn) Qq.out Qd.out (by rw [Qi.out];have:=Qc.out;omega) (by have:=HT.out;have:=Qc.out;omega))
 unfold ChainE at Q4
 rw [Q6.out,Q7.out,Qi.out,Xf.out,hag] at Q4
 dsimp only at Q4
 have X6:=Qa hv2
 have Xh:=Qa (show ∀j,j<nn→∃x,names[j]?=some x from fun j hj=>⟨names[j]'(by rw [Qi.out];exact hj),List.getElem?_eq_getElem _⟩)
 have X7:=Qa (show nn≤cn∧cn≤maxLen from ⟨by have:=Xj.out.1;rw [Qi.out] at this;exact this,Xj.out.2⟩)
 obtain ⟨mn,hmn⟩:∃n,S'.count 200=n:=⟨_,rfl⟩
 rw [hmn] at Qy
 have X8:=Qa hmn
 clear hg4 hnd hgw hch hu4 ha hka hv2 hag hmn Xe Xd
 go_wp2_with fail
 refine Qy.out.mono ?_
 rintro _ wi ⟨rfl,ei⟩
 subst ei
 go_wp2_with fail
 refine Q4.out.mono ?_
 rintro _ w5 ⟨rfl,hz5,hs5⟩
 have Qm:=Qa hz5
 have Qs:=Qa ((hs5 G Ql.out).trans Qr.out)
 have Qf:=Qa (Qd.out.same hs5)
 clear hz5 hs5 Q4 Qy Qq Qr Qd k0 k4
 go_upto_region 15 with fail
 go_loopg [106] nn (fun gh s106 wr=>∃(j:Nat),gh+j=nn∧s106=.int .i64 (j:Int)∧Hid (Below w5.heap.size w5 wr))
 case atStart=>exact ⟨0,by omega,rfl,Qa (Below.refl _ _)⟩
 case round =>
  obtain ⟨j,hgj,rfl,Q5⟩:=hrel
  have Qh:=Qa (Qm.out.below Q5.out)
  have Qz:=Qa ((Q5.out.block G (Qm.out.lt Ql.out)).trans Qs.out)
  by_cases hj:j<nn
  case neg =>
   have Qj:=Qa (fun W (hb:Below wr.heap.size wr W)=>HF.out W (bel_step Qg.out (Qh.out.below hb).bel))
   have k0:wr.cell? ⟨G,0,none⟩=some (Pq c.P1):=(Lib.cell_of_heap Qz.out 0).trans rfl
   have Qy:=Qa (cb.x_inodes Qh.out.brx1)
   have Qt:=Qa (cb.x_kind Qh.out.brx1 v)
   unfold RetI at Qt
   rw [X8.out] at Qy
   rw [X6.out] at Qt
   have hvv:(v == v)=true:=by simp
   have hcm:((mn:Int) == (mn:Int))=true:=by simp
   clear Q5 Qh Qz Qm Qs Qf
   go_wp2_with fail
   refine Qy.out.mono ?_
   rintro _ wi ⟨rfl,ei⟩
   subst ei
   go_wp2_with fail
   refine Qt.out.mono ?_
   rintro _ wk ⟨rfl,hbk⟩
   have X9:=Qa (Qj.out wk hbk)
   clear hbk
   go_wp2_with fail
   exact X9.out
  have hjn:(j:Int)≤(nn:Int):=by omega
  have hjc:(j:Int)≤(cn:Int):=by have:=X7.out.1;omega
  have hj0:(0:Int)≤(j:Int):=by omega
  obtain ⟨x0,hx0⟩:=Xh.out 0 (by omega)
  obtain ⟨nb,off,hA,-,-,-⟩:=Qf.out 0 x0 hx0
  subst hA
  obtain ⟨⟨m1,m2⟩,hw1,hw2,hw3⟩:=Xg.out j
  dsimp only at hw1 hw2 hw3
  have Xp:=Qa (show (names.take j).length=j by rw [List.length_take,Qi.out];omega)
  have Qb:=Qa (fun W (hb:Below wr.heap.size wr W)=>node_any (cap:=cn) (Qh.out.below hb) (((Qf.out.below Q5.out).below hb).take j) (by rw [Xp.out];have:=Qc.out;omega))
  rw [Q6.out,Q7.out,Xp.out,Xf.out,hw1] at Qb
  unfold RetW at Qb
  dsimp only at Qb
  have Qn:=Qa (fun W (hb:Below wr.heap.size wr W)=>show W.cell? ⟨G,4,none⟩=some (Pq c.C) from (Lib.cell_of_heap ((hb.block G (Qh.out.lt Ql.out)).trans Qz.out) 4).trans rfl)
  have Xq:=Qa hw2
  have Xr:=Qa hw3
  clear hw1 hw2 hw3 hx0
  go_upto_region 17 with fail
  go_cut [19,20] from 107 to 137 (fun va vb wx=>∃Gx,va=.pointer (some ⟨Gx,0,none⟩)∧vb=.int .i64 0∧Hid (Below wr.heap.size wr wx)∧Hid (R2 wx Gx m1 m2))
  case first =>
   have S0:=Qn.out wr (Below.refl _ _)
   have Xs:=Qa (bel_alloc wr (.cells #[.int .i64 0,.int .i64 0] 24))
   have Xt:=Qa (bel_step Xs.out (Below.refl _ (wr.alloc (.cells #[.int .i64 0,.int .i64 0] 24))).drew)
   have SA:=Qn.out _ Xs.out
   have Ya:=Qa (Qb.out wr.drew (Below.refl wr.heap.size wr).drew)
   have Yb:=Qa (Qb.out (wr.alloc (.cells #[.int .i64 0,.int .i64 0] 24)).drew Xt.out)
   have Yc:=Qa (show R2 (wr.alloc (.cells #[.int .i64 0,.int .i64 0] 24)).drew wr.heap.size 0 0 from (R2.new wr 0 0).below (Below.refl _ _).drew)
   clear Qm Qs Qf Qh Qz Qb Xg Xh
   go_region_held3 (fun W=>W.cell? ⟨G,4,none⟩=some (Pq c.C))
    (first|with_reducible exact S0|with_reducible exact S5|with_reducible exact SA|with_reducible exact ST|assumption|go_keep)
    (first
     | (go_at_call 56;((with_reducible refine Ya.out.mono ?_);rintro _ w7 ⟨rfl,hb7⟩;have Qe:=Qa (bel_step (Below.refl wr.heap.size wr).drew hb7);have S5:=Qn.out w7 Qe.out;have Yd:=Qa (show ∃Gs,w7.heap.size=Gs∧Below wr.heap.size wr (w7.alloc (.cells #[.int .i64 m1,.int .i64 m2] 24))∧R2 (w7.alloc (.cells #[.int .i64 m1,.int .i64 m2] 24)) Gs m1 m2 from ⟨_,rfl,bel_step Qe.out (bel_alloc _ _),R2.new w7 m1 m2⟩);clear hb7))
     | (go_at_call 56;((with_reducible refine Yb.out.mono ?_);rintro _ w7 ⟨rfl,hb7⟩;have Qe:=Qa (bel_step Xt.out hb7);have S5:=Qn.out w7 Qe.out;have Xu:=Qa (Yc.out.below hb7);obtain ⟨z0,z1,f0,f1⟩:=Xu.out;have Xv:=Qa (show Below wr.heap.size wr ((w7.setCell ⟨wr.heap.size,0,none⟩ (.int .i64 m1)).setCell ⟨wr.heap.size,1,none⟩ (.int .i64 m2)) from mg.set2_below Qe.out (Nat.le_refl _) _ _);have ST:=Qn.out _ Xv.out;have Ye:=Qa (R2.put Xu.out m1 m2);clear hb7)))
   all_goals
    go_wp2_with fail
    go_meet
    case rel=>first|exact ⟨_,rfl,rfl,Xv,Ye⟩|(obtain ⟨Gs,hG,h1,h2⟩:=Yd.out;subst hG;exact ⟨_,rfl,rfl,Qa h1,Qa h2⟩)
  case rest =>
   obtain ⟨gx,rfl,rfl,Qk,Xw⟩:=hcut
   obtain ⟨wx,rfl⟩:∃x,x=wc:=⟨_,rfl⟩
   have Xx:=Qa (Qh.out.below Qk.out)
   have Yf:=Qa ((Qk.out.block G (Qh.out.lt Ql.out)).trans Qz.out)
   have Yg:=Qa (bel_step Q5.out Qk.out)
   have Xy:=Qa (fun W (hb:Below wx.heap.size wx W)=>show W.cell? ⟨G,0,none⟩=some (Pq c.P1)∧W.cell? ⟨gx,0,none⟩=some (.int .i64 m1) from ⟨(Lib.cell_of_heap ((hb.block G (Xx.out.lt Ql.out)).trans Yf.out) 0).trans rfl,(Xw.out.below hb).c0⟩)
   have Qt:=Qa (cb.x_kind (Xx.out.below (Below.refl wx.heap.size wx).drew).brx1 m1)
   unfold RetI at Qt
   rw [Xr.out] at Qt
   have q0:(m1 == 0)=false:=by have:=Xq.out;simpa using this
   have S0:=Xy.out wx.drew (Below.refl wx.heap.size wx).drew
   clear Qm Qs Qf Qh Qz Qb Xg Xh Qk Xw Qn Xq Xr
   go_upto_region 18 with fail
   go_region_held3 (fun W=>W.cell? ⟨G,0,none⟩=some (Pq c.P1)∧W.cell? ⟨gx,0,none⟩=some (.int .i64 m1))
    (first|with_reducible exact S0|with_reducible exact S5|assumption|go_keep)
    (first|(go_at_call 61;((with_reducible refine Qt.out.mono ?_);rintro _ w7 ⟨rfl,hb7⟩;have Qe:=Qa (bel_step (Below.refl wx.heap.size wx).drew hb7);have S5:=Xy.out w7 Qe.out;have Yh:=Qa (bel_step Yg.out Qe.out);clear hb7)))
   go_wp2_with fail
   go_roundg (nn - (j+1))
   case measure=>omega
   case rel=>exact ⟨j+1,by omega,by go_num,Yh⟩
end Go.Proofs.YtgoddboicjfkcaaGreat.cu
namespace Go.Proofs.YtgoddboicjfkcaaGreat.fl
open Go.RowKit
open br (BS Ino Inv Tree sumF fresh)
open cb (BrX RetW RetI No)
open bl (Pq)
open mg (Nd Nv Vx bel_step bel_alloc BelowOf wp_region_below calls_below)
theorem three {b:Nat} {w:World} (h:w.heap[b]?=some (.cells #[.string yA,.int .i64 2,.string ⟨#[]⟩,.string yB,.int .i64 1,.string yX,.string yC,.int .i64 3,.string y1] 104 (0,0))) :
  LR w (b+1) (some ⟨b,0,none⟩) zl∧LR w (b+1) (some ⟨b,3,none⟩) z1∧LR w (b+1) (some ⟨b,3,none⟩) (zl.drop 1):=by
 have c:∀j,w.cell? ⟨b,j,none⟩=_:=fun j=>Lib.cell_of_heap h j
 refine ⟨fun j x hx=>?_,fun j x hx=>?_,fun j x hx=>?_⟩
 ·match j,hx with
  | 0,hx=>injection hx with hx;subst hx;exact ⟨b,0,rfl,Nat.lt_succ_self _,(c 0).trans rfl,(c 1).trans rfl,(c 2).trans rfl⟩
  | 1,hx=>injection hx with hx;subst hx;exact ⟨b,0,rfl,Nat.lt_succ_self _,(c 3).trans rfl,(c 4).trans rfl,(c 5).trans rfl⟩
  | 2,hx=>injection hx with hx;subst hx;exact ⟨b,0,rfl,Nat.lt_succ_self _,(c 6).trans rfl,(c 7).trans rfl,(c 8).trans rfl⟩
  | n+3,hx=>cases hx
 ·match j,hx with
  | 0,hx=>injection hx with hx;subst hx;exact ⟨b,3,rfl,Nat.lt_succ_self _,(c 3).trans rfl,(c 4).trans rfl,(c 5).trans rfl⟩
  | n+1,hx=>cases hx
 ·match j,hx with
  | 0,hx=>injection hx with hx;subst hx;exact ⟨b,3,rfl,Nat.lt_succ_self _,(c 3).trans rfl,(c 4).trans rfl,(c 5).trans rfl⟩
  | 1,hx=>injection hx with hx;subst hx;exact ⟨b,3,rfl,Nat.lt_succ_self _,(c 6).trans rfl,(c 7).trans rfl,(c 8).trans rfl⟩
  | n+2,hx=>cases hx
end Go.Proofs.YtgoddboicjfkcaaGreat.fl
namespace Go.Proofs.YtgoddboicjfkcaaGreat.fl
open Go.ChangeShapes Go.WideShapes Go.ChangeAt Go.RowKit
instance:Inhabited Ln:=⟨⟨⟨#[]⟩,0,⟨#[]⟩⟩⟩
theorem open_lines {H:Type} {enc:TypeId×Value→H} {W:World} {r:Reach} {b0:Nat} {sp:Nat→Bool} {held:Bool} {v:Value} {d:DataW H} {p:List MemPlace}
  (hv:Value.okWide Tryz.prog W r b0 70 v) (h:DataW.Trod enc Tryz.prog W 0 sp held 70 v d p) :
  ∃A c l,v=.slice A (l:List Ln).length c∧(l.length≤c∧c≤maxLen)∧LR W W.heap.size A l∧∀x∈l,x.path.size≤maxLen∧x.data.size≤maxLen:=by
 obtain ⟨fuel,hf⟩:=h
 have hcells:v.cells.toList=[v]:=by
  obtain ⟨A,n,c,rfl⟩:=okWide_slice Tryz.underlying70 hv
  rfl
 rw [hcells] at hf
 rcases cb.open_slice_fields Tryz.underlying70 Tryz.underlying104 (by kernel_rfl) (by kernel_rfl) hf with e|⟨a,len,cap,m,e,hl,hm,hlm,hi⟩
 ·injection e with e
  subst e
  exact ⟨none,0,[],rfl,⟨Nat.le_refl _,by unfold maxLen;omega⟩,fun j x hx=>(by cases hx),fun x hx=>(by cases hx)⟩
 ·injection e with e
  subst e
  have hall:∀i,∃x:Ln,i<len→∃b off,(some a:Option Addr)=some ⟨b,off,none⟩∧b<W.heap.size ∧
    W.cell? ⟨b,off+i*3,none⟩=some (.string x.path) ∧
 W.cell? ⟨b,off+i*3+1,none⟩=some (.int .i64 x.kind) ∧
 W.cell? ⟨b,off+i*3+2,none⟩=some (.string x.data)∧x.path.size≤maxLen∧x.data.size≤maxLen:=by
   intro i
   by_cases hil:i<len
   ·obtain ⟨n0,hj0⟩:=hi 0 (by omega)
    obtain ⟨_,_,c00,_⟩:=hj0 0 _ rfl
    obtain ⟨b,off,rfl,hb⟩:=cb.spot_none (by simpa using c00)
    obtain ⟨n,hj⟩:=hi i (by omega)
    obtain ⟨v0,y0,c0,t0⟩:=hj 0 _ rfl
    obtain ⟨v1,y1,c1,t1⟩:=hj 1 _ rfl
    obtain ⟨v2,y2,c2,t2⟩:=hj 2 _ rfl
    obtain ⟨z0,e0,_,hz0⟩:=DataW.trod_string Tryz.underlying9 t0
    obtain ⟨z1,e1,_⟩:=DataW.trod_int Tryz.underlying3 t1
    obtain ⟨z2,e2,_,hz2⟩:=DataW.trod_string Tryz.underlying9 t2
    injection e0 with e0
    subst e0
    injection e1 with e1
    subst e1
    injection e2 with e2
    subst e2
    rw [Go.WideShapes.add_plain] at c0 c1 c2
    exact ⟨⟨z0,z1,z2⟩,fun _=>⟨b,off,rfl,hb,by simpa using c0,by simpa [Nat.add_assoc] using c1,by simpa [Nat.add_assoc] using c2,hz0,hz2⟩⟩
   ·exact ⟨default,fun h=>absurd h hil⟩
  obtain ⟨F,hF⟩:=Classical.axiomOfChoice hall
  have hlen:((List.range len).map F).length=len:=by simp
  have hget:∀(j:Nat) (x:Ln),((List.range len).map F)[j]?=some x→j<len∧x=F j:=fun j x hx=>by
   rw [List.getElem?_map] at hx
   by_cases hj:j<len
   ·rw [List.getElem?_range hj] at hx
    injection hx with hx
    exact ⟨hj,hx.symm⟩
   ·rw [List.getElem?_eq_none (by simpa using hj)] at hx
    cases hx
  refine ⟨some a,cap,(List.range len).map F,by rw [hlen],by rw [hlen];exact ⟨hl,hm⟩,fun j x hx=>?_,fun x hx=>?_⟩
  ·obtain ⟨hj,rfl⟩:=hget j x hx
   obtain ⟨b,off,e,hb,c0,c1,c2,_⟩:=hF j hj
   exact ⟨b,off,e,hb,c0,c1,c2⟩
  ·obtain ⟨j,hx⟩:=List.getElem?_of_mem hx
   obtain ⟨hj,rfl⟩:=hget j x hx
   obtain ⟨_,_,_,_,_,_,_,h1,h2⟩:=hF j hj
   exact ⟨h1,h2⟩
theorem lines_stay {H:Type} {enc:TypeId×Value→H} {W W':World} {v:Value} {d:DataW H} {ps before:List MemPlace} {sp:Nat→Bool}
  (h:DataW.Trod enc Tryz.prog W 0 (fun _=>true) true 70 v d ps) (hb:Below W.heap.size W W') (hsub:∀x∈ps,x∈before) (hlt:∀x∈before,x.block<W.heap.size) (hsp:∀x∈before,sp x.block=true) (hlaid:laidOutB Tryz.prog=true) :
  DataW.Trod enc Tryz.prog W' 0 sp true 70 v d ps :=
 WideElems.Trod_stays hlaid (by kernel_rfl) (of_decide_eq_true (by kernel_rfl)) h (fun x hx=>hb.same (hlt x (hsub x hx))) (fun x hx=>hsp x (hsub x hx))
end Go.Proofs.YtgoddboicjfkcaaGreat.fl
