/- Part 29 of what is known of the program's functions and of the document's words: contracts, and the mathematics beneath them. -/
import Derived.Test.YtgoddboicjfkcaaGreatProg
import Derived.Test.YtgoddboicjfkcaaGreatZ28
import Derived.Deep.LoopGhost
import Derived.Test.YtgoddboicjfkcaaGreatZ22
import Derived.StillTailTactics
set_option linter.unusedVariables false
set_option linter.unusedSimpArgs false
set_option maxRecDepth 100000
set_option maxHeartbeats 8000000
namespace Go.Proofs.YtgoddboicjfkcaaGreat.cu
open Go.RowKit Go.Deep
open br (BS Ino Inv)
open cb (BrX RetW RetI No KB KD Res HB Stab NxR Same WrI Wz)
open bl (Pq Only U8)
open mg (Vx Nd Nv Nb R2 bel_step bel_alloc kindV getV rootV set_below set2_below heap_set)
def NL (w:World) (X:Nat→Prop) (A:Option Addr) (l:List ByteArray):Prop:=∀ (j:Nat) (s:ByteArray),l[j]?=some s→∃ b off,A=some ⟨b,off,none⟩∧X b∧w.cell? ⟨b,off+j,none⟩=some (.string s)∧s.size≤9223372036854775807
theorem NL.same {w w':World} {X:Nat→Prop} {A:Option Addr} {l:List ByteArray} (h:NL w X A l) (hs:Same X w w'):NL w' X A l:=fun j s hj=>by
 obtain ⟨b,off,e,hb,c0,c1⟩:=h j s hj
 exact ⟨b,off,e,hb,(World.cell?_of_block (a:=⟨b,off+j,none⟩) (hs b hb)).trans c0,c1⟩
theorem results_tmp_row_tmp {fn:Func} {p q u:Tmp} {ty:TypeId} (h:fn.results=#[.tmp p,.cell q ty,.tmp u]) (tmps:Array Value) (w:World) (b:Nat) (cs:List Value) (d:TypeDesc)
  (hp:tmps.getD q undef=.pointer (some ⟨b,0,none⟩)) (hc:w.rangeAt b 0 cs) (hu:Tryz.prog.underlying ty=some d) (hd:d.isRow=true) (hi:(Tryz.prog.info? ty).map (·.size)=some cs.length) :
  (results fn tmps).run Tryz.prog w=.ok (.tuple #[tmps.getD p undef,.agg cs.toArray,tmps.getD u undef]) w:=by
 rw [Array.getD_eq_getD_getElem?] at hp
 simp only [results,h]
 simp [Sem.run_bind,hp,asAddr,run_loadVar_mid w b 0 ty cs d hc hu hd hi]
def DescE (w0 w:World) (c:Cp) (L:BS) (r T:Nat) (M:List Res) (X:Nat→Prop) (res:((Int×Nd)×Int)×BS) (e:Ending) (w':World):Prop :=
 e=.returned (.tuple #[.int .i64 res.1.1.1,Nv res.1.1.2,.int .i64 res.1.2])∧Zs w0 w' c res.2 L r T M X∧Same X w w'
theorem descF_drop {S L:BS} {d:Int} {a:Nd} {l:List ByteArray} {j:Nat} {t:ByteArray} (h:l[j]?=some t) :
  descF L S d a (l.drop j)=if (enterF S L d a t).1.2≠0 then (((0,(0,0)),(enterF S L d a t).1.2),(enterF S L d a t).2) else descF L (enterF S L d a t).2 (enterF S L d a t).1.1.1 (enterF S L d a t).1.1 (l.drop (j+1)):=by
 have hj:=(List.getElem?_eq_some_iff.1 h).1
 rw [List.drop_eq_getElem_cons hj,(List.getElem?_eq_some_iff.1 h).2];rfl
theorem descend_any {w0 w:World} {c:Cp} {S L:BS} {r T:Nat} {M:List Res} {X:Nat→Prop} (h:Zs w0 w c S L r T M X) {A:Option Addr} {l:List ByteArray} {cap:Nat} (hl:NL w X A l) (hn:l.length≤1000) (hT:T≤700000) :
  Calls Tryz.prog 119 #[Pq c.C,.slice A l.length cap] w (DescE w0 w c L r (T+l.length) M X (descF L S c.u (rootV S L c.u c.l) l)):=by
 obtain ⟨w1,hw1⟩:∃ w1,w.alloc (.cells #[.int .i64 0,.int .i64 0] 24)=w1:=⟨_,rfl⟩
 obtain ⟨g,hg⟩:∃ g,w.heap.size=g:=⟨_,rfl⟩
 have hb1:Below w.heap.size w w1:=by rw [← hw1];exact bel_alloc _ _
 have hz1:w1.heap.size=g+1:=by rw [← hw1,← hg,World.size_alloc]
 have HX1:=Lib.hid (h.box (Y:=fun b=>X b∨b=g) hb1 (fun b hb=>hb.imp id fun e=>by rw [e];omega) (.inl h.xC) (.inl h.xV))
 have HSX:=Lib.hid (same_below h hb1)
 have HNX:=Lib.hid (show ∀ b,X b→b<g from fun b hb=>hg▸h.lt hb)
 have HCV:=Lib.hid (And.intro h.xC h.xV)
 have HG1:=Lib.hid (show R2 w1 g 0 0 by rw [← hw1,← hg];exact R2.new w 0 0)
 have HZ:=Lib.hid hz1
 have HLO:=Lib.hid (show w0.heap.size≤g by rw [← hg];exact h.bel.size)
 have HNL:=Lib.hid hl
 obtain ⟨m,hm⟩:∃ m,l.length=m:=⟨_,rfl⟩
 have HGL:=Lib.hid (show ∀ j,j<m→∃ x,l[j]?=some x from fun j hj=>⟨l[j]'(by omega),List.getElem?_eq_getElem _⟩)
 have HTT:=Lib.hid (show T+m≤800000 by omega)
 have hmi:(m:Int)≤1000:=by omega
 rw [hm]
 have HLM:=Lib.hid hm
 have HRT:=Lib.hid (fun W (hb:Below w1.heap.size w1 W)=>mg.root_any (HX1.out.below hb).vx)
 unfold RetW at HRT
 have HRD:=Lib.hid (fun W (hb:Below w1.heap.size w1 W)=>show W.cell? ⟨c.C,1,none⟩=some (Pq c.V)∧W.cell? ⟨c.C,2,none⟩=some (.int .i64 c.u) from ⟨(HX1.out.below hb).x.c1,(HX1.out.below hb).x.c2⟩)
 obtain ⟨rt,hrt⟩:∃ x,rootV S L c.u c.l=x:=⟨_,rfl⟩
 rw [hrt] at HRT ⊢
 obtain ⟨x1,x2⟩:=rt
 obtain ⟨res,hres⟩:∃ x,descF L S c.u (x1,x2) l=x:=⟨_,rfl⟩
 have HRE:=Lib.hid hres
 rw [hres]
 have HE:=Lib.hid (show ∀ (W:World) (dd y1 y2 er:Int) (S':BS) (T':Nat),T'≤T+m→res=(((dd,(y1,y2)),er),S')→Zs w0 W c S' L r T' M X→Same X w W→DescE w0 w c L r (T+m) M X res (.returned (.tuple #[.int .i64 dd,.agg #[.int .i64 y1,.int .i64 y2],.int .i64 er])) W from
  fun W dd y1 y2 er S' T' hT' e a b=>by rw [e];exact ⟨rfl,a.up hT',b⟩)
 obtain ⟨PQ,hPQ⟩:∃ P,DescE w0 w c L r (T+m) M X res=P:=⟨_,rfl⟩
 rw [hPQ] at HE ⊢
 clear h hb1 hz1 hPQ hrt hres hl hm hT hn
 obtain ⟨cC,hcC⟩:∃ x,x=c.C:=⟨_,rfl⟩
 rw [← hcC]
 go_enter Tryz.func119,Tryz.ntmps119
 go_upto_region 3 with fail
 try rw [hw1]
 try rw [hg]
 clear hw1
 subst hcC
 go_cut [7,8] from 13 to 49 (fun va vb wx=>∃ G,va=.int .i64 c.u∧vb=.pointer (some ⟨G,0,none⟩)∧Hid (Below w1.heap.size w1 wx)∧Hid (R2 wx G x1 x2)∧Hid (w1.heap.size≤G))
 case first =>
  have S0:=HRD.out w1 (Below.refl _ _)
  have HAB:=Lib.hid (bel_alloc w1 (.cells #[.int .i64 0,.int .i64 0] 24))
  have HAD:=Lib.hid (bel_step HAB.out (Below.refl _ (w1.alloc (.cells #[.int .i64 0,.int .i64 0] 24))).drew)
  have SA:=HRD.out _ HAB.out
  have HGd:=Lib.hid (HRT.out w1.drew (Below.refl w1.heap.size w1).drew)
  have HGA:=Lib.hid (HRT.out (w1.alloc (.cells #[.int .i64 0,.int .i64 0] 24)).drew HAD.out)
  have HZA:=Lib.hid (show R2 (w1.alloc (.cells #[.int .i64 0,.int .i64 0] 24)).drew w1.heap.size 0 0 from (R2.new w1 0 0).below (Below.refl _ _).drew)
  clear HX1 HRT
  go_region_held3 (fun W=>W.cell? ⟨c.C,1,none⟩=some (Pq c.V)∧W.cell? ⟨c.C,2,none⟩=some (.int .i64 c.u))
   (first|with_reducible exact S0|with_reducible exact S5|with_reducible exact SA|with_reducible exact ST|assumption|go_keep)
   (first
    | (go_at_call 15;((with_reducible refine HGd.out.mono ?_);rintro _ w5 ⟨rfl,hb5⟩;have HB5:=Lib.hid (bel_step (Below.refl w1.heap.size w1).drew hb5);have S5:=HRD.out w5 HB5.out;have HF5:=Lib.hid (show ∃ G,w5.heap.size=G∧Below w1.heap.size w1 (w5.alloc (.cells #[.int .i64 x1,.int .i64 x2] 24))∧R2 (w5.alloc (.cells #[.int .i64 x1,.int .i64 x2] 24)) G x1 x2∧w1.heap.size≤G from ⟨_,rfl,bel_step HB5.out (bel_alloc _ _),R2.new w5 x1 x2,HB5.out.size⟩);clear hb5))
    | (go_at_call 15;((with_reducible refine HGA.out.mono ?_);rintro _ w5 ⟨rfl,hb5⟩;have HB5:=Lib.hid (bel_step HAD.out hb5);have S5:=HRD.out w5 HB5.out;have HZ5:=Lib.hid (HZA.out.below hb5);obtain ⟨z0,z1,f0,f1⟩:=HZ5.out;have HBT:=Lib.hid (show Below w1.heap.size w1 ((w5.setCell ⟨w1.heap.size,0,none⟩ (.int .i64 x1)).setCell ⟨w1.heap.size,1,none⟩ (.int .i64 x2)) from set2_below HB5.out (Nat.le_refl _) _ _);have ST:=HRD.out _ HBT.out;have HFG:=Lib.hid (R2.put HZ5.out x1 x2);clear hb5)))
  all_goals
   go_wp2_with fail
   go_meet
   case rel=>first|exact ⟨_,rfl,rfl,HBT,HFG,Lib.hid (Nat.le_refl _)⟩|(obtain ⟨G,hG,h1,h2,h3⟩:=HF5.out;subst hG;exact ⟨_,rfl,rfl,Lib.hid h1,Lib.hid h2,Lib.hid h3⟩)
 case rest =>
  obtain ⟨G,rfl,rfl,HBX,HRX,HGL2⟩:=hcut
  obtain ⟨wx,rfl⟩:∃ x,x=wc:=⟨_,rfl⟩
  obtain ⟨Y,hY⟩:∃ Y:Nat→Prop,(fun b=>X b∨b=g∨b=G)=Y:=⟨_,rfl⟩
  have hYX:∀ b,X b→Y b:=fun b hb=>by rw [← hY];exact .inl hb
  have hYg:Y g:=by rw [← hY];exact .inr (.inl rfl)
  have hYG:Y G:=by rw [← hY];exact .inr (.inr rfl)
  have hgC:g≠c.C∧g≠c.V:=⟨fun e=>by have:=HNX.out _ HCV.out.1;omega,fun e=>by have:=HNX.out _ HCV.out.2;omega⟩
  have hGC:G≠c.C∧G≠c.V:=⟨fun e=>by have:=HNX.out _ HCV.out.1;have:=HGL2.out;have:=HZ.out;omega,fun e=>by have:=HNX.out _ HCV.out.2;have:=HGL2.out;have:=HZ.out;omega⟩
  have hwG:w0.heap.size≤G:=by have:=HLO.out;have:=HGL2.out;have:=HZ.out;omega
  have HXX:=Lib.hid (HX1.out.box (Y:=Y) HBX.out (fun b hb=>by
   rw [← hY] at hb
   rcases hb with e|e|e
   ·exact .inl (.inl e)
   ·exact .inl (.inr e)
   ·exact .inr ⟨by rw [e];exact HGL2.out,by rw [e];exact HRX.out.lt⟩) (hYX _ HCV.out.1) (hYX _ HCV.out.2))
  have HSY:=Lib.hid (show Same X w wx from same_trans HSX.out (fun b hb=>HBX.out.block b (HX1.out.lt (.inl hb))))
  have HRR:=Lib.hid (HG1.out.below HBX.out)
  have HFN:=Lib.hid (show ∀ (W:World) (dd y1 y2 er:Int) (S':BS) (T':Nat),T'≤T+m→res=(((dd,(y1,y2)),er),S')→Zs w0 W c S' L r T' M Y→Same X w W→PQ (.returned (.tuple #[.int .i64 dd,.agg #[.int .i64 y1,.int .i64 y2],.int .i64 er])) ((W.setCell ⟨g,0,none⟩ (.int .i64 y1)).setCell ⟨g,1,none⟩ (.int .i64 y2)) from
   fun W dd y1 y2 er S' T' hT' he hz hs=>HE.out _ dd y1 y2 er S' T' hT' he ((hz.set2 hYg (by have:=HLO.out;omega) hgC.1 hgC.2 _ _).sub hYX HCV.out.1 HCV.out.2)
    (same_trans (same_trans hs (same_set fun e=>by have:=HNX.out _ e;omega)) (same_set fun e=>by have:=HNX.out _ e;omega)))
  have HFD:=Lib.hid (show ∀ (W:World) (dd y1 y2 er:Int) (S':BS) (T':Nat),T'≤T+m→res=(((dd,(y1,y2)),er),S')→Zs w0 W c S' L r T' M Y→Same X w W→PQ (.returned (.tuple #[.int .i64 dd,.agg #[.int .i64 y1,.int .i64 y2],.int .i64 er])) ((W.setCell ⟨g,0,none⟩ (.int .i64 y1)).setCell ⟨g,1,none⟩ (.int .i64 y2)).drew from
   fun W dd y1 y2 er S' T' hT' he hz hs=>HE.out _ dd y1 y2 er S' T' hT' he ((hz.set2 hYg (by have:=HLO.out;omega) hgC.1 hgC.2 _ _).drew.sub hYX HCV.out.1 HCV.out.2)
    (same_trans (same_trans (same_trans hs (same_set fun e=>by have:=HNX.out _ e;omega)) (same_set fun e=>by have:=HNX.out _ e;omega)) (fun _ _=>rfl)))
  have HFX:=Lib.hid (And.intro hYX (And.intro hYg (And.intro hYG (And.intro hGC (And.intro hwG (show g≠G by have:=HGL2.out;have:=HZ.out;omega))))))
  have HNG:=Lib.hid (show ∀ b,X b→b≠G from fun b hb e=>by have:=HNX.out _ hb;have:=HGL2.out;have:=HZ.out;omega)
  clear hY hYX hYg hYG hgC hGC hwG HX1 HSX HG1 HRD HRT HE HBX
  go_upto_region 5 with fail
  go_loopg [7,27] m (fun gh s7 s27 wr=>∃ (j:Nat) (d a1 a2:Int) (S':BS),gh+j=m∧s7=.int .i64 d∧s27=.int .i64 j∧Hid (res=descF L S' d (a1,a2) (l.drop j))∧Hid (Zs w0 wr c S' L r (T+j) M Y)∧Hid (R2 wr G a1 a2)∧Hid (R2 wr g 0 0)∧Hid (Same X w wr))
  case atStart=>exact ⟨0,c.u,x1,x2,S,by omega,rfl,rfl,Lib.hid HRE.out.symm,HXX,HRX,HRR,HSY⟩
  case round =>
   obtain ⟨j,d,a1,a2,S',hgj,rfl,rfl,HRJ,HXJ,HRG,HRg,HSJ⟩:=hrel
   by_cases hj:j<m
   case neg =>
    obtain rfl:j=m:=by omega
    have HF:=Lib.hid (HFD.out wr d a1 a2 0 S' (T+j) (Nat.le_refl _) (by rw [HRJ.out,List.drop_eq_nil_of_le (by rw [HLM.out];exact Nat.le_refl _)];rfl) HXJ.out HSJ.out)
    obtain ⟨t0,t1,f0,f1⟩:=HRG.out
    obtain ⟨s0,s1,v0,v1⟩:=HRg.out
    have HRS:=Lib.hid (fun a b=>HRg.out.range a b)
    go_wp2_with fail
    go_region
    all_goals
     go_wp2_with fail
     refine bodyPost_ret (results_tmp_row_tmp rfl _ _ g _ _ rfl (HRS.out _ _) Tryz.underlying24 (by rfl) (by rfl)) rfl ?_
     exact HF.out
   obtain ⟨t,htj⟩:=HGL.out j hj
   obtain ⟨nb,off,hA,hnb,nc,hts⟩:=HNL.out j t htj
   subst hA
   have hnw:=(World.cell?_of_block (a:=⟨nb,off+j,none⟩) (HSJ.out nb hnb)).trans nc
   have hnG:=HNG.out nb hnb
   have HST:=Lib.hid hts
   have HDJ:=Lib.hid (HRJ.out.trans (descF_drop htj))
   have HEN:=Lib.hid (enter_any HXJ.out (by have:=HTT.out;omega) d (a1,a2) t hts)
   unfold EnterE at HEN
   obtain ⟨en,hen⟩:∃ x,enterF S' L d (a1,a2) t=x:=⟨_,rfl⟩
   rw [hen] at HEN HDJ
   clear hen nc htj HRJ
   obtain ⟨⟨⟨y1,y2⟩,er⟩,S2⟩:=en
   dsimp only at HEN HDJ
   obtain ⟨t0,t1,f0,f1⟩:=HRG.out
   go_wp2_with fail
   refine HEN.out.mono ?_
   rintro _ w5 ⟨rfl,hz5,hs5⟩
   have HX5:=Lib.hid (show Zs w0 w5 c S2 L r (T+(j+1)) M Y from hz5)
   have HG5:=Lib.hid (HRG.out.same (hs5 _ HFX.out.2.2.1))
   have Hg5:=Lib.hid (HRg.out.same (hs5 _ HFX.out.2.1))
   have HS5:=Lib.hid (same_trans HSJ.out (fun b hb=>hs5 b (HFX.out.1 b hb)))
   clear hz5 hs5 t0 t1 f0 f1 hnw HXJ HRG HRg HSJ HEN
   obtain ⟨w6,hw6⟩:∃ w6,w5.alloc (.cells #[.int .i64 y1,.int .i64 y2] 24)=w6:=⟨_,rfl⟩
   obtain ⟨g6,hg6⟩:∃ g6,w5.heap.size=g6:=⟨_,rfl⟩
   have hb6:Below w5.heap.size w5 w6:=by rw [← hw6];exact bel_alloc _ _
   have HX6:=Lib.hid (HX5.out.below hb6)
   have HG6:=Lib.hid (HG5.out.below hb6)
   have Hg6:=Lib.hid (Hg5.out.below hb6)
   have HN6:=Lib.hid (show R2 w6 g6 y1 y2 by rw [← hw6,← hg6];exact R2.new w5 y1 y2)
   have HS6:=Lib.hid (show Same X w w6 from same_trans HS5.out (fun b hb=>hb6.block b (HX5.out.lt (HFX.out.1 b hb))))
   have h6G:G≠g6:=by rw [← hg6];have:=HG5.out.lt;omega
   clear HX5 HG5 Hg5 HS5 hb6
   go_upto_region 8 with fail
   try rw [hw6]
   try rw [hg6]
   clear hw6 hg6
   obtain ⟨t0,t1,f0,f1⟩:=HG6.out
   obtain ⟨s0,s1,v0,v1⟩:=Hg6.out
   obtain ⟨k0,k1,_,_⟩:=HN6.out
   by_cases he:er=0
   case neg =>
    rw [if_pos he] at HDJ
    have HF:=Lib.hid (HFN.out w6 0 0 0 er S2 (T+(j+1)) (by omega) HDJ.out HX6.out HS6.out)
    have HRS:=Lib.hid (fun a b=>Hg6.out.range a b)
    have qe:(er != 0)=true:=by simpa using he
    clear he
    go_wp2_with fail
    refine bodyPost_ret (results_tmp_row_tmp rfl _ _ g _ _ rfl (HRS.out _ _) Tryz.underlying24 (by rfl) (by rfl)) rfl ?_
    exact HF.out
   subst he
   rw [if_neg (by decide)] at HDJ
   have HRA:=Lib.hid (R2.put HG6.out y1 y2)
   have HXA:=Lib.hid (HX6.out.set2 HFX.out.2.2.1 HFX.out.2.2.2.2.1 HFX.out.2.2.2.1.1 HFX.out.2.2.2.1.2 (.int .i64 y1) (.int .i64 y2))
   have HRB:=Lib.hid (show R2 ((w6.setCell ⟨G,0,none⟩ (.int .i64 y1)).setCell ⟨G,1,none⟩ (.int .i64 y2)) g 0 0 from (Hg6.out.same (heap_set HFX.out.2.2.2.2.2)).same (heap_set HFX.out.2.2.2.2.2))
   have HSA:=Lib.hid (same_trans (same_trans HS6.out (same_set (g:=G) (i:=0) (a:=.int .i64 y1) fun e=>HNG.out _ e rfl)) (same_set (g:=G) (i:=1) (a:=.int .i64 y2) fun e=>HNG.out _ e rfl))
   clear HX6 HG6 Hg6 HS6
   go_wp2_with fail
   go_region
   all_goals
    go_wp2_with fail
    go_roundg (gk - 1)
    case measure=>omega
    case rel=>exact ⟨j+1,y1,y1,y2,S2,by omega,rfl,by go_num,HDJ,Lib.hid HXA.out.drew,Lib.hid (HRA.out.below (Below.refl _ _).drew),Lib.hid (HRB.out.below (Below.refl _ _).drew),Lib.hid (same_trans HSA.out fun _ _=>rfl)⟩
def ChainE (w0 w:World) (c:Cp) (L:BS) (r T:Nat) (M:List Res) (X:Nat→Prop) (v er:Int) (S':BS) (e:Ending) (w':World):Prop :=
 e=.returned (.tuple #[.int .i64 v,.int .i64 er])∧Zs w0 w' c S' L r T M X∧Same X w w'
theorem chain_any {w0 w:World} {c:Cp} {S L:BS} {r T:Nat} {M:List Res} {X:Nat→Prop} (h:Zs w0 w c S L r T M X) {A:Option Addr} {l:List ByteArray} {cap:Nat} (hl:NL w X A l) (hn:l.length≤1000) (hT:T≤700000) :
  Calls Tryz.prog 49 #[Pq c.C,.slice A l.length cap] w (ChainE w0 w c L r (T+l.length) M X (descF L S c.u (rootV S L c.u c.l) l).1.1.1 (descF L S c.u (rootV S L c.u c.l) l).1.2 (descF L S c.u (rootV S L c.u c.l) l).2):=by
 have HD:=Lib.hid (descend_any (cap:=cap) h hl hn hT)
 unfold DescE at HD
 unfold ChainE
 generalize descF L S c.u (rootV S L c.u c.l) l=res at *
 obtain ⟨⟨⟨d,a1,a2⟩,er⟩,S'⟩:=res
 dsimp only at HD ⊢
 generalize l.length=m at *
 have HLT:=Lib.hid (fun b (hb:X b)=>h.lt hb)
 clear h hl hn hT
 go_enter Tryz.func49,Tryz.ntmps49
 go_wp2_with fail
 refine HD.out.mono ?_
 rintro _ w1 ⟨rfl,hz1,hs1⟩
 have HZ:=Lib.hid hz1
 have HS:=Lib.hid hs1
 clear hz1 hs1 HD
 go_wp2_with fail
 go_ret2
 exact ⟨rfl,HZ.out.below (bel_alloc _ _),same_trans HS.out (same_below HZ.out (bel_alloc _ _))⟩
theorem view_any {w0 w:World} {c:Cp} {S L:BS} {r T:Nat} {M:List Res} {X:Nat→Prop} (h:Zs w0 w c S L r T M X):Calls Tryz.prog 55 #[Pq c.C] w (fun e w'=>e=.returned (Pq c.V)∧w'=w):=by
 have c1:=h.x.c1
 clear h
 go_enter Tryz.func55,Tryz.ntmps55
 go_wp2_with fail
 go_ret
 exact ⟨rfl,rfl⟩
theorem walkV_drop {S L:BS} {a:Nd} {l:List ByteArray} {j:Nat} {t:ByteArray} (h:l[j]?=some t):walkV S L a (l.drop j)=if (getV S L a t).2≠0 then ((0,0),(getV S L a t).2) else walkV S L (getV S L a t).1 (l.drop (j+1)):=by
 have hj:=(List.getElem?_eq_some_iff.1 h).1
 rw [List.drop_eq_getElem_cons hj,(List.getElem?_eq_some_iff.1 h).2];rfl
theorem NL.below {w w':World} {X:Nat→Prop} {A:Option Addr} {l:List ByteArray} (h:NL w X A l) (hb:Below w.heap.size w w'):NL w' X A l:=fun j s hj=>by
 obtain ⟨b,off,e,hx,c0,c1⟩:=h j s hj
 exact ⟨b,off,e,hx,(hb.cell (p:=⟨b,off+j,none⟩) (World.block_lt_of_cell? _ _ c0)).trans c0,c1⟩
theorem node_any {w0 w:World} {c:Cp} {S L:BS} {r T:Nat} {M:List Res} {X:Nat→Prop} (h:Zs w0 w c S L r T M X) {A:Option Addr} {l:List ByteArray} {cap:Nat} (hl:NL w X A l) (hn:l.length≤1000) :
  Calls Tryz.prog 56 #[Pq c.C,.slice A l.length cap] w (RetW w (.tuple #[Nv (walkV S L (rootV S L c.u c.l) l).1,.int .i64 (walkV S L (rootV S L c.u c.l) l).2])):=by
 obtain ⟨w1,hw1⟩:∃ w1,w.alloc (.cells #[.int .i64 0,.int .i64 0] 24)=w1:=⟨_,rfl⟩
 obtain ⟨g,hg⟩:∃ g,w.heap.size=g:=⟨_,rfl⟩
 have hb1:Below w.heap.size w w1:=by rw [← hw1];exact bel_alloc _ _
 have hz1:w1.heap.size=g+1:=by rw [← hw1,← hg,World.size_alloc]
 have HG1:=Lib.hid (show R2 w1 g 0 0 by rw [← hw1,← hg];exact R2.new w 0 0)
 have HGE:=Lib.hid (show w.heap.size≤g by omega)
 have HB1:=Lib.hid hb1
 have HV:=Lib.hid (fun W (hb:Below w.heap.size w W)=>view_any (h.below hb))
 have HRT:=Lib.hid (fun W (hb:Below w.heap.size w W)=>mg.root_any (h.below hb).vx)
 have HGET:=Lib.hid (fun W (hb:Below w.heap.size w W) n t=>mg.get_any (h.below hb).vx n t)
 have HNL:=Lib.hid (fun W (hb:Below w.heap.size w W)=>hl.below hb)
 obtain ⟨m,hm⟩:∃ m,l.length=m:=⟨_,rfl⟩
 have HGL:=Lib.hid (show ∀ j,j<m→∃ x,l[j]?=some x from fun j hj=>⟨l[j]'(by omega),List.getElem?_eq_getElem _⟩)
 have hmi:(m:Int)≤1000:=by omega
 rw [hm]
 have HLM:=Lib.hid hm
 unfold RetW at HRT HGET
 obtain ⟨rt,hrt⟩:∃ x,rootV S L c.u c.l=x:=⟨_,rfl⟩
 rw [hrt] at HRT ⊢
 obtain ⟨x1,x2⟩:=rt
 obtain ⟨res,hres⟩:∃ x,walkV S L (x1,x2) l=x:=⟨_,rfl⟩
 have HRE:=Lib.hid hres
 rw [hres]
 have HE:=Lib.hid (show ∀ (W:World) (y1 y2 er:Int),res=((y1,y2),er)→Below w.heap.size w W→RetW w (.tuple #[Nv res.1,.int .i64 res.2]) (.returned (.tuple #[.agg #[.int .i64 y1,.int .i64 y2],.int .i64 er])) W from
  fun W y1 y2 er e a=>by rw [e];exact ⟨rfl,a⟩)
 obtain ⟨PQ,hPQ⟩:∃ P,RetW w (.tuple #[Nv res.1,.int .i64 res.2])=P:=⟨_,rfl⟩
 rw [hPQ] at HE ⊢
 clear h hb1 hPQ hrt hres hl hm hn
 obtain ⟨cC,hcC⟩:∃ x,x=c.C:=⟨_,rfl⟩
 rw [← hcC] at HV ⊢
 clear hcC
 go_enter Tryz.func56,Tryz.ntmps56
 go_upto_region 1 with fail
 try rw [hw1]
 try rw [hg]
 clear hw1
 go_wp2_with fail
 refine (HV.out w1 HB1.out).mono ?_
 rintro _ w2 ⟨rfl,rfl⟩
 go_wp2_with fail
 refine (HRT.out w2 HB1.out).mono ?_
 rintro _ w3 ⟨rfl,hb3⟩
 obtain ⟨w4,hw4⟩:∃ w4,w3.alloc (.cells #[.int .i64 x1,.int .i64 x2] 24)=w4:=⟨_,rfl⟩
 obtain ⟨G,hG⟩:∃ G,w3.heap.size=G:=⟨_,rfl⟩
 have HB4:=Lib.hid (show Below w.heap.size w w4 by rw [← hw4];exact bel_step (bel_step HB1.out hb3) (bel_alloc _ _))
 have HR4:=Lib.hid (show R2 w4 G x1 x2 by rw [← hw4,← hG];exact R2.new w3 x1 x2)
 have Hg4:=Lib.hid (show R2 w4 g 0 0 by rw [← hw4];exact (HG1.out.below hb3).below (bel_alloc _ _))
 have HGG:=Lib.hid (show g<G by have:=hb3.size;omega)
 clear hb3 HB1 HG1 HRT HV hz1
 go_upto_region 4 with fail
 try rw [hw4]
 try rw [hG]
 clear hw4 hG
 go_loopg [18] m (fun gh s18 wr=>∃ (j:Nat) (a1 a2:Int),gh+j=m∧s18=.int .i64 j∧Hid (res=walkV S L (a1,a2) (l.drop j))∧Hid (R2 wr G a1 a2)∧Hid (R2 wr g 0 0)∧Hid (Below w.heap.size w wr))
 case atStart=>exact ⟨0,x1,x2,by omega,rfl,Lib.hid HRE.out.symm,HR4,Hg4,HB4⟩
 case round =>
  obtain ⟨j,a1,a2,hgj,rfl,HRJ,HRG,HRg,HBJ⟩:=hrel
  by_cases hj:j<m
  case neg =>
   obtain rfl:j=m:=by omega
   have HF:=Lib.hid (HE.out ((wr.setCell ⟨g,0,none⟩ (.int .i64 a1)).setCell ⟨g,1,none⟩ (.int .i64 a2)) a1 a2 0 (by rw [HRJ.out,List.drop_eq_nil_of_le (by rw [HLM.out];exact Nat.le_refl _)];rfl) (set2_below HBJ.out HGE.out _ _))
   obtain ⟨t0,t1,f0,f1⟩:=HRG.out
   obtain ⟨s0,s1,v0,v1⟩:=HRg.out
   have HRS:=Lib.hid (fun a b=>HRg.out.range a b)
   go_wp2_with fail
   refine bodyPost_ret (mg.results_row_tmp rfl _ _ g _ _ rfl (HRS.out _ _) Tryz.underlying24 (by rfl) (by rfl)) rfl ?_
   exact HF.out
  obtain ⟨t,htj⟩:=HGL.out j hj
  obtain ⟨nb,off,hA,-,nc,hts⟩:=HNL.out wr HBJ.out j t htj
  subst hA
  have HDJ:=Lib.hid (HRJ.out.trans (walkV_drop htj))
  have HGT:=Lib.hid (HGET.out wr HBJ.out (a1,a2) t)
  obtain ⟨gv,hgv⟩:∃ x,getV S L (a1,a2) t=x:=⟨_,rfl⟩
  rw [hgv] at HGT HDJ
  clear hgv htj HRJ
  obtain ⟨⟨y1,y2⟩,er⟩:=gv
  dsimp only at HGT HDJ
  obtain ⟨t0,t1,f0,f1⟩:=HRG.out
  go_wp2_with fail
  refine HGT.out.mono ?_
  rintro _ w5 ⟨rfl,hb5⟩
  obtain ⟨w6,hw6⟩:∃ w6,w5.alloc (.cells #[.int .i64 y1,.int .i64 y2] 24)=w6:=⟨_,rfl⟩
  obtain ⟨g6,hg6⟩:∃ g6,w5.heap.size=g6:=⟨_,rfl⟩
  have HB6:=Lib.hid (show Below w.heap.size w w6 by rw [← hw6];exact bel_step (bel_step HBJ.out hb5) (bel_alloc _ _))
  have HG6:=Lib.hid (show R2 w6 G a1 a2 by rw [← hw6];exact (HRG.out.below hb5).below (bel_alloc _ _))
  have Hg6:=Lib.hid (show R2 w6 g 0 0 by rw [← hw6];exact (HRg.out.below hb5).below (bel_alloc _ _))
  have HN6:=Lib.hid (show R2 w6 g6 y1 y2 by rw [← hw6,← hg6];exact R2.new w5 y1 y2)
  clear t0 t1 f0 f1 nc hb5 HRG HRg HBJ HGT
  go_upto_region 7 with fail
  try rw [hw6]
  try rw [hg6]
  clear hw6 hg6
  obtain ⟨t0,t1,f0,f1⟩:=HG6.out
  obtain ⟨s0,s1,v0,v1⟩:=Hg6.out
  obtain ⟨k0,k1,_,_⟩:=HN6.out
  by_cases he:er=0
  case neg =>
   rw [if_pos he] at HDJ
   have HF:=Lib.hid (HE.out ((w6.setCell ⟨g,0,none⟩ (.int .i64 0)).setCell ⟨g,1,none⟩ (.int .i64 0)) 0 0 er HDJ.out (set2_below HB6.out HGE.out _ _))
   have HRS:=Lib.hid (fun a b=>Hg6.out.range a b)
   have qe:(er != 0)=true:=by simpa using he
   clear he
   go_wp2_with fail
   refine bodyPost_ret (mg.results_row_tmp rfl _ _ g _ _ rfl (HRS.out _ _) Tryz.underlying24 (by rfl) (by rfl)) rfl ?_
   exact HF.out
  subst he
  rw [if_neg (by decide)] at HDJ
  have HRA:=Lib.hid (R2.put HG6.out y1 y2)
  have HBA:=Lib.hid (set2_below HB6.out (show w.heap.size≤G by have:=HGG.out;have:=HGE.out;omega) (.int .i64 y1) (.int .i64 y2))
  have HRB:=Lib.hid (show R2 ((w6.setCell ⟨G,0,none⟩ (.int .i64 y1)).setCell ⟨G,1,none⟩ (.int .i64 y2)) g 0 0 from (Hg6.out.same (heap_set (by have:=HGG.out;omega))).same (heap_set (by have:=HGG.out;omega)))
  clear HB6 HG6 Hg6
  go_wp2_with fail
  go_roundg (gk - 1)
  case measure=>omega
  case rel=>exact ⟨j+1,y1,y2,by omega,by go_num,HDJ,HRA,HRB,HBA⟩
end Go.Proofs.YtgoddboicjfkcaaGreat.cu
namespace Go.Proofs.YtgoddboicjfkcaaGreat.cu
open Go.RowKit Go.Deep
open cb (RetW)
open bl (U8)
def BR (w:World) (X:Nat→Prop) (A:Option Addr) (n:Nat) (f:Nat→UInt8):Prop:=∀ j,j<n→∃ b o,A=some ⟨b,o,none⟩∧X b∧w.cell? ⟨b,o+j,none⟩=some (U8 (f j))
def allZ (n:Nat) (f:Nat→UInt8):Bool:=(List.range n).all fun j=>f j == 0
theorem allZ_iff {n:Nat} {f:Nat→UInt8}:allZ n f=true↔∀ j,j<n→f j=0:=by unfold allZ;simp
theorem isnt_any (x:UInt8) (w:World):Calls Tryz.prog 243 #[U8 x] w (fun e w'=>e=.returned (.bool (x != 0))∧w'=w):=by
 have hx:(((x.toNat:Nat):Int) != 0)=(x != 0):=by
  by_cases h:x=0
  ·subst h;rfl
  ·have h1:x.toNat≠0:=fun e=>h (UInt8.toNat_inj.1 e)
   have h2:((x.toNat:Nat):Int)≠0:=by omega
   rw [show (x != 0)=true from by simpa using h];simpa using h2
 unfold U8
 generalize x.toNat=n at *
 generalize (x != 0)=q at *
 go_enter Tryz.func243,Tryz.ntmps243
 go_wp2_with fail
 go_ret
 exact ⟨by rw [← hx] <;> rfl,rfl⟩
def IdxE (w:World) (n:Nat) (f:Nat→UInt8) (e:Ending) (w':World):Prop :=
 ((∃ i:Nat,i<n∧f i≠0∧e=.returned (.int .i64 i))∨((∀ j,j<n→f j=0)∧e=.returned (.int .i64 (-1))))∧w'=w
theorem index_any {w:World} {X:Nat→Prop} {A:Option Addr} {n c:Nat} {f:Nat→UInt8} (h:BR w X A n f) (hn:n≤1000):Calls Tryz.prog 252 #[.slice A n c,.func (.func 243) #[] #[]] w (IdxE w n f):=by
 have HB:=Lib.hid h
 have HD1:=Lib.hid (show ∀ i:Nat,i<n→f i≠0→IdxE w n f (.returned (.int .i64 i)) w from fun i a b=>⟨.inl ⟨i,a,b,rfl⟩,rfl⟩)
 have HD2:=Lib.hid (show (∀ j,j<n→f j=0)→IdxE w n f (.returned (.int .i64 (-1))) w from fun a=>⟨.inr ⟨a,rfl⟩,rfl⟩)
 obtain ⟨PQ,hPQ⟩:∃ P,IdxE w n f=P:=⟨_,rfl⟩
 rw [hPQ] at HD1 HD2 ⊢
 clear h hPQ
 go_enter Tryz.func252,Tryz.ntmps252
 go_wp2_with fail
 go_loopg [8] n (fun gk s wr=>∃ k:Nat,gk+k=n∧s=.int .i64 k∧Hid (∀ j,j<k→f j=0)∧wr=w)
 case atStart=>exact ⟨0,by omega,rfl,Lib.hid (by omega),rfl⟩
 case round =>
  obtain ⟨k,hgk,rfl,HF,rfl⟩:=hrel
  by_cases hlt:k<n
  ·obtain ⟨b,o,hA,_,hc⟩:=HB.out k hlt
   subst hA
   have HC:=Lib.hid (isnt_any (f k) wr)
   unfold U8 at HC hc
   obtain ⟨xk,hxk⟩:∃ z,((f k).toNat:Int)=z:=⟨_,rfl⟩
   rw [hxk] at HC hc
   have HFk:=Lib.hid (fun h:f k=0=>(fun j hj=>by
    rcases Nat.lt_succ_iff_lt_or_eq.1 hj with h1|h1
    ·exact HF.out j h1
    ·rw [h1];exact h:∀ j,j<k+1→f j=0))
   have HY:=Lib.hid (HD1.out k hlt)
   generalize f k=x at *
   clear HF
   by_cases he:x=0
   ·have HX:=Lib.hid (HFk.out he)
    have hq:(x != 0)=false:=by simp [he]
    rw [hq] at HC
    clear hq he
    go_wp2_with fail
    refine HC.out.mono ?_
    rintro _ w2 ⟨rfl,rfl⟩
    go_wp2_with fail
    go_roundg (gk - 1)
    case measure=>omega
    case rel=>exact ⟨k+1,by omega,by go_num,HX,rfl⟩
   ·have HX:=Lib.hid (HY.out he)
    have hq:(x != 0)=true:=by simpa using he
    rw [hq] at HC
    clear hq he
    go_wp2_with fail
    refine HC.out.mono ?_
    rintro _ w2 ⟨rfl,rfl⟩
    go_wp2_with fail
    exact HX.out
  ·obtain rfl:k=n:=by omega
   have HX:=Lib.hid (HD2.out HF.out)
   go_wp2_with fail
   exact HX.out
theorem zero_any {w:World} {X:Nat→Prop} {A:Option Addr} {n c:Nat} {f:Nat→UInt8} (h:BR w X A n f) (hn:n≤1000):Calls Tryz.prog 230 #[.slice A n c] w (fun e w'=>e=.returned (.bool (allZ n f))∧w'=w):=by
 have HI:=Lib.hid (index_any (c:=c) h hn)
 unfold IdxE at HI
 have HC:Hid (Calls Tryz.prog 242 #[.slice A n c,.func (.func 243) #[] #[]] w (fun e w'=>e=.returned (.bool (!allZ n f))∧w'=w)):=Lib.hid (by
  obtain ⟨q,hq⟩:∃ q,allZ n f=q:=⟨_,rfl⟩
  have HQ:=Lib.hid hq
  rw [hq]
  clear hq h
  go_enter Tryz.func242,Tryz.ntmps242
  go_wp2_with fail
  refine HI.out.mono ?_
  rintro e w' ⟨⟨i,hi,hf,rfl⟩|⟨hf,rfl⟩,rfl⟩
  ·have e1:q=false:=by rw [← HQ.out,Bool.eq_false_iff];exact fun e=>hf (allZ_iff.1 e i hi)
   subst e1
   have h0:(0:Int)≤(i:Int):=by omega
   go_wp2_with fail
   go_ret
   exact ⟨rfl,rfl⟩
  ·have e1:q=true:=by rw [← HQ.out];exact allZ_iff.2 hf
   subst e1
   go_wp2_with fail
   go_ret
   exact ⟨rfl,rfl⟩)
 generalize allZ n f=q at *
 clear HI h
 go_enter Tryz.func230,Tryz.ntmps230
 go_wp2_with fail
 refine HC.out.mono ?_
 rintro _ w' ⟨rfl,rfl⟩
 go_wp2_with fail
 go_ret
 exact ⟨by cases q <;> rfl,rfl⟩
end Go.Proofs.YtgoddboicjfkcaaGreat.cu
