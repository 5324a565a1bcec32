/- Part 34 of what is known of the program's functions and of the document's words: contracts, and the mathematics beneath them. -/
import Derived.Test.YtgoddboicjfkcaaGreatProg
import Derived.Test.YtgoddboicjfkcaaGreatZ33
import Derived.Defers
set_option linter.unusedVariables false
set_option linter.unusedSimpArgs false
set_option maxRecDepth 100000
set_option maxHeartbeats 8000000
namespace Go.Proofs.YtgoddboicjfkcaaGreat.cu
open Go.RowKit Go.Deep
open br (BS Ino Inv at_nat abE)
open cb (BrX RetW RetI No KB KD Res HB Stab NxR Same WrI Wz ReadI newI)
open bl (Pq Only U8 AB wr cut cutR)
open mg (Vx Nd Nv Nb R2 R3 bel_step bel_alloc kindV getV rootV set_below set2_below set3_below heap_set readN AllV statN targN)
structure R1 (w:World) (g:Nat) (x:Int):Prop where
 c0:w.cell? ⟨g,0,none⟩=some (.int .i64 x)
 f0:w.frozen? ⟨g,0,none⟩=false
theorem R1.new (w:World) (x:Int) (t:TypeId):R1 (w.alloc (.cells #[.int .i64 x] t)) w.heap.size x:=⟨by simp,by simp⟩
theorem R1.lt {w:World} {g:Nat} {x:Int} (h:R1 w g x):g<w.heap.size:=World.block_lt_of_cell? _ _ h.c0
theorem R1.same {w w':World} {g:Nat} {x:Int} (h:R1 w g x) (e:w'.heap[g]?=w.heap[g]?):R1 w' g x:=⟨(World.cell?_of_block (a:=⟨g,0,none⟩) e).trans h.c0,(World.frozen?_of_block (a:=⟨g,0,none⟩) e).trans h.f0⟩
theorem R1.below {w w':World} {g:Nat} {x:Int} (h:R1 w g x) (hb:Below w.heap.size w w'):R1 w' g x:=h.same (hb.block g h.lt)
theorem R1.put {w:World} {g:Nat} {x:Int} (h:R1 w g x) (a:Int):R1 (w.setCell ⟨g,0,none⟩ (.int .i64 a)) g a:=⟨World.cell?_setCell_same _ _ _ h.c0,by simp [h.f0]⟩
theorem results_tmp_cell {fn:Func} {p q:Tmp} {ty:TypeId} (h:fn.results=#[.tmp p,.cell q ty]) (tmps:Array Value) (w:World) (b:Nat) (v:Value)
  (hp:tmps.getD q undef=.pointer (some ⟨b,0,none⟩)) (hl:(loadVar ty ⟨b,0,none⟩).run Tryz.prog w=.ok v w) :
  (results fn tmps).run Tryz.prog w=.ok (.tuple #[tmps.getD p undef,v]) w:=by
 rw [Array.getD_eq_getD_getElem?] at hp
 simp only [results,h]
 simp [Sem.run_bind,Result.andThen,hp,asAddr,hl]
theorem load39 {w:World} {g:Nat} {x:Int} (h:R1 w g x):(loadVar 39 ⟨g,0,none⟩).run Tryz.prog w=.ok (.int .i64 x) w:=by
 have hc:=h.c0
 simp [loadVar,go_sem,hc]
def CopyE (w0 w:World) (c:Cp) (S L:BS) (r T:Nat) (M:List Res) (X:Nat→Prop) (d:Int) (s:ByteArray) (B:AB) (e:Ending) (w':World):Prop :=
 ∃ (v er:Int) (S':BS),e=.returned (.tuple #[.int .i64 v,.int .i64 er])∧Zs w0 w' c S' L r T M X∧Same X w w' ∧
  ((er=0∧∃ D n:Nat,d=(D:Int)∧v=(n:Int)∧Mk S S' D n s (fileI (copyB B)))∨(er≠0∧v=0∧S'=S∧((er=28∧r<S.used+(copyB B).n)∨er=(S.make c.wk draft 1 ⟨#[]⟩).1.2)))
theorem copy_any {w0 w:World} {c:Cp} {S L:BS} {r T:Nat} {M:List Res} {X:Nat→Prop} (h:Zs w0 w c S L r T M X) (hT:T≤700000) {y:Nat} (h1:1≤y) (h2:y≤200) (hky:(L.ino y).kind=1) (d:Int) (s:ByteArray) (hs:s.size≤9223372036854775807)
  (hv:S.vacant d s=0) (hne:d≠c.wk) :
  Calls Tryz.prog 122 #[Pq c.C,Nv (0,(y:Int)),.int .i64 d,.string s] w (CopyE w0 w c S L r (T+4100) M X d s (L.ino y).body):=by
 obtain ⟨w1,hw1⟩:∃ w1,((w.alloc (.cells #[Pq c.C] 80)).alloc (.cells #[.int .i64 0,.int .i64 (y:Int)] 24)).alloc (.cells #[.int .i64 0] 39)=w1:=⟨_,rfl⟩
 obtain ⟨g,hg⟩:∃ g,w.heap.size=g:=⟨_,rfl⟩
 have hb1:Below w.heap.size w w1:=by rw [← hw1];exact bel_step (bel_step (bel_alloc _ _) (bel_alloc _ _)) (bel_alloc _ _)
 have hz1:w1.heap.size=g+3:=by rw [← hw1,← hg,World.size_alloc,World.size_alloc,World.size_alloc]
 obtain ⟨Y,hY⟩:∃ Y:Nat→Prop,(fun b=>X b∨(g≤b∧b<g+3))=Y:=⟨_,rfl⟩
 have hYX:∀ b,X b→Y b:=fun b hb=>by rw [← hY];exact .inl hb
 have hYg:∀ b,g≤b→b<g+3→Y b:=fun b a d=>by rw [← hY];exact .inr ⟨a,d⟩
 have HX1:=Lib.hid (h.box (Y:=Y) hb1 (fun b hb=>by rw [← hY] at hb;exact hb.imp id fun e=>by omega) (hYX _ h.xC) (hYX _ h.xV))
 have HCV:=Lib.hid (And.intro h.xC h.xV)
 have HNX:=Lib.hid (show ∀ b,X b→b<g from fun b hb=>hg▸h.lt hb)
 have HLO:=Lib.hid (show w0.heap.size≤g by rw [← hg];exact h.bel.size)
 have HSX:=Lib.hid (same_below h hb1)
 have HFX:=Lib.hid (And.intro hYX (And.intro (hYg g (by omega) (by omega)) (And.intro (hYg (g+1) (by omega) (by omega)) (hYg (g+1+1) (by omega) (by omega)))))
 have HGC:=Lib.hid (show w1.cell? ⟨g,0,none⟩=some (Pq c.C) by
  rw [← hw1,← hg]
  have e1:=(bel_alloc ((w.alloc (.cells #[Pq c.C] 80)).alloc (.cells #[.int .i64 0,.int .i64 (y:Int)] 24)) (.cells #[.int .i64 0] 39)).cell (p:=⟨w.heap.size,0,none⟩) (by rw [World.size_alloc,World.size_alloc];show w.heap.size<_;omega)
  have e2:=(bel_alloc (w.alloc (.cells #[Pq c.C] 80)) (.cells #[.int .i64 0,.int .i64 (y:Int)] 24)).cell (p:=⟨w.heap.size,0,none⟩) (by rw [World.size_alloc];show w.heap.size<_;omega)
  rw [e1,e2];simp)
 have HGN:=Lib.hid (show Nb w1 (g+1) (0,(y:Int)) by
  rw [← hw1,← hg]
  have:=Nb.new (w.alloc (.cells #[Pq c.C] 80)) 0 (y:Int)
  rw [World.size_alloc] at this
  exact this.below (bel_alloc _ _))
 have HGE:=Lib.hid (show R1 w1 (g+1+1) 0 by
  rw [← hw1,← hg]
  have:=R1.new ((w.alloc (.cells #[Pq c.C] 80)).alloc (.cells #[.int .i64 0,.int .i64 (y:Int)] 24)) 0 39
  rwa [World.size_alloc,World.size_alloc] at this)
 have hgC:∀ k,k<3→g+k≠c.C∧g+k≠c.V:=fun k _=>⟨fun e=>by have:=HNX.out _ HCV.out.1;omega,fun e=>by have:=HNX.out _ HCV.out.2;omega⟩
 have HGV:=Lib.hid (show g+1+1≠c.C∧g+1+1≠c.V from hgC 2 (by omega))
 have HMK:=Lib.hid (HX1.out.drew.make (by omega:T≤800000) c.wk draft 1 ⟨#[]⟩ (by decide) (by decide))
 have HMO:=Lib.hid (fun (he:(S.make c.wk draft 1 ⟨#[]⟩).1.2=0)=>mk_of h.good1 he)
 have HMN:=Lib.hid (fun (he:(S.make c.wk draft 1 ⟨#[]⟩).1.2≠0)=>make_no he)
 have HGD:=Lib.hid h.good1
 have HSH:=Lib.hid (fun (W:World) (S':BS) (T':Nat) (hz:Zs w0 W c S' L r T' M Y) (hs:Same Y w1 W)=>show W.cell? ⟨g,0,none⟩=some (Pq c.C)∧W.cell? ⟨c.C,0,none⟩=some (Pq c.P1)∧W.cell? ⟨c.C,3,none⟩=some (.int .i64 c.wk) from ⟨(World.cell?_of_block (a:=⟨g,0,none⟩) (hs g HFX.out.2.1)).trans HGC.out,hz.x.c0,hz.x.c3⟩)
 have HSP:=Lib.hid (fun (W:World) (v:Value) (hs:W.cell? ⟨g,0,none⟩=some (Pq c.C)∧W.cell? ⟨c.C,0,none⟩=some (Pq c.P1)∧W.cell? ⟨c.C,3,none⟩=some (.int .i64 c.wk))=>show (W.setCell ⟨g+1+1,0,none⟩ v).cell? ⟨g,0,none⟩=some (Pq c.C)∧(W.setCell ⟨g+1+1,0,none⟩ v).cell? ⟨c.C,0,none⟩=some (Pq c.P1)∧(W.setCell ⟨g+1+1,0,none⟩ v).cell? ⟨c.C,3,none⟩=some (.int .i64 c.wk) from
  ⟨(World.cell?_of_block (a:=⟨g,0,none⟩) (heap_set (show g≠g+1+1 by omega))).trans hs.1,(World.cell?_of_block (a:=⟨c.C,0,none⟩) (heap_set (show c.C≠g+1+1 from fun e=>(hgC 2 (by omega)).1 e.symm))).trans hs.2.1,(World.cell?_of_block (a:=⟨c.C,3,none⟩) (heap_set (show c.C≠g+1+1 from fun e=>(hgC 2 (by omega)).1 e.symm))).trans hs.2.2⟩)
 have HE:=Lib.hid (show ∀ (W:World) (v er:Int) (S':BS) (T':Nat),T'≤T+4100→Zs w0 W c S' L r T' M Y→Same X w W→((er=0∧∃ D n:Nat,d=(D:Int)∧v=(n:Int)∧Mk S S' D n s (fileI (copyB (L.ino y).body)))∨(er≠0∧v=0∧S'=S∧((er=28∧r<S.used+(copyB (L.ino y).body).n)∨er=(S.make c.wk draft 1 ⟨#[]⟩).1.2)))→CopyE w0 w c S L r (T+4100) M X d s (L.ino y).body (.returned (.tuple #[.int .i64 v,.int .i64 er])) W from
  fun W v er S' T' hT' a b k=>⟨v,er,S',rfl,(a.sub hYX HCV.out.1 HCV.out.2).up hT',b,k⟩)
 unfold draft at HMK HMO HMN HE
 obtain ⟨mk,hmk⟩:∃ m,S.make c.wk ⟨#[99]⟩ 1 ⟨#[]⟩=m:=⟨_,rfl⟩
 rw [hmk] at HMK HMO HMN HE
 obtain ⟨⟨m1,m2⟩,S1⟩:=mk
 dsimp only at HMK HMO HMN HE
 have HTT:=Lib.hid hT
 have HSS:=Lib.hid hs
 have HVV:=Lib.hid (And.intro hv hne)
 have HYY:=Lib.hid (And.intro h1 (And.intro h2 hky))
 have hmf:∀ (fn:Fn) (first cap:Array Value) (W:World),(Instr.makeFunc fn first cap).run Tryz.prog W=.ok (.func fn first cap) W:=fun _ _ _ _=>rfl
 have S0:=HSH.out w1 S T HX1.out (fun _ _=>rfl)
 clear h hb1 hz1 hY hYX hYg hgC hmk hT hs hv hne h1 h2 hky
 obtain ⟨cC,hcC⟩:∃ x,x=c.C:=⟨_,rfl⟩
 rw [← hcC] at S0 HSH HSP hw1 ⊢
 have HCE:=Lib.hid hcC
 clear hcC
 go_enter_defers Tryz.func122,Tryz.ntmps122
 go_upto_region 1 with fail
 try rw [hw1]
 try rw [hg]
 clear hw1 hg
 go_region_held3 (fun W=>W.cell? ⟨g,0,none⟩=some (Pq cC)∧W.cell? ⟨cC,0,none⟩=some (Pq c.P1)∧W.cell? ⟨cC,3,none⟩=some (.int .i64 c.wk))
  (first|with_reducible exact S0|with_reducible exact S5|with_reducible exact ST|assumption|go_keep)
  (first
   | (go_at_call 33;((with_reducible refine HMK.out.mono ?_);rintro _ w5 ⟨rfl,hz5,hs5⟩;have HZ5:=Lib.hid hz5;have HS5:=Lib.hid (show Same Y w1 w5 from fun b hb=>hs5 b hb);have S5:=HSH.out w5 S1 (T+1) HZ5.out HS5.out;have HR5:=Lib.hid (HGE.out.same (HS5.out _ HFX.out.2.2.2));obtain ⟨t0,f0⟩:=HR5.out;have HZ6:=Lib.hid (HZ5.out.set HFX.out.2.2.2 (by have:=HLO.out;omega) HGV.out.1 HGV.out.2 0 (.int .i64 m2));have ST:=HSP.out w5 (.int .i64 m2) S5;clear hz5 hs5)))
 have HR6:=Lib.hid (HR5.out.put m2)
 have HS6:=Lib.hid (show Same Y w1 (w5.setCell ⟨g+1+1,0,none⟩ (.int .i64 m2))∨True from .inr trivial)
 have HSA:=Lib.hid (show Same X w (w5.setCell ⟨g+1+1,0,none⟩ (.int .i64 m2)) from same_trans (same_trans HSX.out fun b hb=>HS5.out b (HFX.out.1 b hb)) (same_set fun e=>by have:=HNX.out _ e;omega))
 have HN6:=Lib.hid (show Nb (w5.setCell ⟨g+1+1,0,none⟩ (.int .i64 m2)) (g+1) (0,(y:Int)) from (HGN.out.same (HS5.out _ HFX.out.2.2.1)).same (heap_set (show g+1≠g+1+1 by omega)))
 have HC6:=Lib.hid ST
 clear S0 S5 ST t0 f0 HS6 HR5 HZ5 HS5 HGC HSH HX1 HSX HGN HGE HMK
 generalize w5.setCell ⟨g+1+1,0,none⟩ (.int .i64 m2)=w6 at *
 obtain ⟨ge,hge⟩:∃ x,g+1+1=x:=⟨_,rfl⟩
 obtain ⟨gn,hgn⟩:∃ x,g+1=x:=⟨_,rfl⟩
 have HEG:=Lib.hid (show ge=g+2∧gn=g+1 by omega)
 rw [hge] at HR6 HFX HGV HSP ⊢
 rw [hgn] at HN6 HFX ⊢
 clear hge hgn
 obtain ⟨t0,f0⟩:=HR6.out
 by_cases he:m2=0
 case neg =>
  obtain ⟨rfl,rfl⟩:=HMN.out he
  have q0:(m2 != 0)=true:=by simpa using he
  have HE0:=Lib.hid he
  clear he
  go_wp2_with fail
  go_region
  go_wp2_with fail
  refine ⟨_,results_tmp_cell rfl _ _ ge (.int .i64 m2) rfl (load39 ((HR6.out.put m2).below (Below.refl _ _).drew)),?_⟩
  exact HE.out _ 0 m2 S1 (T+1) (by omega) (HZ6.out.set HFX.out.2.2.2 (by have:=HLO.out;have:=HEG.out;omega) HGV.out.1 HGV.out.2 0 (.int .i64 m2)).drew
   (same_trans (same_trans HSA.out (same_set fun e=>by have:=HNX.out _ e;have:=HEG.out;omega)) fun _ _=>rfl) (.inr ⟨HE0.out,rfl,rfl,.inr rfl⟩)
 subst he
 obtain ⟨W,n,hW,hn,hmk,-,-⟩:=HMO.out (by first|rfl|trivial)
 have hkn:(S1.ino n).kind=1:=by rw [hmk.eN];rfl
 have hbn:(S1.ino n).body=abE:=by rw [hmk.eN];rfl
 have HFL:=Lib.hid (fill_any HZ6.out hmk.n1 hmk.n2 hkn hbn HYY.out.1 HYY.out.2.1 HYY.out.2.2)
 unfold FillE at HFL
 have HWN:=Lib.hid hW
 have HMKK:=Lib.hid hmk
 rw [HCE.out.symm] at HFL
 subst hn
 obtain ⟨k0,-,-⟩:=HC6.out
 obtain ⟨n0,n1⟩:=HN6.out
 dsimp only at n0 n1
 clear hW hmk hkn hbn HMO HMN
 go_wp2_with fail
 refine HFL.out.mono ?_
 rintro _ w7 ⟨er,b,rfl,her,hz7,hs7⟩
 have HZ7:=Lib.hid hz7
 have HR7:=Lib.hid (HR6.out.same (hs7 _ HFX.out.2.2.2))
 have HS7:=Lib.hid (same_trans HSA.out fun b hb=>hs7 b (HFX.out.1 b hb))
 have HG7:=Lib.hid ((World.cell?_of_block (a:=⟨g,0,none⟩) (hs7 _ HFX.out.2.1)).trans k0)
 clear hz7 hs7 HFL HR6 HSA HC6 HN6 HZ6 t0 f0 k0 n0 n1
 rcases her with ⟨rfl,rfl⟩|⟨rfl,hbad⟩
 ·have HVN:=Lib.hid (named_of HGD.out HMKK.out (copyB (L.ino y).body) HVV.out.1 (by rw [← HWN.out];exact HVV.out.2))
  rw [← HWN.out] at HVN
  have HM:=Lib.hid (HZ7.out.drew.rename (by have:=HTT.out;omega:T+1+4098≤800000) c.wk ⟨#[99]⟩ d s HSS.out)
  have HS0:=Lib.hid (show w7.cell? ⟨g,0,none⟩=some (Pq cC)∧w7.cell? ⟨cC,0,none⟩=some (Pq c.P1)∧w7.cell? ⟨cC,3,none⟩=some (.int .i64 c.wk) from ⟨HG7.out,by rw [HCE.out];exact HZ7.out.x.c0,by rw [HCE.out];exact HZ7.out.x.c3⟩)
  have HSN:=Lib.hid (fun (W:World) (S':BS) (T':Nat) (hz:Zs w0 W c S' L r T' M Y) (hs:Same Y w7 W)=>show W.cell? ⟨g,0,none⟩=some (Pq cC)∧W.cell? ⟨cC,0,none⟩=some (Pq c.P1)∧W.cell? ⟨cC,3,none⟩=some (.int .i64 c.wk) from ⟨(World.cell?_of_block (a:=⟨g,0,none⟩) (hs g HFX.out.2.1)).trans HG7.out,by rw [HCE.out];exact hz.x.c0,by rw [HCE.out];exact hz.x.c3⟩)
  generalize (setB S1 n (copyB (L.ino y).body)).rename c.wk ⟨#[99]⟩ d s=rn at *
  obtain ⟨rc,S9⟩:=rn
  dsimp only at HVN HM
  obtain ⟨D,hD,rfl,hmk9⟩:=HVN.out
  have HK9:=Lib.hid (And.intro hD hmk9)
  have S0:=HS0.out
  clear hD hmk9 HVN
  go_wp2_with fail
  go_region_held3 (fun W=>W.cell? ⟨g,0,none⟩=some (Pq cC)∧W.cell? ⟨cC,0,none⟩=some (Pq c.P1)∧W.cell? ⟨cC,3,none⟩=some (.int .i64 c.wk))
   (first|with_reducible exact S0|with_reducible exact S5|assumption|go_keep)
   (first
    | (go_at_call 66;((with_reducible refine HM.out.mono ?_);rintro _ w8 ⟨rfl,hz8,hs8⟩;have HZ8:=Lib.hid hz8;have HS8:=Lib.hid (show Same Y w7 w8 from fun b hb=>hs8 b hb);have S5:=HSN.out w8 S9 _ HZ8.out HS8.out;clear hz8 hs8)))
  have HR8:=Lib.hid (HR7.out.same (HS8.out _ HFX.out.2.2.2))
  obtain ⟨t0,f0⟩:=HR8.out
  clear S0 S5 HM HZ7 HSN HS0
  go_wp2_with fail
  refine leaves_cons (f:=173) (args:=#[.pointer (some ⟨ge,0,none⟩),.pointer (some ⟨g,0,none⟩)]) (by simp) (by simp [go_sem]) ?_
  refine (undo_no ge g .returning _ (HR8.out.put 0).c0).mono ?_
  rintro e u' w'' ⟨rfl,rfl,rfl⟩
  refine ⟨_,results_tmp_cell rfl _ _ ge (.int .i64 0) rfl (load39 (HR8.out.put 0)),?_⟩
  exact HE.out _ n 0 S9 _ (by omega) (HZ8.out.set HFX.out.2.2.2 (by have:=HLO.out;have:=HEG.out;omega) HGV.out.1 HGV.out.2 0 (.int .i64 0))
   (same_trans (same_trans HS7.out fun b hb=>HS8.out b (HFX.out.1 b hb)) (same_set fun e=>by have:=HNX.out _ e;have:=HEG.out;omega)) (.inl ⟨rfl,D,n,HK9.out.1,rfl,HK9.out.2⟩)
 ·have HBA:=Lib.hid (show r<S.used+(copyB (L.ino y).body).n by have h1:=HMKK.out.us;have h2:(newI 1 c.wk ⟨#[]⟩).body.n=0:=br.abE_n;rw [h2] at h1;omega)
  clear hbad
  have HUS:=Lib.hid (undo_same HGD.out HMKK.out b)
  rw [← HWN.out] at HUS
  obtain ⟨t0,f0⟩:=HR7.out
  go_wp2_with fail
  refine leaves_cons (f:=173) (args:=#[.pointer (some ⟨ge,0,none⟩),.pointer (some ⟨g,0,none⟩)]) (by simp) (by simp [go_sem]) ?_
  refine (undo_yes (HZ7.out.set HFX.out.2.2.2 (by have:=HLO.out;have:=HEG.out;omega) HGV.out.1 HGV.out.2 0 (.int .i64 28)) (by have:=HTT.out;omega) ge g .returning (er:=28) (by decide) (HR7.out.put 28).c0 ((World.cell?_of_block (a:=⟨g,0,none⟩) (heap_set (show g≠ge by have:=HEG.out;omega))).trans (by rw [HG7.out,HCE.out])) HFX.out.2.1).mono ?_
  rintro e u' w'' ⟨rfl,rfl,hz9,hs9⟩
  rw [show (setB S1 n b).unlink c.wk draft=(0,S) from HUS.out] at hz9
  refine ⟨_,results_tmp_cell rfl _ _ ge (.int .i64 28) rfl (load39 ((HR7.out.put 28).same (hs9 _ HFX.out.2.2.2))),?_⟩
  exact HE.out _ 0 28 S _ (by omega) hz9
   (same_trans (same_trans HS7.out (same_set fun e=>by have:=HNX.out _ e;have:=HEG.out;omega)) fun b hb=>hs9 b (HFX.out.1 b hb)) (.inr ⟨by decide,rfl,rfl,.inl ⟨rfl,HBA.out⟩⟩)
theorem split_any {w:World} {b off m cap:Nat} {t:ByteArray} (hm:m≤1000) (hc:m+1≤cap) (h:w.cell? ⟨b,off+m,none⟩=some (.string t)) :
  Calls Tryz.prog 120 #[.slice (some ⟨b,off,none⟩) (m+1) cap] w (RetW w (.tuple #[.slice (some ⟨b,off,none⟩) m cap,.string t])):=by
 have h1:(0:Int)≤(m:Int):=by omega
 have h3:(m:Int)≤(cap:Int):=by omega
 obtain ⟨n,hn⟩:∃ n,m+1=n:=⟨_,rfl⟩
 rw [hn]
 have h2:(m:Int)<(n:Int):=by omega
 have h4:(n:Int) - 1=(m:Int):=by omega
 have h5:(n:Int)≤1001:=by omega
 clear hn hc
 unfold RetW
 go_enter Tryz.func120,Tryz.ntmps120
 go_wp2_with fail
 have S0:w.cell? ⟨b,off+m,none⟩=some (.string t):=h
 go_region_held3 (fun W=>W.cell? ⟨b,off+m,none⟩=some (.string t))
  (first|with_reducible exact S0|assumption|go_keep) (fail)
 go_wp2_with fail
 go_ret2
 exact ⟨rfl,(Below.refl _ _).drew⟩
def UpE (w0 w:World) (c:Cp) (S L:BS) (r T:Nat) (M:List Res) (X:Nat→Prop) (names:List ByteArray) (e:Ending) (w':World):Prop :=
 ∃ (v er:Int) (S':BS),e=.returned (.tuple #[.int .i64 v,.int .i64 er])∧Zs w0 w' c S' L r T M X∧Same X w w'∧UpR r S L c.u c.l c.wk names v er S'
theorem NL.last {w:World} {X:Nat→Prop} {A:Option Addr} {l:List ByteArray} (h:NL w X A l) (hl:l≠[]) :
  ∃ p t b off,l=p++[t]∧A=some ⟨b,off,none⟩∧X b∧w.cell? ⟨b,off+p.length,none⟩=some (.string t)∧t.size≤9223372036854775807∧NL w X A p:=by
 rcases List.eq_nil_or_concat l with e|⟨p,t,e⟩
 ·exact absurd e hl
 ·rw [List.concat_eq_append] at e
  subst e
  obtain ⟨b,off,e,hb,hc,hs⟩:=h p.length t (by simp)
  refine ⟨p,t,b,off,rfl,e,hb,hc,hs,fun j x hx=>h j x ?_⟩
  rw [List.getElem?_append_left (List.getElem?_eq_some_iff.1 hx).1];exact hx
end Go.Proofs.YtgoddboicjfkcaaGreat.cu
