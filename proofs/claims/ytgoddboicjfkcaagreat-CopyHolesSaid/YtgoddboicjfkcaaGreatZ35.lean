/- Part 35 of what is known of the program's functions and of the document's words: contracts, and the mathematics beneath them. -/
import Derived.Test.YtgoddboicjfkcaaGreatProg
import Derived.Test.YtgoddboicjfkcaaGreatZ34
import Derived.Test.YtgoddboicjfkcaaGreatZ02
import Derived.Test.YtgoddboicjfkcaaGreatZ22
import Derived.ProofKit
import Derived.ChangeSlices
import Derived.SliceStrings
import Derived.Deep.Slices
import Derived.Deep.Fields
import Derived.Lib.SmallJoins
import Derived.OpenShut
import Derived.ChangeSame
set_option linter.unusedVariables false
set_option linter.unusedSimpArgs false
set_option maxRecDepth 100000
set_option maxHeartbeats 8000000
namespace Go.Proofs.YtgoddboicjfkcaaGreat.cu
open Go.RowKit Go.Deep
open br (BS Ino Inv at_nat abE)
open cb (BrX RetW RetI No KB KD Res HB Stab NxR Same WrI Wz ReadI newI)
open bl (Pq Only U8 AB wr cut cutR)
open mg (Vx Nd Nv Nb R2 R3 bel_step bel_alloc kindV getV rootV set_below set2_below set3_below heap_set readN AllV statN targN)
theorem up_any {w0 w:World} {c:Cp} {S L:BS} {r T W:Nat} {M:List Res} {X:Nat→Prop} (h:Zs w0 w c S L r T M X) {A:Option Addr} {l:List ByteArray} {cap:Nat} (hl:NL w X A l) (hn:l.length≤1000) (hcap:l.length≤cap) (hT:T≤600000)
  (hu:S.kindOf c.u=2) (hul:(S.at c.u).links≠0) (ho:Out S W) (hw:c.wk=(W:Int)) (hu1:c.u≠1) (huw:c.u≠c.wk) :
  Calls Tryz.prog 50 #[Pq c.C,.slice A l.length cap] w (UpE w0 w c S L r (T+8000) M X l):=by
 by_cases hl0:l=[]
 ·subst hl0
  have HZ:=Lib.hid (h.up (by omega:T≤T+8000))
  go_enter Tryz.func50,Tryz.ntmps50
  go_wp2_with fail
  go_ret2
  exact ⟨0,22,S,rfl,HZ.out,fun _ _=>rfl,.inl ⟨rfl,rfl,rfl,rfl⟩⟩
 obtain ⟨p,t,b,off,rfl,rfl,hbX,hct,hts,hlp⟩:=hl.last hl0
 have HHL:=Lib.hid hl
 have hlen:(p++[t]).length=p.length+1:=by simp
 obtain ⟨m,hm⟩:∃ m,p.length=m:=⟨_,rfl⟩
 rw [hlen,hm] at hn hcap
 rw [hlen,hm]
 rw [hm] at hct
 have HSP:=Lib.hid (split_any (by omega:m≤1000) hcap hct)
 have HDE:=Lib.hid (fun W (hb:Below w.heap.size w W)=>by
  have h1:=descend_any (cap:=cap) (h.below hb) (hlp.below hb) (by rw [hm];omega) (by omega:T≤700000)
  rw [hm] at h1
  exact h1)
 unfold RetW at HSP
 unfold DescE at HDE
 have HLT:=Lib.hid (fun b (hb:X b)=>h.lt hb)
 have HRT:=Lib.hid (mg.R2.new)
 have HDO:=Lib.hid (fun he=>desc_out (W:=W) h.good2.1 p h.good1 (root_up (L:=L) (l:=c.l) hu) hu hul hu1 (by rw [← hw];exact huw) ho he)
 have HDK:=Lib.hid (fun he=>desc_ok (L:=L) p h.good1 (root_up (L:=L) (l:=c.l) hu) hu he)
 have HKD:=Lib.hid (fun he=>(desc_ok (L:=L) p h.good1 (root_up (L:=L) (l:=c.l) hu) hu he).2.2.2.1.kind ((desc_ok (L:=L) p h.good1 (root_up (L:=L) (l:=c.l) hu) hu he).2.2.1.dir _ (by rw [root_up hu];exact hu)))
 have HUR:=Lib.hid (show ∀ (d:Int) (a:Nd) (e1:Int) (S1:BS) (v er:Int) (S':BS),descF L S c.u (rootV S L c.u c.l) p=(((d,a),e1),S1)→_→UpR r S L c.u c.l c.wk (p++[t]) v er S' from
  fun d a e1 S1 v er S' e q=>.inr ⟨p,t,d,a,e1,S1,rfl,e,q⟩)
 obtain ⟨res,hres⟩:∃ x,descF L S c.u (rootV S L c.u c.l) p=x:=⟨_,rfl⟩
 rw [hres] at HDE HDO HDK HKD HUR
 obtain ⟨⟨⟨d,a1,a2⟩,e1⟩,S1⟩:=res
 dsimp only at HDE HDO HDK HKD
 have HE:=Lib.hid (show ∀ (W:World) (v er:Int) (S':BS) (T':Nat),T'≤T+8000→Zs w0 W c S' L r T' M X→Same X w W→UpR r S L c.u c.l c.wk (p++[t]) v er S'→UpE w0 w c S L r (T+8000) M X (p++[t]) (.returned (.tuple #[.int .i64 v,.int .i64 er])) W from
  fun W v er S' T' hT' a b k=>⟨v,er,S',rfl,a.up hT',b,k⟩)
 obtain ⟨PQ,hPQ⟩:∃ P,UpE w0 w c S L r (T+8000) M X (p++[t])=P:=⟨_,rfl⟩
 rw [hPQ] at HE ⊢
 have HTT:=Lib.hid (And.intro hT (And.intro hn hcap))
 have HWK:=Lib.hid hw
 have HLO:=Lib.hid h.bel.size
 have HPM:=Lib.hid (And.intro hm hlen)
 have HXX:=Lib.hid (And.intro h.xC h.xV)
 have hne:(((m+1:Nat):Int) == 0)=false:=by simp;omega
 have HTS:=Lib.hid hts
 clear h hl hlp hct hPQ hres hu hul ho hw hu1 huw hl0 hlen hT hcap hts hbX hm
 obtain ⟨cC,hcC⟩:∃ x,x=c.C:=⟨_,rfl⟩
 rw [← hcC] at HDE ⊢
 have HCE:=Lib.hid hcC
 clear hcC
 go_enter Tryz.func50,Tryz.ntmps50
 go_wp2_with fail
 refine HSP.out.mono ?_
 rintro _ w2 ⟨rfl,hb2⟩
 have HD2:=Lib.hid (HDE.out w2 hb2)
 have HS2:=Lib.hid (show Same X w w2 from fun b hb=>hb2.block b (HLT.out b hb))
 clear HDE HSP hb2
 go_wp2_with fail
 refine HD2.out.mono ?_
 rintro _ w3 ⟨rfl,hz3,hs3⟩
 have HZ3:=Lib.hid hz3
 have HS3:=Lib.hid (same_trans HS2.out hs3)
 clear hz3 hs3 HD2 HS2
 by_cases he1:e1=0
 case neg =>
  have HF:=Lib.hid (HE.out (w3.alloc (.cells #[.int .i64 a1,.int .i64 a2] 24)) 0 e1 S1 (T+m) (by have:=HTT.out;omega) (HZ3.out.below (bel_alloc _ _)) (same_trans HS3.out (same_below HZ3.out (bel_alloc _ _))) (HUR.out d (a1,a2) e1 S1 0 e1 S1 rfl (.inl ⟨he1,rfl,rfl,rfl⟩)))
  have q1:(e1 != 0)=true:=by simpa using he1
  clear he1
  go_wp2_with fail
  exact HF.out
 subst he1
 obtain ⟨hdl,hd1,hdw,hdo⟩:=HDO.out (by first|rfl|trivial)
 obtain ⟨hdg,hda,hdgr,hdch,hdu⟩:=HDK.out (by first|rfl|trivial)
 try dsimp only at hda
 have hkd:=HKD.out (by first|rfl|trivial)
 rw [hda] at hkd
 have HKE:=Lib.hid hkd
 clear hkd HKD
 have HDD:=Lib.hid (And.intro hdl (And.intro hd1 (And.intro hdw (And.intro hdo (And.intro hdg (And.intro hda (And.intro hdgr hdch)))))))
 clear hdl hd1 hdw hdo hdg hda hdgr hdch hdu HDO HDK
 obtain ⟨w4,hw4⟩:∃ w4,w3.alloc (.cells #[.int .i64 a1,.int .i64 a2] 24)=w4:=⟨_,rfl⟩
 obtain ⟨G,hG⟩:∃ G,w3.heap.size=G:=⟨_,rfl⟩
 have hb4:Below w3.heap.size w3 w4:=by rw [← hw4];exact bel_alloc _ _
 obtain ⟨Y,hY⟩:∃ Y:Nat→Prop,(fun b=>X b∨b=G)=Y:=⟨_,rfl⟩
 have hYX:∀ b,X b→Y b:=fun b hb=>by rw [← hY];exact .inl hb
 have hz4:w4.heap.size=G+1:=by rw [← hw4,← hG,World.size_alloc]
 have HZ4:=Lib.hid (HZ3.out.box (Y:=Y) hb4 (fun b hb=>by rw [← hY] at hb;exact hb.imp id fun e=>by omega) (hYX _ HXX.out.1) (hYX _ HXX.out.2))
 have HR4:=Lib.hid (show R2 w4 G a1 a2 by rw [← hw4,← hG];exact R2.new w3 a1 a2)
 have HS4:=Lib.hid (same_trans HS3.out (same_below HZ3.out hb4))
 have HYY:=Lib.hid (And.intro hYX (And.intro (show Y G by rw [← hY];exact .inr rfl) (And.intro (show ∀ b,X b→b<G from fun b hb=>by have:=HZ3.out.lt hb;omega) (show w0.heap.size≤G by have:=HZ3.out.bel.size;omega))))
 have HGT:=Lib.hid (mg.get_any HZ4.out.drew.vx (a1,a2) t)
 unfold RetW at HGT
 clear HZ3 HS3 hb4 hY hYX hz4
 go_upto_region 7 with fail
 try rw [hw4]
 try rw [hG]
 clear hw4 hG
 obtain ⟨gv,hgv⟩:∃ x,getV S1 L (a1,a2) t=x:=⟨_,rfl⟩
 rw [hgv] at HGT
 have HGV:=Lib.hid hgv
 clear hgv
 obtain ⟨⟨y1,y2⟩,ge⟩:=gv
 dsimp only at HGT
 have HGC:=Lib.hid (show G≠c.C∧G≠c.V from ⟨fun e=>by have:=HYY.out.2.2.1 _ HXX.out.1;omega,fun e=>by have:=HYY.out.2.2.1 _ HXX.out.2;omega⟩)
 go_cut [10] from 12 to 80 (fun va wx=>va=.int .i64 ge∧Hid (Zs w0 wx c S1 L r (T+m) M Y)∧Hid (R2 wx G y1 y2)∧Hid (Same X w wx))
 case first =>
  have S0:w4.cell? ⟨cC,1,none⟩=some (Pq c.V)∧w4.cell? ⟨G,0,none⟩=some (.int .i64 a1)∧w4.cell? ⟨G,1,none⟩=some (.int .i64 a2):=⟨by rw [HCE.out];exact HZ4.out.x.c1,HR4.out.c0,HR4.out.c1⟩
  refine rj.region_E (S:=fun W=>W.cell? ⟨cC,1,none⟩=some (Pq c.V)∧W.cell? ⟨G,0,none⟩=some (.int .i64 a1)∧W.cell? ⟨G,1,none⟩=some (.int .i64 a2)) (ex:=[8,9,10,11]) (by kernel_rfl) ?_
  simp only [List.size_toArray,List.length_cons,List.length_nil,Nat.zero_add,Nat.reduceAdd]
  rw [show Array.replicate 12 false=#[false,false,false,false,false,false,false,false,false,false,false,false] from rfl]
  refine rj.take_E (i:=0) (Pq cC) rfl (by kernel_rfl) (by kernel_rfl) (by kernel_rfl) (by kernel_rfl) (by kernel_rfl) (fun _ _ _ h=>h) (Or.inl ⟨by rfl,by intro w' hSw;(try dsimp only at hSw);go_simp⟩) S0 ?_
  simp only [Act.put,List.setIfInBounds_toArray,List.set_cons_zero,List.set_cons_succ]
  refine rj.take_E (i:=1) (.pointer (some ⟨cC,0,none⟩)) rfl (by kernel_rfl) (by kernel_rfl) (by kernel_rfl) (by kernel_rfl) (by kernel_rfl) (fun _ _ _ h=>h) (Or.inl ⟨by rfl,by intro w' hSw;(try dsimp only at hSw);go_simp⟩) S0 ?_
  simp only [Act.put,List.setIfInBounds_toArray,List.set_cons_zero,List.set_cons_succ]
  refine rj.take_E (i:=2) (.pointer (some ⟨cC,1,none⟩)) rfl (by kernel_rfl) (by kernel_rfl) (by kernel_rfl) (by kernel_rfl) (by kernel_rfl) (fun _ _ _ h=>h) (Or.inl ⟨by rfl,by intro w' hSw;(try dsimp only at hSw);go_simp⟩) S0 ?_
  simp only [Act.put,List.setIfInBounds_toArray,List.set_cons_zero,List.set_cons_succ]
  refine rj.take_E (i:=3) (Pq c.V) rfl (by kernel_rfl) (by kernel_rfl) (by kernel_rfl) (by kernel_rfl) (by kernel_rfl) (fun _ _ _ h=>h) (Or.inl ⟨by rfl,by intro w' hSw;(try dsimp only at hSw);go_simp⟩) S0 ?_
  simp only [Act.put,List.setIfInBounds_toArray,List.set_cons_zero,List.set_cons_succ]
  refine rj.take_E (i:=4) (.agg #[.int .i64 a1,.int .i64 a2]) rfl (by kernel_rfl) (by kernel_rfl) (by kernel_rfl) (by kernel_rfl) (by kernel_rfl) (fun _ _ _ h=>h) (Or.inl ⟨by rfl,by intro w' hSw;(try dsimp only at hSw);go_simp⟩) S0 ?_
  simp only [Act.put,List.setIfInBounds_toArray,List.set_cons_zero,List.set_cons_succ]
  refine rj.take_E (i:=5) (.string t) rfl (by kernel_rfl) (by kernel_rfl) (by kernel_rfl) (by kernel_rfl) (by kernel_rfl) (fun _ _ _ h=>h) (Or.inl ⟨by rfl,by intro w' hSw;(try dsimp only at hSw);go_simp⟩) S0 ?_
  simp only [Act.put,List.setIfInBounds_toArray,List.set_cons_zero,List.set_cons_succ]
  refine rj.step_E (i:=6) (by kernel_rfl) rfl fun K hK=>?_
  go_simp
  go_at_call 17
  with_reducible refine HGT.out.mono ?_
  rintro _ w5 ⟨rfl,hb5⟩
  have HB5:=Lib.hid (bel_step (Below.refl w4.heap.size w4).drew hb5)
  have HZ5:=Lib.hid (HZ4.out.below HB5.out)
  have HR5:=Lib.hid (HR4.out.below HB5.out)
  have HS5:=Lib.hid (same_trans HS4.out fun b hb=>HB5.out.block b (HZ4.out.lt (HYY.out.1 b hb)))
  have S5:w5.cell? ⟨cC,1,none⟩=some (Pq c.V)∧w5.cell? ⟨G,0,none⟩=some (.int .i64 a1)∧w5.cell? ⟨G,1,none⟩=some (.int .i64 a2):=⟨by rw [HCE.out];exact HZ5.out.x.c1,HR5.out.c0,HR5.out.c1⟩
  clear hb5 HGT HZ4 HR4 HS4 S0
  go_wp2_with fail
  refine hK.out _ _ (.inr S5) ?_
  clear hK K
  simp only [Act.put,List.setIfInBounds_toArray,List.set_cons_zero,List.set_cons_succ]
  refine rj.take_E (i:=7) (.tuple #[.agg #[.int .i64 y1,.int .i64 y2],.int .i64 ge]) rfl (by kernel_rfl) (by kernel_rfl) (by kernel_rfl) (by kernel_rfl) (by kernel_rfl) (fun _ _ _ h=>h) (Or.inl ⟨by rfl,by intro w' hSw;(try dsimp only at hSw);go_simp⟩) S5 ?_
  simp only [Act.put,List.setIfInBounds_toArray,List.set_cons_zero,List.set_cons_succ]
  have HBX:=Lib.hid (show Zs w0 ((w5.setCell ⟨G,0,none⟩ (.int .i64 y1)).setCell ⟨G,1,none⟩ (.int .i64 y2)) c S1 L r (T+m) M Y from HZ5.out.set2 HYY.out.2.1 HYY.out.2.2.2 HGC.out.1 HGC.out.2 _ _)
  have HRX:=Lib.hid (R2.put HR5.out y1 y2)
  have HSX:=Lib.hid (same_trans (same_trans HS5.out (same_set (g:=G) (i:=0) (a:=.int .i64 y1) fun e=>absurd (HYY.out.2.2.1 _ e) (Nat.lt_irrefl _))) (same_set (g:=G) (i:=1) (a:=.int .i64 y2) fun e=>absurd (HYY.out.2.2.1 _ e) (Nat.lt_irrefl _)))
  obtain ⟨t0,t1,f0,f1⟩:=HR5.out
  refine rj.two_E (i:=8) (j:=9) (by kernel_rfl) rfl rfl (fun K hK=>?_) (fun K hK=>?_)
  ·go_simp
   refine hK.out _ _ (.inl (by rfl)) ?_
   clear hK K
   simp only [Act.put,List.setIfInBounds_toArray,List.set_cons_zero,List.set_cons_succ]
   refine rj.two_E (i:=9) (j:=10) (by kernel_rfl) rfl rfl (fun K hK=>?_) (fun K hK=>?_)
   ·go_simp
    refine hK.out _ _ (.inl (by rfl)) ?_
    clear hK K
    simp only [Act.put,List.setIfInBounds_toArray,List.set_cons_zero,List.set_cons_succ]
    refine rj.step_E (i:=10) (by kernel_rfl) rfl fun K hK=>?_
    go_simp
    refine hK.out _ _ (.inl (by rfl)) ?_
    clear hK K
    simp only [Act.put,List.setIfInBounds_toArray,List.set_cons_zero,List.set_cons_succ]
    refine rj.step_E (i:=11) (by kernel_rfl) rfl fun K hK=>?_
    go_simp
    refine hK.out _ _ (.inl (by rfl)) ?_
    clear hK K
    simp only [Act.put,List.setIfInBounds_toArray,List.set_cons_zero,List.set_cons_succ]
    refine rj.done_E (by kernel_rfl) ?_
    go_wp2_with fail
    go_meet
    case rel=>exact ⟨rfl,HBX,HRX,HSX⟩
   ·go_simp
    refine hK.out _ _ (.inl (by rfl)) ?_
    clear hK K
    simp only [Act.put,List.setIfInBounds_toArray,List.set_cons_zero,List.set_cons_succ]
    refine rj.step_E (i:=9) (by kernel_rfl) rfl fun K hK=>?_
    go_simp
    refine hK.out _ _ (.inl (by rfl)) ?_
    clear hK K
    simp only [Act.put,List.setIfInBounds_toArray,List.set_cons_zero,List.set_cons_succ]
    refine rj.step_E (i:=11) (by kernel_rfl) rfl fun K hK=>?_
    go_simp
    refine hK.out _ _ (.inl (by rfl)) ?_
    clear hK K
    simp only [Act.put,List.setIfInBounds_toArray,List.set_cons_zero,List.set_cons_succ]
    refine rj.done_E (by kernel_rfl) ?_
    go_wp2_with fail
    go_meet
    case rel=>exact ⟨rfl,HBX,HRX,HSX⟩
  ·go_simp
   refine hK.out _ _ (.inl (by rfl)) ?_
   clear hK K
   simp only [Act.put,List.setIfInBounds_toArray,List.set_cons_zero,List.set_cons_succ]
   refine rj.step_E (i:=8) (by kernel_rfl) rfl fun K hK=>?_
   go_simp
   refine hK.out _ _ (.inl (by rfl)) ?_
   clear hK K
   simp only [Act.put,List.setIfInBounds_toArray,List.set_cons_zero,List.set_cons_succ]
   refine rj.step_E (i:=10) (by kernel_rfl) rfl fun K hK=>?_
   go_simp
   refine hK.out _ _ (.inl (by rfl)) ?_
   clear hK K
   simp only [Act.put,List.setIfInBounds_toArray,List.set_cons_zero,List.set_cons_succ]
   refine rj.step_E (i:=11) (by kernel_rfl) rfl fun K hK=>?_
   go_simp
   refine hK.out _ _ (.inl (by rfl)) ?_
   clear hK K
   simp only [Act.put,List.setIfInBounds_toArray,List.set_cons_zero,List.set_cons_succ]
   refine rj.done_E (by kernel_rfl) ?_
   go_wp2_with fail
   go_meet
   case rel=>exact ⟨rfl,HBX,HRX,HSX⟩
 case rest =>
  obtain ⟨rfl,HZ5,HR5,HS5⟩:=hcut
  obtain ⟨w5,rfl⟩:∃ x,x=wc:=⟨_,rfl⟩
  clear HGT HZ4 HR4 HS4
  by_cases hge:ge=0
  case neg =>
   have HF:=Lib.hid (HE.out w5 0 ge S1 (T+m) (by have:=HTT.out;omega) (HZ5.out.sub HYY.out.1 HXX.out.1 HXX.out.2) HS5.out (HUR.out d (a1,a2) 0 S1 0 ge S1 rfl (.inr (.inl ⟨rfl,by rw [HGV.out];exact hge,rfl,by rw [HGV.out],rfl⟩))))
   have qe:(ge != 0)=true:=by simpa using hge
   clear hge
   go_wp2_with fail
   exact HF.out
  subst hge
  have HK:=Lib.hid (mg.kind_any HZ5.out.drew.vx (y1,y2))
  unfold cb.RetI at HK
  obtain ⟨kv,hkv⟩:∃ k,kindV S1 L (y1,y2)=k:=⟨_,rfl⟩
  rw [hkv] at HK
  have HKV:=Lib.hid hkv
  clear hkv
  have HSH:=Lib.hid (fun (W:World) (hb:Below w5.heap.size w5 W)=>show W.cell? ⟨cC,1,none⟩=some (Pq c.V)∧W.cell? ⟨G,0,none⟩=some (.int .i64 y1)∧W.cell? ⟨G,1,none⟩=some (.int .i64 y2) from ⟨by rw [HCE.out];exact (HZ5.out.below hb).x.c1,(HR5.out.below hb).c0,(HR5.out.below hb).c1⟩)
  have S0:=HSH.out w5 (Below.refl _ _)
  go_wp2_with fail
  go_region_held3 (fun W=>W.cell? ⟨cC,1,none⟩=some (Pq c.V)∧W.cell? ⟨G,0,none⟩=some (.int .i64 y1)∧W.cell? ⟨G,1,none⟩=some (.int .i64 y2))
   (first|with_reducible exact S0|with_reducible exact S5|assumption|go_keep)
   (first
    | (go_at_call 19;((with_reducible refine HK.out.mono ?_);rintro _ w6 ⟨rfl,hb6⟩;have HB6:=Lib.hid (bel_step (Below.refl w5.heap.size w5).drew hb6);have S5:=HSH.out w6 HB6.out;clear hb6)))
  clear S0 S5
  have HZ6:=Lib.hid (HZ5.out.below HB6.out)
  have HS6:=Lib.hid (same_trans HS5.out fun b hb=>HB6.out.block b (HZ5.out.lt (HYY.out.1 b hb)))
  obtain ⟨t0,t1,f0,f1⟩:=HR5.out.below HB6.out
  have hGV0:(getV S1 L (a1,a2) t).2=0:=by rw [HGV.out]
  have hGV1:(getV S1 L (a1,a2) t).1=(y1,y2):=by rw [HGV.out]
  have HGQ:=Lib.hid (And.intro hGV0 hGV1)
  clear HZ5 HR5 HS5 HK HSH hGV0 hGV1
  by_cases hk2:kv=2
  ·subst hk2
   have HC:=Lib.hid (chain_any (cap:=cap) (HZ6.out.sub HYY.out.1 HXX.out.1 HXX.out.2) (HHL.out.same HS6.out) (by have:=HTT.out;have:=HPM.out;omega) (by have:=HTT.out;omega:T+m≤700000))
   rw [HPM.out.2,HPM.out.1] at HC
   unfold ChainE at HC
   have HUD:=Lib.hid (fun v x er S' (he:descF L S1 c.u (rootV S1 L c.u c.l) (p++[t])=(((v,x),er),S'))=>HUR.out d (a1,a2) 0 S1 v er S' rfl (.inr (.inr (.inl ⟨rfl,HGQ.out.1,by rw [HGQ.out.2];exact HKV.out,x,he⟩))))
   generalize descF L S1 c.u (rootV S1 L c.u c.l) (p++[t])=rs at *
   obtain ⟨⟨⟨v,x⟩,er⟩,S'⟩:=rs
   dsimp only at HC
   rw [← HCE.out] at HC
   go_wp2_with fail
   refine HC.out.mono ?_
   rintro _ w7 ⟨rfl,hz7,hs7⟩
   have HF:=Lib.hid (HE.out w7 v er S' _ (by have:=HTT.out;omega:T+m+(m+1)≤T+8000) hz7 (same_trans HS6.out hs7) (HUD.out v x er S' rfl))
   clear hz7 hs7
   go_wp2_with fail
   exact HF.out
  have q2:(kv == 2)=false:=by simpa using hk2
  by_cases hy1:y1=0
  case neg =>
   have HF:=Lib.hid (HE.out w6 y1 0 S1 (T+m) (by have:=HTT.out;omega) (HZ6.out.sub HYY.out.1 HXX.out.1 HXX.out.2) HS6.out (HUR.out d (a1,a2) 0 S1 y1 0 S1 rfl (.inr (.inr (.inr (.inl ⟨rfl,HGQ.out.1,by rw [HGQ.out.2,HKV.out];exact hk2,by rw [HGQ.out.2];exact hy1,by rw [HGQ.out.2],rfl,rfl⟩))))))
   have qy:(y1 != 0)=true:=by simpa using hy1
   clear hk2 hy1
   go_wp2_with fail
   exact HF.out
  subst hy1
  obtain ⟨Yn,rfl,yl,yu,yk,yv⟩:=low_seen HDD.out.2.2.2.2.1 HZ6.out.good2 HDD.out.2.2.2.2.2.1 HKE.out HDD.out.1 HGV.out
  rw [HKV.out] at yk
  have HYN:=Lib.hid (And.intro yl (And.intro yu (And.intro yk yv)))
  have hkk:kv=3∨kv=1:=by
   have h1:=HZ6.out.good2.1.kinds Yn
   rw [yk] at h1
   have h0:=got_kind HDD.out.2.2.2.2.1.1 HZ6.out.good2.1 HGV.out
   have h4:kv≠4:=fun e=>by
    have hkv:=HKV.out
    rw [kindV_low] at hkv
    split at hkv <;> omega
   rw [HKV.out] at h0
   omega
  have HZX:=Lib.hid (HZ6.out.sub HYY.out.1 HXX.out.1 HXX.out.2)
  clear yl yu yk yv hk2
  rcases hkk with rfl|rfl
  ·have HM:=Lib.hid (link_any HZX.out (by have:=HTT.out;omega:T+m≤800000) HYN.out.1 HYN.out.2.1 HYN.out.2.2.1 d t HTS.out)
   unfold ChainE at HM
   have HUD:=Lib.hid (fun v er S' (he:S1.make d t 3 (L.ino Yn).target=((v,er),S'))=>HUR.out d (a1,a2) 0 S1 v er S' rfl (.inr (.inr (.inr (.inr (.inl ⟨Yn,rfl,HGV.out,HYN.out.1,HYN.out.2.1,HYN.out.2.2.1,HYN.out.2.2.2,he⟩))))))
   generalize S1.make d t 3 (L.ino Yn).target=mk at *
   obtain ⟨⟨v,er⟩,S'⟩:=mk
   dsimp only at HM
   rw [← HCE.out] at HM
   go_wp2_with fail
   refine HM.out.mono ?_
   rintro _ w7 ⟨rfl,hz7,hs7⟩
   have HF:=Lib.hid (HE.out w7 v er S' _ (by have:=HTT.out;omega:T+m+1≤T+8000) hz7 (same_trans HS6.out hs7) (HUD.out v er S' rfl))
   clear hz7 hs7
   go_wp2_with fail
   exact HF.out
  ·have HM:=Lib.hid (copy_any HZX.out (by have:=HTT.out;omega:T+m≤700000) HYN.out.1 HYN.out.2.1 HYN.out.2.2.1 d t HTS.out HYN.out.2.2.2 (by rw [HWK.out];exact HDD.out.2.2.1))
   unfold CopyE at HM
   rw [← HCE.out] at HM
   go_wp2_with fail
   refine HM.out.mono ?_
   rintro _ w7 ⟨v,er,S',rfl,hz7,hs7,hc7⟩
   have HF:=Lib.hid (HE.out w7 v er S' _ (by have:=HTT.out;omega:T+m+4100≤T+8000) hz7 (same_trans HS6.out hs7) (HUR.out d (a1,a2) 0 S1 v er S' rfl (.inr (.inr (.inr (.inr (.inr ⟨Yn,rfl,HGV.out,HYN.out.1,HYN.out.2.1,HYN.out.2.2.1,HYN.out.2.2.2,hc7⟩)))))))
   clear hz7 hs7 hc7
   go_wp2_with fail
   exact HF.out
end Go.Proofs.YtgoddboicjfkcaaGreat.cu
namespace Go.Proofs.YtgoddboicjfkcaaGreat.cu
open Go.RowKit Go.Deep
open dn (nerr dotB)
open br (BS Ino Inv at_nat abE nameE)
open cb (BrX RetW RetI No KB KD Res HB Stab NxR Same WrI Wz ReadI newI)
open bl (Pq Only U8 AB wr cut cutR)
open mg (Vx Nd Nv Nb R2 R3 bel_step bel_alloc kindV getV rootV set_below set2_below set3_below heap_set readN AllV statN targN)
def HideR (S L:BS) (u l:Int) (names:List ByteArray) (er:Int) (S':BS):Prop :=
 (names=[]∧er=22∧S'=S)∨∃ (p:List ByteArray) (t:ByteArray),names=p++[t] ∧
  ((nameE t≠0∧er=22∧S'=S)∨(nameE t=0∧∃ (d:Int) (a:Nd) (e1:Int) (S1:BS),descF L S u (rootV S L u l) p=(((d,a),e1),S1) ∧
   ((e1≠0∧er=e1∧S'=S1) ∨
    (e1=0∧(S1.get d t).2=0∧er=17∧S'=S1) ∨
    (e1=0∧(S1.get d t).2≠0∧(getV S1 L a t).2≠0∧er=0∧S'=S1) ∨
    (e1=0∧(S1.get d t).2≠0∧(getV S1 L a t).2=0∧er=(S1.make d t 4 ⟨#[]⟩).1.2∧S'=(S1.make d t 4 ⟨#[]⟩).2))))
def HideE (w0 w:World) (c:Cp) (S L:BS) (r T:Nat) (M:List Res) (X:Nat→Prop) (names:List ByteArray) (e:Ending) (w':World):Prop :=
 ∃ (er:Int) (S':BS),e=.returned (.int .i64 er)∧Zs w0 w' c S' L r T M X∧Same X w w'∧HideR S L c.u c.l names er S'
theorem hide_any {w0 w:World} {c:Cp} {S L:BS} {r T:Nat} {M:List Res} {X:Nat→Prop} (h:Zs w0 w c S L r T M X) {A:Option Addr} {l:List ByteArray} {cap:Nat} (hl:NL w X A l) (hn:l.length≤1000) (hcap:l.length≤cap) (hT:T≤600000) :
  Calls Tryz.prog 62 #[Pq c.C,.slice A l.length cap] w (HideE w0 w c S L r (T+2000) M X l):=by
 by_cases hl0:l=[]
 ·subst hl0
  have HZ:=Lib.hid (h.up (by omega:T≤T+2000))
  go_enter Tryz.func62,Tryz.ntmps62
  go_wp2_with fail
  go_ret
  exact ⟨22,S,rfl,HZ.out,fun _ _=>rfl,.inl ⟨rfl,rfl,rfl⟩⟩
 obtain ⟨p,t,b,off,rfl,rfl,hbX,hct,hts,hlp⟩:=hl.last hl0
 have HHL:=Lib.hid hl
 have hlen:(p++[t]).length=p.length+1:=by simp
 obtain ⟨m,hm⟩:∃ m,p.length=m:=⟨_,rfl⟩
 rw [hlen,hm] at hn hcap
 rw [hlen,hm]
 rw [hm] at hct
 have HSP:=Lib.hid (split_any (by omega:m≤1000) hcap hct)
 have HNM:=Lib.hid (fun W=>dn.name_any t W hts)
 unfold dn.NameE at HNM
 have HDE:=Lib.hid (fun W (hb:Below w.heap.size w W)=>by
  have h1:=descend_any (cap:=cap) (h.below hb) (hlp.below hb) (by rw [hm];omega) (by omega:T≤700000)
  rw [hm] at h1
  exact h1)
 unfold RetW at HSP
 unfold DescE at HDE
 have HH:=Lib.hid h
 have HLT:=Lib.hid (fun b (hb:X b)=>h.lt hb)
 obtain ⟨res,hres⟩:∃ x,descF L S c.u (rootV S L c.u c.l) p=x:=⟨_,rfl⟩
 rw [hres] at HDE
 obtain ⟨⟨⟨d,a1,a2⟩,e1⟩,S1⟩:=res
 dsimp only at HDE
 have HUR:=Lib.hid (show nameE t=0→∀ (er:Int) (S':BS),_→HideR S L c.u c.l (p++[t]) er S' from
  fun hk er S' q=>.inr ⟨p,t,rfl,.inr ⟨hk,d,(a1,a2),e1,S1,hres,q⟩⟩)
 have HUB:=Lib.hid (show nameE t≠0→HideR S L c.u c.l (p++[t]) 22 S from fun hk=>.inr ⟨p,t,rfl,.inl ⟨hk,rfl,rfl⟩⟩)
 have HE:=Lib.hid (show ∀ (W:World) (er:Int) (S':BS) (T':Nat),T'≤T+2000→Zs w0 W c S' L r T' M X→Same X w W→HideR S L c.u c.l (p++[t]) er S'→HideE w0 w c S L r (T+2000) M X (p++[t]) (.returned (.int .i64 er)) W from
  fun W er S' T' hT' a b k=>⟨er,S',rfl,a.up hT',b,k⟩)
 obtain ⟨PQ,hPQ⟩:∃ P,HideE w0 w c S L r (T+2000) M X (p++[t])=P:=⟨_,rfl⟩
 rw [hPQ] at HE ⊢
 have HTT:=Lib.hid (And.intro hT (And.intro hn hcap))
 have HPM:=Lib.hid (And.intro hm hlen)
 have hne:(((m+1:Nat):Int) == 0)=false:=by simp;omega
 have HTS:=Lib.hid hts
 have HNV:Hid (nameE t=if nerr t.data.toList=0∧dotB t=true then 22 else nerr t.data.toList):=Lib.hid rfl
 clear h hl hlp hct hPQ hres hl0 hlen hT hcap hts hbX hm
 obtain ⟨cC,hcC⟩:∃ x,x=c.C:=⟨_,rfl⟩
 rw [← hcC] at HDE ⊢
 have HCE:=Lib.hid hcC
 clear hcC
 go_enter Tryz.func62,Tryz.ntmps62
 go_wp2_with fail
 refine HSP.out.mono ?_
 rintro _ w2 ⟨rfl,hb2⟩
 have HB2:=Lib.hid hb2
 clear hb2 HSP
 go_wp2_with fail
 refine (HNM.out w2).mono ?_
 rintro _ w3 ⟨rfl,hb3⟩
 have HB3:=Lib.hid (bel_step HB2.out hb3)
 clear hb3 HNM HB2
 obtain ⟨q1,h1⟩:∃ a,(t.toList == [46])=a:=⟨_,rfl⟩
 obtain ⟨q2,h2⟩:∃ a,(t.toList == [46,46])=a:=⟨_,rfl⟩
 have HDT:=Lib.hid (show dotB t=(q1 || q2) by unfold dotB;rw [h1,h2])
 obtain ⟨nr,hnr⟩:∃ x,nerr t.data.toList=x:=⟨_,rfl⟩
 rw [hnr] at HNV ⊢
 clear hnr
 by_cases hbad:nr≠0∨q1=true∨q2=true
 ·have hne0:nameE t≠0:=by
   rw [HNV.out,HDT.out]
   by_cases h0:nr=0
   ·rw [if_pos ⟨h0,by cases q1 <;> cases q2 <;> simp_all⟩];decide
   ·rw [if_neg (fun e=>h0 e.1)];exact h0
  have HF:=Lib.hid (fun (k:Nat)=>HE.out (w3.drewN k) 22 S T (by omega) ((HH.out.below HB3.out).below (mg.bel_drewN w3 k)) ((same_below HH.out (bel_step HB3.out (mg.bel_drewN w3 k)))) (HUB.out hne0))
  have HF0:=Lib.hid (HF.out 0)
  clear hne0
  by_cases h0:nr=0
  ·subst h0
   cases q1 with
   | true =>
    clear hbad
    go_wp2_with fail
    exact HF0.out
   | false =>
    have:q2=true:=by simpa using hbad
    subst this
    clear hbad
    go_wp2_with fail
    exact HF0.out
  ·have hq:(nr != 0)=true:=by simpa using h0
   clear hbad h0
   go_wp2_with fail
   exact HF0.out
 have h0:nr=0:=Classical.byContradiction fun e=>hbad (.inl e)
 have hq1:q1=false:=by simpa using fun e=>hbad (.inr (.inl e))
 have hq2:q2=false:=by simpa using fun e=>hbad (.inr (.inr e))
 subst h0 hq1 hq2
 have HN0:=Lib.hid (show nameE t=0 by rw [HNV.out,HDT.out];simp)
 clear hbad HNV HDT HUB
 go_wp2_with fail
 refine (HDE.out w3 HB3.out).mono ?_
 rintro _ w4 ⟨rfl,hz4,hs4⟩
 have HZ4:=Lib.hid hz4
 have HS4:=Lib.hid (same_trans (same_below HH.out HB3.out) hs4)
 clear hz4 hs4 HDE HB3 HH h1 h2
 by_cases he1:e1=0
 case neg =>
  have HF:=Lib.hid (HE.out (w4.alloc (.cells #[.int .i64 a1,.int .i64 a2] 24)) e1 S1 (T+m) (by have:=HTT.out;omega) (HZ4.out.below (bel_alloc _ _)) (same_trans HS4.out (same_below HZ4.out (bel_alloc _ _))) (HUR.out HN0.out e1 S1 (.inl ⟨he1,rfl,rfl⟩)))
  have qe:(e1 != 0)=true:=by simpa using he1
  clear he1
  go_wp2_with fail
  exact HF.out
 subst he1
 obtain ⟨w5,hw5⟩:∃ w5,w4.alloc (.cells #[.int .i64 a1,.int .i64 a2] 24)=w5:=⟨_,rfl⟩
 obtain ⟨G,hG⟩:∃ G,w4.heap.size=G:=⟨_,rfl⟩
 have hb5:Below w4.heap.size w4 w5:=by rw [← hw5];exact bel_alloc _ _
 have HZ5:=Lib.hid (HZ4.out.below hb5)
 have HR5:=Lib.hid (show R2 w5 G a1 a2 by rw [← hw5,← hG];exact R2.new w4 a1 a2)
 have HS5:=Lib.hid (same_trans HS4.out (same_below HZ4.out hb5))
 have HGU:=Lib.hid (cb.x_get HZ5.out.brx1 d t)
 unfold RetW at HGU
 have k0:w5.cell? ⟨cC,0,none⟩=some (Pq c.P1):=by rw [HCE.out];exact HZ5.out.x.c0
 clear hb5 HZ4 HS4
 go_upto_region 9 with fail
 try rw [hw5]
 try rw [hG]
 clear hw5 hG
 go_wp2_with fail
 refine HGU.out.mono ?_
 rintro _ w6 ⟨rfl,hb6⟩
 have HZ6:=Lib.hid (HZ5.out.below hb6)
 have HR6:=Lib.hid (HR5.out.below hb6)
 have HS6:=Lib.hid (same_trans HS5.out (same_below HZ5.out hb6))
 clear hb6 HZ5 HR5 HS5 HGU k0
 obtain ⟨gu,hgu⟩:∃ x,S1.get d t=x:=⟨_,rfl⟩
 rw [hgu] at HUR ⊢
 clear hgu
 obtain ⟨g1,g2⟩:=gu
 dsimp only at HUR ⊢
 by_cases hg2:g2=0
 ·subst hg2
  have HF:=Lib.hid (HE.out w6 17 S1 (T+m) (by have:=HTT.out;omega) HZ6.out HS6.out (HUR.out HN0.out 17 S1 (by refine .inr (.inl ?_);simp)))
  go_wp2_with fail
  exact HF.out
 have qg:(g2 == 0)=false:=by simpa using hg2
 have HG2:=Lib.hid hg2
 clear hg2
 have HCV:=Lib.hid (And.intro HZ6.out.xC HZ6.out.xV)
 have HRD:=Lib.hid (fun W (hb:Below w6.heap.size w6 W)=>show Rd W c G a1 a2 from ⟨(HZ6.out.below hb).x.c1,(HR6.out.below hb).c0,(HR6.out.below hb).c1⟩)
 have HGET:=Lib.hid (fun W (hb:Below w6.heap.size w6 W)=>mg.get_any (HZ6.out.below hb).vx (a1,a2) t)
 unfold RetW at HGET
 obtain ⟨gv,hgv⟩:∃ r,getV S1 L (a1,a2) t=r:=⟨_,rfl⟩
 rw [hgv] at HGET HUR
 clear hgv
 obtain ⟨⟨x1,x2⟩,ge⟩:=gv
 dsimp only at HGET HUR
 have hce:=HCE.out
 subst hce
 go_upto_region 12 with fail
 go_cut [12,13] from 14 to 77 (fun va vb wx=>∃ G2,va=.pointer (some ⟨G2,0,none⟩)∧vb=.int .i64 ge∧Hid (Below w6.heap.size w6 wx))
 case first =>
  have S0:=HRD.out w6 (Below.refl _ _)
  have HAB:=Lib.hid (bel_alloc w6 (.cells #[.int .i64 0,.int .i64 0] 24))
  have HAD:=Lib.hid (bel_step HAB.out (Below.refl _ (w6.alloc (.cells #[.int .i64 0,.int .i64 0] 24))).drew)
  have SA:=HRD.out _ HAB.out
  have HGd:=Lib.hid (HGET.out w6.drew (Below.refl w6.heap.size w6).drew)
  have HGA:=Lib.hid (HGET.out (w6.alloc (.cells #[.int .i64 0,.int .i64 0] 24)).drew HAD.out)
  have HZA:=Lib.hid (show R2 (w6.alloc (.cells #[.int .i64 0,.int .i64 0] 24)).drew w6.heap.size 0 0 from (R2.new w6 0 0).below (Below.refl _ _).drew)
  clear HZ6 HR6 HGET
  go_region_held3 (fun W=>W.cell? ⟨c.C,1,none⟩=some (Pq c.V)∧W.cell? ⟨G,0,none⟩=some (.int .i64 a1)∧W.cell? ⟨G,1,none⟩=some (.int .i64 a2))
   (first|with_reducible exact S0|with_reducible exact S5|with_reducible exact SA|with_reducible exact ST|assumption|go_keep)
   (first
    | (go_at_call 17;((with_reducible refine HGd.out.mono ?_);rintro _ w7 ⟨rfl,hb7⟩;have HB7:=Lib.hid (bel_step (Below.refl w6.heap.size w6).drew hb7);have S5:=HRD.out w7 HB7.out;have HF5:=Lib.hid (show Below w6.heap.size w6 (w7.alloc (.cells #[.int .i64 x1,.int .i64 x2] 24)) from bel_step HB7.out (bel_alloc _ _));clear hb7))
    | (go_at_call 17;((with_reducible refine HGA.out.mono ?_);rintro _ w7 ⟨rfl,hb7⟩;have HB7:=Lib.hid (bel_step HAD.out hb7);have S5:=HRD.out w7 HB7.out;have HZ7:=Lib.hid (HZA.out.below hb7);obtain ⟨z0,z1,f0,f1⟩:=HZ7.out;have HBT:=Lib.hid (show Below w6.heap.size w6 ((w7.setCell ⟨w6.heap.size,0,none⟩ (.int .i64 x1)).setCell ⟨w6.heap.size,1,none⟩ (.int .i64 x2)) from set2_below HB7.out (Nat.le_refl _) _ _);have ST:=HRD.out _ HBT.out;clear hb7)))
  all_goals
   go_wp2_with fail
   go_meet
   case rel=>first|exact ⟨_,rfl,rfl,HBT⟩|exact ⟨_,rfl,rfl,HF5⟩
 case rest =>
  obtain ⟨G2,rfl,rfl,HBX⟩:=hcut
  obtain ⟨wx,rfl⟩:∃ x,x=wc:=⟨_,rfl⟩
  have HZX:=Lib.hid (HZ6.out.below HBX.out)
  have HSX:=Lib.hid (same_trans HS6.out (same_below HZ6.out HBX.out))
  clear HGET HRD HZ6 HR6 HS6 HBX
  by_cases hge:ge=0
  case neg =>
   have HF:=Lib.hid (HE.out wx 0 S1 (T+m) (by have:=HTT.out;omega) HZX.out HSX.out (HUR.out HN0.out 0 S1 (by refine .inr (.inr (.inl ?_));have:=HG2.out;simp [this,hge])))
   have qe:(ge != 0)=true:=by simpa using hge
   clear hge
   go_wp2_with fail
   exact HF.out
  subst hge
  have HMK:=Lib.hid (HZX.out.make (by have:=HTT.out;omega) d t 4 ⟨#[]⟩ HTS.out (by decide))
  obtain ⟨mk,hmk⟩:∃ z,S1.make d t 4 ⟨#[]⟩=z:=⟨_,rfl⟩
  rw [hmk] at HMK HUR
  clear hmk
  obtain ⟨⟨n1,n2⟩,S2⟩:=mk
  dsimp only at HMK HUR
  have k0:wx.cell? ⟨c.C,0,none⟩=some (Pq c.P1):=HZX.out.x.c0
  go_wp2_with fail
  refine HMK.out.mono ?_
  rintro _ w8 ⟨rfl,hz8,hs8⟩
  have HF:=Lib.hid (HE.out w8 n2 S2 (T+m+1) (by have:=HTT.out;omega) hz8 (same_trans HSX.out hs8) (HUR.out HN0.out n2 S2 (by refine .inr (.inr (.inr ?_));have:=HG2.out;simp [this])))
  clear hz8 hs8 k0
  go_wp2_with fail
  exact HF.out
end Go.Proofs.YtgoddboicjfkcaaGreat.cu
namespace Go.Proofs.YtgoddboicjfkcaaGreat.cb
open Go.ChangeShapes Go.WideShapes Go.ChangeAt Go.RowKit
section
open Go.Deep
variable {H:Type} {enc:TypeId×Value→H} {P:Program} {w:World} {base:Nat} {spare:Nat→Bool} {held:Bool}
end
structure Act7 where
 low:Bool
 kind:Int
 d:Int
 t:Int
 n:Int
 a:ByteArray
 b:ByteArray
instance:Inhabited Act7:=⟨⟨false,0,0,0,0,⟨#[]⟩,⟨#[]⟩⟩⟩
theorem law_post {H:Type} {enc:TypeId×Value→H} {P:Program} {f:Func} {s:ChangeSpec} {apart fresh handsOn:Bool} {W W':World} {args:Array Value} {v:Value} {ds gs:List (DataW H)} {before pa pv:List MemPlace}
  (hW:DataW.Whole enc P f.params.toList s.vars apart W args.toList ds gs before)
  (hres:∀ (b:Nat) (sp:Nat→Bool) (hd:Bool),DataW.TrodAll enc P W' b sp hd f.resultTypes.toList (v.resultList f.resultTypes.size) (s.fn H (ds++gs)).results [])
  (hargs:∀ sp:Nat→Bool,(∀ p∈before,sp p.block=true)→DataW.TrodAll enc P W' 0 sp true f.params.toList args.toList (s.fn H (ds++gs)).args pa)
  (hvars:∀ sp:Nat→Bool,(∀ p∈before,sp p.block=true)→DataW.TrodVars enc P W' sp s.vars (s.fn H (ds++gs)).vars pv)
  (hps:before=pa++pv) (hb:Below W.heap.size W W')
  (_hok:∀ (j:Nat) (t:TypeId) (r:Value),f.resultTypes[j]?=some t→(v.resultList f.resultTypes.size)[j]?=some r→Value.okWide P W' .any 0 t r) :
  s.post enc P f apart fresh handsOn false W args v W':=by
 have hlt:∀ p∈before,p.block<W.heap.size:=fun p hp=>hW.lt p hp
 have hold:∀ p∈before,(fun b=>decide (b<W.heap.size)) p.block=true:=fun p hp=>by simpa using hlt p hp
 refine ⟨ds,gs,before,[],pa,pv,hW,hres _ _ _,hargs _ hold,hvars _ hold,World.keptBut_mono (fun p hp=>⟨hp,?_⟩) (hb.frame (·∈before)),fun h=>by cases h⟩
 rw [hps,List.mem_append] at hp
 exact Or.inr hp
end Go.Proofs.YtgoddboicjfkcaaGreat.cb
