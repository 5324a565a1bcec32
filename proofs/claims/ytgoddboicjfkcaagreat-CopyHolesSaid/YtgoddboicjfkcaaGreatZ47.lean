/- Part 47 of what is known of the program's functions and of the document's words: contracts, and the mathematics beneath them. -/
import Derived.Test.YtgoddboicjfkcaaGreatProg
import Derived.Test.YtgoddboicjfkcaaGreatZ36
import Derived.Test.YtgoddboicjfkcaaGreatZ46
import Derived.Test.YtgoddboicjfkcaaGreatZ38
import Derived.Test.YtgoddboicjfkcaaGreatZ39
import Derived.Test.YtgoddboicjfkcaaGreatZ40
import Derived.Maps.AppendAt
import Derived.Deep.LoopGhost
import Derived.Deep.AppendLies
import Derived.Lib.ConvBytes
import Derived.Laws.Concat
set_option linter.unusedVariables false
set_option linter.unusedSimpArgs false
set_option maxRecDepth 100000
set_option maxHeartbeats 8000000
namespace Go.Proofs.YtgoddboicjfkcaaGreat.fl
open Go.RowKit
open dn (En lget lset ldel nerr dotB Sorted lessB)
open br (BS Ino Inv Tree sumF)
open cb (BrX RetW RetI No)
open bl (Pq)
open mg (Nd Nv Vx Nb opq kindV lstV belV seenV pairV getV rootV AllV NR QB readN targN ReadN AllE bel_step bel_alloc grown_bel grown_set set_below set_size heap_set Vd Rv R4 R4.lo Nb.lo rkind_any rget_any rall_any rread_any rtarget_any rd_doc rdN RdE)
theorem linesV_leaf {U L:BS} {n:Nd} (h:kindV U L n≠2):∀ (d:Nat) (at_:ByteArray),linesV U L d n at_=[]
 | 0,_=>rfl
 | d+1,at_=>by
  have hl:lstV U L n≠0:=by unfold lstV;by_cases e:kindV U L n=0;rw [if_pos e];decide;rw [if_neg e,if_neg h];decide
  rw [linesV_succ (AllV.none hl)];rfl
theorem contV_rd {U L:BS} {n:Nd} (h:kindV U L n=1):contV U L n=(rdN U L n 0 65536).2:=by
 unfold contV rdN
 rw [if_pos h,if_neg (by rw [h];decide)]
theorem app_lo {w:World} {base lo c:Nat} {v:Value} {A:Option Addr} {X Y:List Ln} (hown:LO w base v X) (h:LO w lo (.slice A Y.length c) Y) (hN:X.length+Y.length≤8000000) (hb:base≤w.heap.size) :
  ∃ v' w',(Builtin.append_ #[70,70] 70 #[v,.slice A Y.length c]).run Tryz.prog w=.ok v' w'∧LO w' base v' (X++Y)∧w.grownBy w' v.ownBlock∧(v'.ownBlock=v.ownBlock∨v'.ownBlock=some w.heap.size):=by
 obtain ⟨i0,hi,hz0,hz1,hz2⟩:=info_parts79
 rcases h.2 with ⟨h0,h1⟩|⟨g,cap,cur,hv,_⟩
 ·injection h0 with a1 a2 a3
  subst a1
  have hY:Y=[]:=List.eq_nil_of_length_eq_zero h1
  subst hY
  rw [List.append_nil]
  refine ⟨v,w,?_,hown,World.grownBy.refl w _,.inl rfl⟩
  obtain ⟨A,c',rfl,hs,hle⟩:∃ A c',v=.slice A X.length c'∧True∧X.length≤c':=by
   rcases hown.2 with ⟨e1,e2⟩|⟨g,cap,cur,e1,e2,e3,e4,e5⟩
   ·exact ⟨none,0,by rw [e1,e2],trivial,by rw [e2];exact Nat.le_refl _⟩
   ·exact ⟨_,cap,e1,trivial,e4⟩
  simp [hle,Builtin.append_,run_underlying Tryz.underlying70,sizeOf,typeInfo,hi,Builtin.lenOf,Builtin.firstCells,storeCells]
  cases A <;> rfl
 ·injection hv with a1 a2 a3
  subst a1
  obtain ⟨v',w',h1,h2,h3,_,h5⟩:=run_append_own_at (P:=Tryz.prog) w base 70 70 104 i0 _ 3 40 Tryz.underlying70 hi hz0 hz1 hz2 rfl (by decide) v X.length (lcs X) hown ⟨g,0,none⟩ Y.length c (lcs Y) (lcs_len Y) (fun j u hu=>by
   have:=h.cells (g:=g) rfl j u hu
   simpa [Addr.add] using this) (fun u hu=>by
    unfold lcs at hu
    obtain ⟨x,_,hx⟩:=List.mem_flatMap.1 hu
    unfold lc at hx
    simp at hx
    rcases hx with rfl|rfl|rfl <;> rfl) (by unfold maxLen;omega) (by omega) hb
  refine ⟨v',w',h1,?_,h3,h5⟩
  unfold LO
  rw [List.length_append,lcs_app]
  exact h2
structure L3 (w:World) (g:Nat) (p:ByteArray) (k:Int) (d:ByteArray):Prop where
 c0:w.cell? ⟨g,0,none⟩=some (.string p)
 c1:w.cell? ⟨g,1,none⟩=some (.int .i64 k)
 c2:w.cell? ⟨g,2,none⟩=some (.string d)
 f2:w.frozen? ⟨g,2,none⟩=false
theorem L3.new (w:World) (p:ByteArray) (k:Int) (d:ByteArray):L3 (w.alloc (.cells #[.string p,.int .i64 k,.string d] 104)) w.heap.size p k d:=⟨by simp,by simp,by simp,by simp⟩
theorem L3.lt {w:World} {g:Nat} {p:ByteArray} {k:Int} {d:ByteArray} (h:L3 w g p k d):g<w.heap.size:=World.block_lt_of_cell? _ _ h.c0
theorem L3.same {w w':World} {g:Nat} {p:ByteArray} {k:Int} {d:ByteArray} (h:L3 w g p k d) (e:w'.heap[g]?=w.heap[g]?):L3 w' g p k d :=
 ⟨(World.cell?_of_block (a:=⟨g,0,none⟩) e).trans h.c0,(World.cell?_of_block (a:=⟨g,1,none⟩) e).trans h.c1,(World.cell?_of_block (a:=⟨g,2,none⟩) e).trans h.c2,(World.frozen?_of_block (a:=⟨g,2,none⟩) e).trans h.f2⟩
theorem L3.below {w w':World} {g:Nat} {p:ByteArray} {k:Int} {d:ByteArray} (h:L3 w g p k d) (hb:Below w.heap.size w w'):L3 w' g p k d:=h.same (hb.block g h.lt)
theorem L3.set {w:World} {g:Nat} {p:ByteArray} {k:Int} {d:ByteArray} (h:L3 w g p k d) (s:ByteArray):L3 (w.setCell ⟨g,2,none⟩ (.string s)) g p k s :=
 ⟨by rw [World.cell?_setCell_other _ _ _ _ (fun e=>by injection e with _ e;cases e)];exact h.c0,by rw [World.cell?_setCell_other _ _ _ _ (fun e=>by injection e with _ e;cases e)];exact h.c1,
  World.cell?_setCell_same' _ _ _ (by rw [h.c2];rfl),by simp [h.f2]⟩
theorem Tn.r4 {w w':World} {bl g D1 D2:Nat} {A A':Value} {u l:Int} (h:Tn w w' bl A A') (hn:R4 w g D1 D2 u l) (h1:g≠bl) (h2:A.ownBlock≠some g):R4 w' g D1 D2 u l :=
 ⟨(World.cell?_of_block (a:=⟨g,0,none⟩) (h.blk g hn.lt h1 h2)).trans hn.c0,(World.cell?_of_block (a:=⟨g,1,none⟩) (h.blk g hn.lt h1 h2)).trans hn.c1,(World.cell?_of_block (a:=⟨g,2,none⟩) (h.blk g hn.lt h1 h2)).trans hn.c2,(World.cell?_of_block (a:=⟨g,3,none⟩) (h.blk g hn.lt h1 h2)).trans hn.c3⟩
theorem Tn.grow {w w':World} {bl:Nat} {A A':Value} (hg:w.grownBy w' A.ownBlock) (ho:A'.ownBlock=A.ownBlock∨A'.ownBlock=some w.heap.size):Tn w w' bl A A' :=
 ⟨hg.size,fun g h1 _ h3=>hg.block g h1 h3.symm,fun k e=>by
  rcases ho with e2|e2
  ·exact .inl (e2▸e)
  ·exact .inr (by rw [e2] at e;injection e with e;omega)⟩
theorem Nb.set2 {w:World} {g:Nat} {a b:Int} (h0:(w.cell? ⟨g,0,none⟩).isSome=true) (h1:(w.cell? ⟨g,1,none⟩).isSome=true):Nb ((w.setCell ⟨g,0,none⟩ (.int .i64 a)).setCell ⟨g,1,none⟩ (.int .i64 b)) g (a,b) :=
 ⟨by rw [World.cell?_setCell_other _ _ _ _ (fun e=>by injection e with _ e;cases e)];exact World.cell?_setCell_same' _ _ _ h0,
  World.cell?_setCell_same' _ _ _ (by rw [World.cell?_setCell_other _ _ _ _ (fun e=>by injection e with _ e;cases e)];exact h1)⟩
theorem L3.set3 {w:World} {g:Nat} {p:ByteArray} {k:Int} {d:ByteArray} (h0:(w.cell? ⟨g,0,none⟩).isSome=true) (h1:(w.cell? ⟨g,1,none⟩).isSome=true) (h2:(w.cell? ⟨g,2,none⟩).isSome=true) (f2:w.frozen? ⟨g,2,none⟩=false) :
  L3 (((w.setCell ⟨g,0,none⟩ (.string p)).setCell ⟨g,1,none⟩ (.int .i64 k)).setCell ⟨g,2,none⟩ (.string d)) g p k d:=by
 have n1:(⟨g,1,none⟩:Addr)≠⟨g,0,none⟩:=fun e=>by injection e with _ e;cases e
 have n2:(⟨g,2,none⟩:Addr)≠⟨g,0,none⟩:=fun e=>by injection e with _ e;cases e
 have n3:(⟨g,2,none⟩:Addr)≠⟨g,1,none⟩:=fun e=>by injection e with _ e;cases e
 refine ⟨?_,?_,World.cell?_setCell_same' _ _ _ ?_,by simp [f2]⟩
 ·rw [World.cell?_setCell_other _ _ _ _ n2,World.cell?_setCell_other _ _ _ _ n1];exact World.cell?_setCell_same' _ _ _ h0
 ·rw [World.cell?_setCell_other _ _ _ _ n3];exact World.cell?_setCell_same' _ _ _ (by rw [World.cell?_setCell_other _ _ _ _ (Ne.symm n1)];exact h1)
 ·rw [World.cell?_setCell_other _ _ _ _ (Ne.symm n3),World.cell?_setCell_other _ _ _ _ (Ne.symm n2)];exact h2
theorem Tn.lo {w w' w2:World} {bl X:Nat} {A A':Value} (h:Tn w w' bl A A') (hb:Below X w' w2) (hX:w.heap.size≤X):Tn w w2 bl A A' :=
 ⟨Nat.le_trans h.size hb.size,fun g h1 h2 h3=>(hb.block g (Nat.lt_of_lt_of_le h1 hX)).trans (h.blk g h1 h2 h3),h.row⟩
def BelE (w:World) (X:List Ln) (e:Ending) (w':World):Prop:=∃ A c,e=.returned (.slice A X.length c)∧LO w' w.heap.size (.slice A X.length c) X∧Below w.heap.size w w'
theorem rbelow_any {w0:World} {D1 D2:Nat} {u l:Int} {U L:BS} {r1 r2:Nat} (hv:Vd w0 D1 D2 U L) (hU:Inv U r1) (hL:Inv L r2) {dU dL:Nat→Nat} (hdU:Deep U dU) (hdL:Deep L dL) (hA:∀ n,∃ ns,AllV U L n ns) :
  ∀ (d:Nat) (n:Nd) (at_:ByteArray) (w:World),hN U L dU dL n<d→d≤300→at_.size+61*d≤30000→(linesV U L d n at_).length≤4000000→Below w0.heap.size w0 w →
   Calls Tryz.prog 112 #[Rv D1 D2 u l,Nv n,.string at_,.int .i64 (300 - (d:Int))] w (BelE w (linesV U L d n at_))
 | 0,n,at_,w,hd,_,_,_,_=>absurd hd (Nat.not_lt_zero _)
 | d+1,(n1,n2),at_,w,hd,h300,hat,hlen,hb0=>by
  have IH:=Lib.hid (rbelow_any (u:=u) (l:=l) hv hU hL hdU hdL hA d)
  have HI:=Lib.hid (And.intro hU hL)
  have HAT:=Lib.hid hat
  have HLN:=Lib.hid hlen
  have HCH:=Lib.hid (fun s (h:(getV U L (n1,n2) s).2=0)=>Nat.lt_of_lt_of_le (hN_child hU hL hdU hdL (n1,n2) s h) (Nat.le_of_lt_succ hd))
  obtain ⟨ns,hns⟩:=hA (n1,n2)
  have HNS:=Lib.hid hns
  have HMM:=Lib.hid hns.mem
  have HLV:=Lib.hid (linesV_succ (d:=d) (at_:=at_) hns)
  obtain ⟨q,hq⟩:∃ q:Int,300 - ((d+1:Nat):Int)=q:=⟨_,rfl⟩
  have hq1:q<300:=by omega
  have hq0:0≤q:=by omega
  have HQ1:=Lib.hid (show q+1=300 - (d:Int) by omega)
  have HD3:=Lib.hid (show d≤300 by omega)
  rw [hq]
  have HF:=Lib.hid (show ∀ w1,(w.alloc (.cells #[Pq D1,Pq D2,.int .i64 u,.int .i64 l] 36)).alloc (.cells #[.int .i64 n1,.int .i64 n2] 24)=w1→Below w.heap.size w w1∧R4 w1 w.heap.size D1 D2 u l∧Nb w1 (w.heap.size+1) (n1,n2)∧w1.heap.size=w.heap.size+1+1 from fun w1 hw1=>by
   rw [← hw1]
   refine ⟨bel_step (bel_alloc _ _) (bel_alloc _ _),(R4.new w D1 D2 u l).below (bel_alloc _ _),?_,by rw [World.size_alloc,World.size_alloc]⟩
   have:=Nb.new (w.alloc (.cells #[Pq D1,Pq D2,.int .i64 u,.int .i64 l] 36)) n1 n2
   rwa [World.size_alloc] at this)
  have HV0:=Lib.hid (fun W (hb:Below w.heap.size w W)=>hv.below (bel_step hb0 hb))
  have HB0:=Lib.hid hb0
  have HG:=Lib.hid (fun W (hb:Below w.heap.size w W) s=>rget_any (u:=u) (l:=l) (HV0.out W hb) (n1,n2) s)
  have HA:=Lib.hid (fun W (hb:Below w.heap.size w W)=>rall_any (u:=u) (l:=l) (HV0.out W hb) (n1,n2) ns hns)
  have HK:=Lib.hid (fun W (hb:Below w.heap.size w W) x=>rkind_any (u:=u) (l:=l) (HV0.out W hb) x)
  have HT:=Lib.hid (fun W (hb:Below w.heap.size w W) x=>rtarget_any (u:=u) (l:=l) (HV0.out W hb) x)
  have HR:=Lib.hid (fun W (hb:Below w.heap.size w W) x=>(rread_any (u:=u) (l:=l) (HV0.out W hb) x 0 65536).mono fun _ _ h=>rd_doc h)
  unfold RetI at HK
  unfold RdE at HR
  unfold AllE at HA
  obtain ⟨PQ,hPQ⟩:∃ P,BelE w (linesV U L (d+1) (n1,n2) at_)=P:=⟨_,rfl⟩
  have HE:=Lib.hid (show ∀ W A c Y,Y=linesV U L (d+1) (n1,n2) at_→LO W w.heap.size (.slice A Y.length c) Y→Below w.heap.size w W→PQ (.returned (.slice A Y.length c)) W from fun W A c Y e a b=>by subst e;rw [← hPQ];exact ⟨A,c,rfl,a,b⟩)
  rw [hPQ]
  obtain ⟨g,hg⟩:∃ g,w.heap.size=g:=⟨_,rfl⟩
  have HGB:=Lib.hid hg
  rw [hg] at HF
  clear hd h300 hat hlen hU hL hdU hdL hv hA hb0 hns hq hPQ
  go_enter Tryz.func112,Tryz.ntmps112
  go_upto_region 1 with fail
  generalize hw1:(w.alloc (.cells #[Pq D1,Pq D2,.int .i64 u,.int .i64 l] 36)).alloc (.cells #[.int .i64 n1,.int .i64 n2] 24)=w1
  obtain ⟨hb1,hr1,hn1,hz1⟩:=HF.out w1 hw1
  have HB1:=Lib.hid (show Below w.heap.size w w1 by rw [HGB.out];exact hb1)
  have HR1:=Lib.hid hr1
  have HN1:=Lib.hid hn1
  obtain ⟨p,hp⟩:∃ p,w1.heap.size=p:=⟨_,rfl⟩
  have HP:=Lib.hid (show g+1<p∧w.heap.size≤p by have:=HGB.out;omega)
  obtain ⟨w2,hw2⟩:∃ w2,w1.alloc (.cells #[] 104)=w2:=⟨_,rfl⟩
  have hb2:Below w1.heap.size w1 w2:=by rw [← hw2];exact bel_alloc _ _
  have HO2:=Lib.hid (show LO w2 p (.slice (some ⟨p,0,none⟩) 0 0) [] from ⟨rfl,.inr ⟨p,0,#[],rfl,Nat.le_refl _,by rw [← hw2,← hp];exact heap_alloc_new w1 _,Nat.le_refl _,by unfold maxLen;omega,rfl,rfl⟩⟩)
  have HB2:=Lib.hid (bel_step HB1.out hb2)
  have HR2:=Lib.hid (HR1.out.below hb2)
  have HN2:=Lib.hid (HN1.out.below hb2)
  have HZ2:=Lib.hid (show p<w2.heap.size by rw [← hw2,World.size_alloc,hp];exact Nat.lt_succ_self _)
  clear hb1 hr1 hn1 hz1 hb2 HF hw1 HB1 HR1 HN1
  go_upto_region 2 with fail
  try rw [hp]
  try rw [hw2]
  clear hp hw2
  obtain ⟨k0,k1,k2,k3⟩:=HR2.out
  obtain ⟨m0,m1⟩:=HN2.out
  dsimp only at m0 m1
  go_wp2_with fail
  refine (HA.out _ HB2.out).mono ?_
  rintro _ w3 ⟨AA,cA,ll,rfl,hal,hnr,hk1,hk2,hk3,hb3⟩
  obtain rfl:=hal.same HNS.out
  have HB3:=Lib.hid (bel_step HB2.out hb3)
  have HR3:=Lib.hid (HR2.out.below hb3)
  have HN3:=Lib.hid (HN2.out.below hb3)
  have HO3:=Lib.hid (HO2.out.below hb3)
  have HNR:=Lib.hid hnr
  obtain ⟨lo,hlo⟩:∃ x,w2.heap.size=x:=⟨_,rfl⟩
  rw [hlo] at HNR
  have HLO:=Lib.hid (show p<lo∧lo≤w3.heap.size from ⟨by rw [← hlo];exact HZ2.out,by rw [← hlo];exact hb3.size⟩)
  obtain ⟨m,hm⟩:∃ m,ll.length=m:=⟨_,rfl⟩
  have HM:=Lib.hid hm
  rw [hm] at hk1 hk3
  have hmi:=hm
  rw [hm]
  have HGL:=Lib.hid (show ∀ j,j<m→∃ x,ll[j]?=some x from fun j hj=>⟨ll[j]'(by have:=HM.out;omega),List.getElem?_eq_getElem _⟩)
  clear hal hnr hb3 HA HB2 HR2 HN2 HO2 HZ2 hlo k0 k1 k2 k3 m0 m1 hm hmi
  go_upto_region 4 with fail
  go_loopg [9,12] m (fun gh v9 s12 wr=>∃ (j:Nat) (s9:Value),gh+j=m∧s9=v9∧s12=.int .i64 j∧Hid (LO wr p s9 ((ll.take j).flatMap (linesN U L d (n1,n2) at_)))∧Hid (Tn w3 wr p (.slice (some ⟨p,0,none⟩) 0 0) s9)∧Hid (Below w.heap.size w wr))
  case atStart=>exact ⟨0,_,by omega,rfl,rfl,by simpa using HO3,Lib.hid (Tn.refl _ _ _),HB3⟩
  case round =>
   obtain ⟨j,s9,hgj,rfl,rfl,HOR,HTR,HBR⟩:=hrel
   by_cases hj:j<m
   case neg =>
    obtain rfl:j=m:=by omega
    have HEE:=Lib.hid (show (ll.take j).flatMap (linesN U L d (n1,n2) at_)=linesV U L (d+1) (n1,n2) at_ by rw [HLV.out,List.take_of_length_le (by rw [HM.out];exact Nat.le_refl _)])
    obtain ⟨Af,cf,rfl⟩:∃ A c,s9=.slice A ((ll.take j).flatMap (linesN U L d (n1,n2) at_)).length c:=by
     rcases HOR.out.2 with ⟨e1,e2⟩|⟨g,cap,cur,e1,_⟩
     ·exact ⟨none,0,by rw [e1,e2]⟩
     ·exact ⟨_,cap,e1⟩
    have hfin:=HE.out wr Af cf _ HEE.out ⟨HOR.out.1,HOR.out.2.imp id fun ⟨g,a,b,c,d,e⟩=>⟨g,a,b,c,Nat.le_trans HP.out.2 d,e⟩⟩ HBR.out
    clear HEE
    generalize ((ll.take j).flatMap (linesN U L d (n1,n2) at_)).length=zl at *
    go_wp2_with fail
    exact hfin
   obtain ⟨s,hs⟩:=HGL.out j hj
   have hs0:=(HMM.out s).1 (List.mem_of_getElem? hs)
   have hs60:=name_size HI.out.1 HI.out.2 hs0
   have HC:=Lib.hid (HCH.out s hs0)
   have HTL:=Lib.hid (show (ll.take (j+1)).flatMap (linesN U L d (n1,n2) at_)=(ll.take j).flatMap (linesN U L d (n1,n2) at_)++linesN U L d (n1,n2) at_ s by rw [List.take_add_one,hs,List.flatMap_append];simp)
   have HTN:=Lib.hid (show ((ll.take j).flatMap (linesN U L d (n1,n2) at_)).length+(linesN U L d (n1,n2) at_ s).length≤4000000 by
    rw [← List.length_append,← HTL.out]
    have h1:=HLN.out
    rw [HLV.out] at h1
    refine Nat.le_trans ?_ h1
    conv=>rhs;rw [← List.take_append_drop (j+1) ll,List.flatMap_append,List.length_append]
    omega)
   obtain ⟨XR,hXR⟩:∃ Y,(ll.take j).flatMap (linesN U L d (n1,n2) at_)=Y:=⟨_,rfl⟩
   rw [hXR] at HOR HTL HTN
   have HNN:=Lib.hid (HTR.out.nr HNR.out HLO.out.1 (fun k e=>by simp [Value.ownBlock] at e;have:=HLO.out.1;omega))
   have HNB:=Lib.hid (HTR.out.nb HN3.out (by have:=HP.out;omega) (fun e=>by simp [Value.ownBlock] at e;have:=HP.out;omega))
   have HRB:=Lib.hid (HTR.out.r4 HR3.out (by have:=HP.out;omega) (fun e=>by simp [Value.ownBlock] at e;have:=HP.out;omega))
   obtain ⟨GN,hAA,hG1,hG2,e1,-⟩:=HNN.out j s hs
   subst hAA
   have HG3:=Lib.hid (fun W (hb:Below wr.heap.size wr W)=>HG.out W (bel_step HBR.out hb) s)
   have HLI:=Lib.hid (show linesN U L d (n1,n2) at_ s=⟨at_++slB++s,kindV U L (getV U L (n1,n2) s).1,contV U L (getV U L (n1,n2) s).1⟩::linesV U L d (getV U L (n1,n2) s).1 (at_++slB++s) from rfl)
   obtain ⟨gv,hgv⟩:∃ r,getV U L (n1,n2) s=r:=⟨_,rfl⟩
   rw [hgv] at HG3 HLI HC hs0
   obtain ⟨⟨x1,x2⟩,ge⟩:=gv
   dsimp only at HG3 HLI HC hs0
   subst hs0
   have hat0:at_.size≤30000:=by have:=HAT.out;omega
   obtain ⟨tx,htx⟩:∃ t,at_++⟨#[47]⟩++s=t:=⟨_,rfl⟩
   have HTZ:=Lib.hid (show tx.size+61*d≤30000 by rw [← htx,ByteArray.size_append,ByteArray.size_append];have:=HAT.out;have h1:(⟨#[47]⟩:ByteArray).size=1:=rfl;omega)
   rw [show at_++slB++s=tx from htx] at HLI
   have HTX:=Lib.hid htx
   have HE1:=Lib.hid (fun W (hb:Below wr.heap.size wr W)=>(hb.cell (p:=⟨GN,j,none⟩) hG2).trans e1)
   have HOB:=Lib.hid (show s9.ownBlock≠none→∀ k,s9.ownBlock=some k→p≤k∧k<wr.heap.size from fun _ k e=>HOR.out.lt e)
   clear hs hgv hG1 hXR HNN htx
   go_upto_region 6 with fail
   go_cut [13,14] from 27 to 96 (fun va vb wx=>∃ G,va=.pointer (some ⟨G,0,none⟩)∧vb=.int .i64 0∧Hid (Below wr.heap.size wr wx)∧Hid (Nb wx G (x1,x2))∧Hid (wr.heap.size≤G))
   case first =>
    as_aux_lemma =>
    have HSS:=Lib.hid (fun W (hb:Below wr.heap.size wr W)=>show W.cell? ⟨g,0,none⟩=some (Pq D1)∧W.cell? ⟨g,1,none⟩=some (Pq D2)∧W.cell? ⟨g,2,none⟩=some (.int .i64 u)∧W.cell? ⟨g,3,none⟩=some (.int .i64 l)∧W.cell? ⟨g+1,0,none⟩=some (.int .i64 n1)∧W.cell? ⟨g+1,1,none⟩=some (.int .i64 n2)∧W.cell? ⟨GN,j,none⟩=some (.string s) from ⟨(HRB.out.below hb).c0,(HRB.out.below hb).c1,(HRB.out.below hb).c2,(HRB.out.below hb).c3,(HNB.out.below hb).c0,(HNB.out.below hb).c1,HE1.out W hb⟩)
    have S0:=HSS.out wr (Below.refl _ _)
    have HAB:=Lib.hid (bel_alloc wr (.cells #[.int .i64 0,.int .i64 0] 24))
    have HAD:=Lib.hid (bel_step HAB.out (Below.refl _ (wr.alloc (.cells #[.int .i64 0,.int .i64 0] 24))).drew)
    have SA:=HSS.out _ HAB.out
    have HGd:=Lib.hid (HG3.out wr.drew (Below.refl wr.heap.size wr).drew)
    have HGA:=Lib.hid (HG3.out (wr.alloc (.cells #[.int .i64 0,.int .i64 0] 24)).drew HAD.out)
    have HZA:=Lib.hid (show (wr.alloc (.cells #[.int .i64 0,.int .i64 0] 24)).drew.cell? ⟨wr.heap.size,0,none⟩=some (.int .i64 0)∧(wr.alloc (.cells #[.int .i64 0,.int .i64 0] 24)).drew.cell? ⟨wr.heap.size,1,none⟩=some (.int .i64 0)∧(wr.alloc (.cells #[.int .i64 0,.int .i64 0] 24)).drew.frozen? ⟨wr.heap.size,0,none⟩=false∧(wr.alloc (.cells #[.int .i64 0,.int .i64 0] 24)).drew.frozen? ⟨wr.heap.size,1,none⟩=false∧wr.heap.size<(wr.alloc (.cells #[.int .i64 0,.int .i64 0] 24)).drew.heap.size from ⟨by simp,by simp,by simp,by simp,by simp⟩)
    have hji:((j:Nat):Int)<(m:Int):=by omega
    go_region_held3 (fun W=>W.cell? ⟨g,0,none⟩=some (Pq D1)∧W.cell? ⟨g,1,none⟩=some (Pq D2)∧W.cell? ⟨g,2,none⟩=some (.int .i64 u)∧W.cell? ⟨g,3,none⟩=some (.int .i64 l)∧W.cell? ⟨g+1,0,none⟩=some (.int .i64 n1)∧W.cell? ⟨g+1,1,none⟩=some (.int .i64 n2)∧W.cell? ⟨GN,j,none⟩=some (.string s))
     (first|with_reducible exact S0|with_reducible exact S5|with_reducible exact SA|with_reducible exact ST|assumption|go_keep)
     (first
      | (go_at_call 18;((with_reducible refine HGd.out.mono ?_);rintro _ w5 ⟨rfl,hb5⟩;have HB5:=Lib.hid (bel_step (Below.refl wr.heap.size wr).drew hb5);have S5:=HSS.out w5 HB5.out;have HF5:=Lib.hid (show ∃ G,w5.heap.size=G∧Below wr.heap.size wr (w5.alloc (.cells #[.int .i64 x1,.int .i64 x2] 24))∧Nb (w5.alloc (.cells #[.int .i64 x1,.int .i64 x2] 24)) G (x1,x2)∧wr.heap.size≤G from ⟨_,rfl,bel_step HB5.out (bel_alloc _ _),Nb.new w5 x1 x2,HB5.out.size⟩);clear hb5))
      | (go_at_call 18;((with_reducible refine HGA.out.mono ?_);rintro _ w5 ⟨rfl,hb5⟩;have HB5:=Lib.hid (bel_step HAD.out hb5);have S5:=HSS.out w5 HB5.out;obtain ⟨z0,z1,f0,f1,hz⟩:=HZA.out;replace z0:=(hb5.cell (p:=⟨wr.heap.size,0,none⟩) hz).trans z0;replace z1:=(hb5.cell (p:=⟨wr.heap.size,1,none⟩) hz).trans z1;replace f0:=(World.frozen?_of_block (a:=⟨wr.heap.size,0,none⟩) (hb5.block _ hz)).trans f0;replace f1:=(World.frozen?_of_block (a:=⟨wr.heap.size,1,none⟩) (hb5.block _ hz)).trans f1;have HBT:=Lib.hid (show Below wr.heap.size wr ((w5.setCell ⟨wr.heap.size,0,none⟩ (.int .i64 x1)).setCell ⟨wr.heap.size,1,none⟩ (.int .i64 x2)) from set_below (set_below HB5.out (Nat.le_refl _) _) (Nat.le_refl _) _);have ST:=HSS.out _ HBT.out;have HFG:=Lib.hid (show Nb ((w5.setCell ⟨wr.heap.size,0,none⟩ (.int .i64 x1)).setCell ⟨wr.heap.size,1,none⟩ (.int .i64 x2)) wr.heap.size (x1,x2) from Nb.set2 (by rw [z0];rfl) (by rw [z1];rfl));clear hb5)))
    all_goals
     go_wp2_with fail
     go_meet
     case rel=>first|exact ⟨_,rfl,rfl,HBT,HFG,Lib.hid (Nat.le_refl _)⟩|(obtain ⟨G,hG,h1,h2,h3⟩:=HF5.out;subst hG;exact ⟨_,rfl,rfl,Lib.hid h1,Lib.hid h2,Lib.hid h3⟩)
   case rest =>
    obtain ⟨gx,rfl,rfl,HBX,HXX,HGX⟩:=hcut
    obtain ⟨wq,rfl⟩:∃ x,x=wc:=⟨_,rfl⟩
    have HKX:=Lib.hid (fun W (hb:Below wq.heap.size wq W)=>HK.out W (bel_step HBR.out (bel_step HBX.out hb)) (x1,x2))
    obtain ⟨kx,hkx⟩:∃ k,kindV U L (x1,x2)=k:=⟨_,rfl⟩
    rw [hkx] at HKX HLI
    have HKE:=Lib.hid hkx
    clear hkx
    go_upto_region 7 with fail
    go_cut [15] from 27 to 96 (fun va wx=>∃ G,va=.pointer (some ⟨G,0,none⟩)∧Hid (Below wq.heap.size wq wx)∧Hid (L3 wx G tx kx ⟨#[]⟩)∧Hid (wq.heap.size≤G))
    case first =>
     as_aux_lemma =>
     have htx:=HTX.out
     subst htx
     have hc1:(at_++⟨#[47]⟩:ByteArray).size≤30001:=by rw [ByteArray.size_append];have h1:(⟨#[47]⟩:ByteArray).size=1:=rfl;omega
     have hz1:at_.size≤9223372036854775806:=by omega
     have hz2:at_.size+1+s.size≤9223372036854775807:=by omega
     have hr1:∀ W,(Op.stringOp .add at_ ⟨#[47]⟩).run Tryz.prog W=.ok (.string (at_++⟨#[47]⟩)) W:=fun W=>run_string_add_sum W _ _ (by have h1:(⟨#[47]⟩:ByteArray).size=1:=rfl;omega)
     have hr2:∀ W,(Op.stringOp .add (at_++⟨#[47]⟩) s).run Tryz.prog W=.ok (.string (at_++⟨#[47]⟩++s)) W:=fun W=>run_string_add_sum W _ _ (by omega)
     have HSS:=Lib.hid (fun W (hb:Below wq.heap.size wq W)=>show W.cell? ⟨g,0,none⟩=some (Pq D1)∧W.cell? ⟨g,1,none⟩=some (Pq D2)∧W.cell? ⟨g,2,none⟩=some (.int .i64 u)∧W.cell? ⟨g,3,none⟩=some (.int .i64 l)∧W.cell? ⟨gx,0,none⟩=some (.int .i64 x1)∧W.cell? ⟨gx,1,none⟩=some (.int .i64 x2)∧W.cell? ⟨GN,j,none⟩=some (.string s) from ⟨((HRB.out.below HBX.out).below hb).c0,((HRB.out.below HBX.out).below hb).c1,((HRB.out.below HBX.out).below hb).c2,((HRB.out.below HBX.out).below hb).c3,(HXX.out.below hb).c0,(HXX.out.below hb).c1,HE1.out W (bel_step HBX.out hb)⟩)
     have S0:=HSS.out wq (Below.refl _ _)
     have HAB:=Lib.hid (bel_alloc wq (.cells #[.string ⟨#[]⟩,.int .i64 0,.string ⟨#[]⟩] 104))
     have HAD:=Lib.hid (bel_step HAB.out (Below.refl _ (wq.alloc (.cells #[.string ⟨#[]⟩,.int .i64 0,.string ⟨#[]⟩] 104))).drew)
     have SA:=HSS.out _ HAB.out
     have HGd:=Lib.hid (HKX.out wq.drew (Below.refl wq.heap.size wq).drew)
     have HGA:=Lib.hid (HKX.out (wq.alloc (.cells #[.string ⟨#[]⟩,.int .i64 0,.string ⟨#[]⟩] 104)).drew HAD.out)
     have HZA:=Lib.hid (show (wq.alloc (.cells #[.string ⟨#[]⟩,.int .i64 0,.string ⟨#[]⟩] 104)).drew.cell? ⟨wq.heap.size,0,none⟩=some (.string ⟨#[]⟩)∧(wq.alloc (.cells #[.string ⟨#[]⟩,.int .i64 0,.string ⟨#[]⟩] 104)).drew.cell? ⟨wq.heap.size,1,none⟩=some (.int .i64 0)∧(wq.alloc (.cells #[.string ⟨#[]⟩,.int .i64 0,.string ⟨#[]⟩] 104)).drew.cell? ⟨wq.heap.size,2,none⟩=some (.string ⟨#[]⟩)∧(wq.alloc (.cells #[.string ⟨#[]⟩,.int .i64 0,.string ⟨#[]⟩] 104)).drew.frozen? ⟨wq.heap.size,0,none⟩=false∧(wq.alloc (.cells #[.string ⟨#[]⟩,.int .i64 0,.string ⟨#[]⟩] 104)).drew.frozen? ⟨wq.heap.size,1,none⟩=false∧(wq.alloc (.cells #[.string ⟨#[]⟩,.int .i64 0,.string ⟨#[]⟩] 104)).drew.frozen? ⟨wq.heap.size,2,none⟩=false∧wq.heap.size<(wq.alloc (.cells #[.string ⟨#[]⟩,.int .i64 0,.string ⟨#[]⟩] 104)).drew.heap.size from ⟨by simp,by simp,by simp,by simp,by simp,by simp,by simp⟩)
     have hji:((j:Nat):Int)<(m:Int):=by omega
     go_region_held3 (fun W=>W.cell? ⟨g,0,none⟩=some (Pq D1)∧W.cell? ⟨g,1,none⟩=some (Pq D2)∧W.cell? ⟨g,2,none⟩=some (.int .i64 u)∧W.cell? ⟨g,3,none⟩=some (.int .i64 l)∧W.cell? ⟨gx,0,none⟩=some (.int .i64 x1)∧W.cell? ⟨gx,1,none⟩=some (.int .i64 x2)∧W.cell? ⟨GN,j,none⟩=some (.string s))
      (first|with_reducible exact S0|with_reducible exact S5|with_reducible exact SA|with_reducible exact ST|assumption|go_keep)
      (first
       | (go_at_call 20;((with_reducible refine HGd.out.mono ?_);rintro _ w5 ⟨rfl,hb5⟩;have HB5:=Lib.hid (bel_step (Below.refl wq.heap.size wq).drew hb5);have S5:=HSS.out w5 HB5.out;have HF5:=Lib.hid (show ∃ G,w5.heap.size=G∧Below wq.heap.size wq (w5.alloc (.cells #[.string (at_++⟨#[47]⟩++s),.int .i64 kx,.string ⟨#[]⟩] 104))∧L3 (w5.alloc (.cells #[.string (at_++⟨#[47]⟩++s),.int .i64 kx,.string ⟨#[]⟩] 104)) G (at_++⟨#[47]⟩++s) kx ⟨#[]⟩∧wq.heap.size≤G from ⟨_,rfl,bel_step HB5.out (bel_alloc _ _),L3.new w5 _ kx _,HB5.out.size⟩);clear hb5))
       | (go_at_call 20;((with_reducible refine HGA.out.mono ?_);rintro _ w5 ⟨rfl,hb5⟩;have HB5:=Lib.hid (bel_step HAD.out hb5);have S5:=HSS.out w5 HB5.out;obtain ⟨z0,z1,z2,f0,f1,f2,hz⟩:=HZA.out;replace z0:=(hb5.cell (p:=⟨wq.heap.size,0,none⟩) hz).trans z0;replace z1:=(hb5.cell (p:=⟨wq.heap.size,1,none⟩) hz).trans z1;replace z2:=(hb5.cell (p:=⟨wq.heap.size,2,none⟩) hz).trans z2;replace f0:=(World.frozen?_of_block (a:=⟨wq.heap.size,0,none⟩) (hb5.block _ hz)).trans f0;replace f1:=(World.frozen?_of_block (a:=⟨wq.heap.size,1,none⟩) (hb5.block _ hz)).trans f1;replace f2:=(World.frozen?_of_block (a:=⟨wq.heap.size,2,none⟩) (hb5.block _ hz)).trans f2;have HBT:=Lib.hid (show Below wq.heap.size wq (((w5.setCell ⟨wq.heap.size,0,none⟩ (.string (at_++⟨#[47]⟩++s))).setCell ⟨wq.heap.size,1,none⟩ (.int .i64 kx)).setCell ⟨wq.heap.size,2,none⟩ (.string ⟨#[]⟩)) from set_below (set_below (set_below HB5.out (Nat.le_refl _) _) (Nat.le_refl _) _) (Nat.le_refl _) _);have ST:=HSS.out _ HBT.out;have HFG:=Lib.hid (show L3 (((w5.setCell ⟨wq.heap.size,0,none⟩ (.string (at_++⟨#[47]⟩++s))).setCell ⟨wq.heap.size,1,none⟩ (.int .i64 kx)).setCell ⟨wq.heap.size,2,none⟩ (.string ⟨#[]⟩)) wq.heap.size (at_++⟨#[47]⟩++s) kx ⟨#[]⟩ from L3.set3 (by rw [z0];rfl) (by rw [z1];rfl) (by rw [z2];rfl) f2);clear hb5)))
     all_goals
      go_wp2_with fail
      go_meet
      case rel=>first|exact ⟨_,rfl,HBT,HFG,Lib.hid (Nat.le_refl _)⟩|(obtain ⟨G,hG,h1,h2,h3⟩:=HF5.out;subst hG;exact ⟨_,rfl,Lib.hid h1,Lib.hid h2,Lib.hid h3⟩)
    case rest =>
     obtain ⟨gl,rfl,HBL,HLL,HGL2⟩:=hcut
     obtain ⟨wl,rfl⟩:∃ x,x=wc:=⟨_,rfl⟩
     have HB1:=Lib.hid (bel_step HBX.out HBL.out)
     have HRL:=Lib.hid (HRB.out.below HB1.out)
     have HXL:=Lib.hid (HXX.out.below HBL.out)
     have HOL:=Lib.hid (HOR.out.below HB1.out)
     have HTW:=Lib.hid (HTR.out.trans (Tn.bel (bl:=p) (A:=s9) HB1.out))
     have HBW:=Lib.hid (bel_step HBR.out HB1.out)
     have HPOS:=Lib.hid (show g+1<p∧p<w3.heap.size∧w3.heap.size≤wr.heap.size∧wr.heap.size≤gx∧gx<gl∧gl<wl.heap.size∧w.heap.size≤p∧g+1<wr.heap.size from by
      have h1:=HP.out;have h2:=HLO.out;have h3:=HTR.out.size;have h4:=HGX.out;have h5:=HXX.out.lt;have h6:=HGL2.out;have h7:=HLL.out.lt;omega)
     have HOWN:=Lib.hid (show ∀ k,s9.ownBlock=some k→p≤k∧k<wr.heap.size from fun k e=>HOR.out.lt e)
     have HXL1:=Lib.hid (show XR.length+1+(linesV U L d (x1,x2) tx).length≤4000000 by have:=HTN.out;rw [HLI.out,List.length_cons] at this;omega)
     clear HBX HXX HGX HBL HGL2 HKX HE1 HG3 HB1 HOR HTR HBR HRB HNB
     obtain ⟨i0,hi,hz0,hz1,hz2⟩:=info_parts79
     by_cases hk1:kx=1
     ·as_aux_lemma =>
      subst hk1
      have HCX:=Lib.hid (contV_rd HKE.out)
      have HRD:=Lib.hid (HR.out wl HBW.out (x1,x2))
      generalize rdN U L (x1,x2) 0 65536=rd at *
      obtain ⟨re,rs⟩:=rd
      dsimp only at HRD HCX
      rw [HCX.out,linesV_leaf (by rw [HKE.out];decide)] at HLI
      clear HK HT HR IH HCX
      obtain ⟨k0,k1,k2,k3⟩:=HRL.out
      obtain ⟨m0,m1⟩:=HXL.out
      obtain ⟨l0,l1,l2,l3⟩:=HLL.out
      dsimp only at m0 m1
      go_wp2_with fail
      refine HRD.out.mono ?_
      rintro _ wm ⟨A3,m3,c3,rfl,hcv,hb⟩
      have hy:=hcv wm (Below.refl _ _)
      have HRLm:=Lib.hid (HRL.out.below hb)
      have HXLm:=Lib.hid (HXL.out.below hb)
      have HLLm:=Lib.hid (HLL.out.below hb)
      have HOLm:=Lib.hid (HOL.out.below hb)
      have HTWm:=Lib.hid (HTW.out.trans (Tn.bel (bl:=p) (A:=s9) hb))
      have HBWm:=Lib.hid (bel_step HBW.out hb)
      have HSZm:=Lib.hid (hb.size)
      clear HRL HXL HLL HOL HTW HBW
      clear HRD hcv hb k0 k1 k2 k3 m0 m1 l0 l1 l2 l3
      obtain ⟨l0,l1,l2,l3⟩:=HLLm.out
      go_upto_region 11 with fail
      clear hy
      have hs:Below gl wm (wm.setCell ⟨gl,2,none⟩ (.string rs)):=(Below.refl gl wm).setCell (p:=⟨gl,2,none⟩) (Nat.le_refl gl) _
      have HRL:=Lib.hid (HRLm.out.lo hs (by have:=HPOS.out;omega))
      have HXL:=Lib.hid (HXLm.out.lo hs (by have:=HPOS.out;omega))
      have HLL:=Lib.hid (HLLm.out.set rs)
      have HOL:=Lib.hid (HOLm.out.same fun k e=>hs.block k (by have:=HPOS.out;have:=HOWN.out k e;omega))
      have HTW:=Lib.hid (HTWm.out.lo hs (by have:=HPOS.out;omega))
      have HBW:=Lib.hid (show Below w.heap.size w (wm.setCell ⟨gl,2,none⟩ (.string rs)) from set_below HBWm.out (by have:=HPOS.out;omega) _)
      have HSZ:=Lib.hid (show gl<(wm.setCell ⟨gl,2,none⟩ (.string rs)).heap.size by rw [World.size_setCell];have:=HPOS.out;have:=HSZm.out;omega)
      clear hs HRLm HXLm HLLm HOLm HTWm HBWm HSZm
      generalize wm.setCell ⟨gl,2,none⟩ (.string rs)=ws at *
      clear l0 l1 l2 l3
      obtain ⟨l0,l1,l2,l3⟩:=HLL.out
      have HOX:=Lib.hid (fun ob=>HOL.out.below (bel_alloc ws ob))
      have HSP:=Lib.hid (fun ob=>show p≤(ws.alloc ob).heap.size from by rw [World.size_alloc];have:=HPOS.out;have:=HSZ.out;omega)
      have HGW:=Lib.hid (fun ob (W:World) (v:Value) (hg:(ws.alloc ob).grownBy W s9.ownBlock) (ho:v.ownBlock=s9.ownBlock∨v.ownBlock=some (ws.alloc ob).heap.size)=>show Tn w3 W p (.slice (some ⟨p,0,none⟩) 0 0) v∧Below w.heap.size w W∧R4 W g D1 D2 u l∧Nb W gx (x1,x2)∧L3 W gl tx 1 rs from by
       have h1:Tn ws W p s9 v:=(Tn.bel (bl:=p) (A:=s9) (bel_alloc ws ob)).trans (Tn.grow hg ho)
       have h2:=HPOS.out
       exact ⟨HTW.out.trans h1,grown_bel (bel_step HBW.out (bel_alloc ws ob)) hg (fun k e=>by have:=HOWN.out k e;omega),h1.r4 HRL.out (by omega) (fun e=>by have:=HOWN.out _ e;omega),h1.nb HXL.out (by omega) (fun e=>by have:=HOWN.out _ e;omega),HLL.out.same (h1.blk gl HSZ.out (by omega) (fun e=>by have:=HOWN.out _ e;omega))⟩)
      go_wp2_with (first|(at_builtin;go_must (refine wpList_append_own_at _ rfl (.tmp 81) (.tmp 83) 70 rfl p 104 i0 _ 3 40 Tryz.underlying70 hi hz0 hz1 hz2 rfl (by decide) s9 XR.length (lcs XR) rfl (HOX.out _) ⟨ws.heap.size,0,none⟩ 1 1 [.string tx,.int .i64 1,.string rs] rfl rfl (cell_three_new _ _ _ _ _) (by intro u hu;simp at hu;rcases hu with rfl|rfl|rfl <;> rfl) (by have:=HXL1.out;unfold maxLen;omega) (by have:=HXL1.out;omega) (HSP.out _) ?_;intro v9 wv hown hgr _ ho;have HV9:=Lib.hid (LO.of (x:=⟨tx,1,rs⟩) hown);have HGR:=Lib.hid (HGW.out _ _ _ hgr ho);have l1v:=HGR.out.2.2.2.2.c1;clear hown hgr ho))|fail)
      go_roundg (gk - 1)
      case measure=>omega
      case rel=>exact ⟨j+1,v9,by omega,rfl,by go_num,(by rw [HTL.out,HLI.out];exact HV9),Lib.hid HGR.out.1,Lib.hid HGR.out.2.1⟩
     by_cases hk3:kx=3
     ·as_aux_lemma =>
      subst hk3
      have HCX:=Lib.hid (show contV U L (x1,x2)=(targN U L (x1,x2)).1 by unfold contV;rw [if_neg (by rw [HKE.out];decide),if_pos HKE.out])
      have HRD:=Lib.hid (HT.out wl HBW.out (x1,x2))
      generalize targN U L (x1,x2)=rd at *
      obtain ⟨rs,re⟩:=rd
      dsimp only at HRD HCX
      rw [HCX.out,linesV_leaf (by rw [HKE.out];decide)] at HLI
      clear HK HT HR IH HCX
      obtain ⟨k0,k1,k2,k3⟩:=HRL.out
      obtain ⟨m0,m1⟩:=HXL.out
      obtain ⟨l0,l1,l2,l3⟩:=HLL.out
      dsimp only at m0 m1
      go_wp2_with fail
      refine HRD.out.mono ?_
      rintro _ wm ⟨rfl,hb⟩
      have HRLm:=Lib.hid (HRL.out.below hb)
      have HXLm:=Lib.hid (HXL.out.below hb)
      have HLLm:=Lib.hid (HLL.out.below hb)
      have HOLm:=Lib.hid (HOL.out.below hb)
      have HTWm:=Lib.hid (HTW.out.trans (Tn.bel (bl:=p) (A:=s9) hb))
      have HBWm:=Lib.hid (bel_step HBW.out hb)
      have HSZm:=Lib.hid (hb.size)
      clear HRL HXL HLL HOL HTW HBW
      clear HRD hb k0 k1 k2 k3 m0 m1 l0 l1 l2 l3
      obtain ⟨l0,l1,l2,l3⟩:=HLLm.out
      go_upto_region 14 with fail
      have hs:Below gl wm (wm.setCell ⟨gl,2,none⟩ (.string rs)):=(Below.refl gl wm).setCell (p:=⟨gl,2,none⟩) (Nat.le_refl gl) _
      have HRL:=Lib.hid (HRLm.out.lo hs (by have:=HPOS.out;omega))
      have HXL:=Lib.hid (HXLm.out.lo hs (by have:=HPOS.out;omega))
      have HLL:=Lib.hid (HLLm.out.set rs)
      have HOL:=Lib.hid (HOLm.out.same fun k e=>hs.block k (by have:=HPOS.out;have:=HOWN.out k e;omega))
      have HTW:=Lib.hid (HTWm.out.lo hs (by have:=HPOS.out;omega))
      have HBW:=Lib.hid (show Below w.heap.size w (wm.setCell ⟨gl,2,none⟩ (.string rs)) from set_below HBWm.out (by have:=HPOS.out;omega) _)
      have HSZ:=Lib.hid (show gl<(wm.setCell ⟨gl,2,none⟩ (.string rs)).heap.size by rw [World.size_setCell];have:=HPOS.out;have:=HSZm.out;omega)
      clear hs HRLm HXLm HLLm HOLm HTWm HBWm HSZm
      generalize wm.setCell ⟨gl,2,none⟩ (.string rs)=ws at *
      clear l0 l1 l2 l3
      obtain ⟨l0,l1,l2,l3⟩:=HLL.out
      have HOX:=Lib.hid (fun ob=>HOL.out.below (bel_alloc ws ob))
      have HSP:=Lib.hid (fun ob=>show p≤(ws.alloc ob).heap.size from by rw [World.size_alloc];have:=HPOS.out;have:=HSZ.out;omega)
      have HGW:=Lib.hid (fun ob (W:World) (v:Value) (hg:(ws.alloc ob).grownBy W s9.ownBlock) (ho:v.ownBlock=s9.ownBlock∨v.ownBlock=some (ws.alloc ob).heap.size)=>show Tn w3 W p (.slice (some ⟨p,0,none⟩) 0 0) v∧Below w.heap.size w W∧R4 W g D1 D2 u l∧Nb W gx (x1,x2)∧L3 W gl tx 3 rs from by
       have h1:Tn ws W p s9 v:=(Tn.bel (bl:=p) (A:=s9) (bel_alloc ws ob)).trans (Tn.grow hg ho)
       have h2:=HPOS.out
       exact ⟨HTW.out.trans h1,grown_bel (bel_step HBW.out (bel_alloc ws ob)) hg (fun k e=>by have:=HOWN.out k e;omega),h1.r4 HRL.out (by omega) (fun e=>by have:=HOWN.out _ e;omega),h1.nb HXL.out (by omega) (fun e=>by have:=HOWN.out _ e;omega),HLL.out.same (h1.blk gl HSZ.out (by omega) (fun e=>by have:=HOWN.out _ e;omega))⟩)
      go_wp2_with (first|(at_builtin;go_must (refine wpList_append_own_at _ rfl (.tmp 81) (.tmp 83) 70 rfl p 104 i0 _ 3 40 Tryz.underlying70 hi hz0 hz1 hz2 rfl (by decide) s9 XR.length (lcs XR) rfl (HOX.out _) ⟨ws.heap.size,0,none⟩ 1 1 [.string tx,.int .i64 3,.string rs] rfl rfl (cell_three_new _ _ _ _ _) (by intro u hu;simp at hu;rcases hu with rfl|rfl|rfl <;> rfl) (by have:=HXL1.out;unfold maxLen;omega) (by have:=HXL1.out;omega) (HSP.out _) ?_;intro v9 wv hown hgr _ ho;have HV9:=Lib.hid (LO.of (x:=⟨tx,3,rs⟩) hown);have HGR:=Lib.hid (HGW.out _ _ _ hgr ho);have l1v:=HGR.out.2.2.2.2.c1;clear hown hgr ho))|fail)
      go_roundg (gk - 1)
      case measure=>omega
      case rel=>exact ⟨j+1,v9,by omega,rfl,by go_num,(by rw [HTL.out,HLI.out];exact HV9),Lib.hid HGR.out.1,Lib.hid HGR.out.2.1⟩
     have q1:(kx == 1)=false:=by simpa using hk1
     have q3:(kx == 3)=false:=by simpa using hk3
     rw [show contV U L (x1,x2)=⟨#[]⟩ by unfold contV;rw [if_neg (by rw [HKE.out];exact hk1),if_neg (by rw [HKE.out];exact hk3)]] at HLI
     obtain ⟨l0,l1,l2,l3⟩:=HLL.out
     go_upto_region 14 with fail
     clear l0 l1 l2 l3 q1 q3
     obtain ⟨ws,rfl⟩:∃ x,x=wl:=⟨_,rfl⟩
     have HSZ:=Lib.hid HPOS.out.2.2.2.2.2.1
     by_cases hk2:kx=2
     ·as_aux_lemma =>
      subst hk2
      obtain ⟨l0,l1,l2,l3⟩:=HLL.out
      have HOX:=Lib.hid (fun ob=>HOL.out.below (bel_alloc ws ob))
      have HSP:=Lib.hid (fun ob=>show p≤(ws.alloc ob).heap.size from by rw [World.size_alloc];have:=HPOS.out;have:=HSZ.out;omega)
      have HGW:=Lib.hid (fun ob (W:World) (v:Value) (hg:(ws.alloc ob).grownBy W s9.ownBlock) (ho:v.ownBlock=s9.ownBlock∨v.ownBlock=some (ws.alloc ob).heap.size)=>show Tn w3 W p (.slice (some ⟨p,0,none⟩) 0 0) v∧Below w.heap.size w W∧R4 W g D1 D2 u l∧Nb W gx (x1,x2)∧L3 W gl tx 2 ⟨#[]⟩ from by
       have h1:Tn ws W p s9 v:=(Tn.bel (bl:=p) (A:=s9) (bel_alloc ws ob)).trans (Tn.grow hg ho)
       have h2:=HPOS.out
       exact ⟨HTW.out.trans h1,grown_bel (bel_step HBW.out (bel_alloc ws ob)) hg (fun k e=>by have:=HOWN.out k e;omega),h1.r4 HRL.out (by omega) (fun e=>by have:=HOWN.out _ e;omega),h1.nb HXL.out (by omega) (fun e=>by have:=HOWN.out _ e;omega),HLL.out.same (h1.blk gl HSZ.out (by omega) (fun e=>by have:=HOWN.out _ e;omega))⟩)
      go_wp2_with (first|(at_builtin;go_must (refine wpList_append_own_at _ rfl (.tmp 81) (.tmp 83) 70 rfl p 104 i0 _ 3 40 Tryz.underlying70 hi hz0 hz1 hz2 rfl (by decide) s9 XR.length (lcs XR) rfl (HOX.out _) ⟨ws.heap.size,0,none⟩ 1 1 [.string tx,.int .i64 2,.string ⟨#[]⟩] rfl rfl (cell_three_new _ _ _ _ _) (by intro u hu;simp at hu;rcases hu with rfl|rfl|rfl <;> rfl) (by have:=HXL1.out;unfold maxLen;omega) (by have:=HXL1.out;omega) (HSP.out _) ?_;intro v9 wv hown hgr _ ho;have HV9:=Lib.hid (LO.of (x:=⟨tx,2,⟨#[]⟩⟩) hown);have HGR:=Lib.hid (HGW.out _ _ _ hgr ho);obtain ⟨-,-,⟨k0,k1,k2,k3⟩,⟨m0,m1⟩,⟨l0v,l1v,-,-⟩⟩:=HGR.out;dsimp only at m0 m1;clear hown hgr ho))|fail)
      have HIH:=IH.out (x1,x2) tx wv HC.out HD3.out HTZ.out (by have:=HXL1.out;omega) (bel_step HB0.out HGR.out.2.1)
      rw [← HQ1.out] at HIH
      obtain ⟨Y5,hY5⟩:∃ Y,linesV U L d (x1,x2) tx=Y:=⟨_,rfl⟩
      rw [hY5] at HIH HLI HXL1
      unfold BelE at HIH
      refine HIH.mono ?_
      rintro _ wb ⟨A5,c5,rfl,hl5,hb5⟩
      have HV9b:=HV9.out.below hb5
      obtain ⟨v7,w7,hr7,ho7,hg7,he7⟩:=app_lo HV9b hl5 (by rw [List.length_append];simp only [List.length_cons,List.length_nil];have:=HXL1.out;omega) (by have h1:=HGR.out.1.size;have h2:=hb5.size;have:=HPOS.out;omega)
      have HQ7:=Lib.hid hr7
      have HT7:=Lib.hid ((HGR.out.1.trans (Tn.bel (bl:=p) (A:=v9) hb5)).trans (Tn.grow hg7 he7))
      have HB7:=Lib.hid (grown_bel (bel_step HGR.out.2.1 hb5) hg7 (fun k e=>by have h1:=(HV9b.lt e).1;have:=HPOS.out;omega))
      have HO7:=Lib.hid (show LO w7 p v7 (XR++(⟨tx,2,⟨#[]⟩⟩::Y5)) by have:=ho7;rw [List.append_assoc] at this;exact this)
      clear hr7 ho7 hg7 he7 hb5 hl5 HV9b HIH k0 k1 k2 k3 m0 m1 l0v l1v
      go_wp2_with (first|(at_builtin;refine Lib.wpList_append_run _ rfl (.tmp 88) (.tmp 95) 70 70 rfl _ _ rfl rfl _ _ HQ7.out ?_)|fail)
      go_roundg (gk - 1)
      case measure=>omega
      case rel=>exact ⟨j+1,v7,by omega,rfl,by go_num,(by rw [HTL.out,HLI.out];exact HO7),HT7,HB7⟩
     ·as_aux_lemma =>
      have q2:(kx == 2)=false:=by simpa using hk2
      rw [linesV_leaf (by rw [HKE.out];exact hk2)] at HLI
      obtain ⟨l0,l1,l2,l3⟩:=HLL.out
      have HOX:=Lib.hid (fun ob=>HOL.out.below (bel_alloc ws ob))
      have HSP:=Lib.hid (fun ob=>show p≤(ws.alloc ob).heap.size from by rw [World.size_alloc];have:=HPOS.out;have:=HSZ.out;omega)
      have HGW:=Lib.hid (fun ob (W:World) (v:Value) (hg:(ws.alloc ob).grownBy W s9.ownBlock) (ho:v.ownBlock=s9.ownBlock∨v.ownBlock=some (ws.alloc ob).heap.size)=>show Tn w3 W p (.slice (some ⟨p,0,none⟩) 0 0) v∧Below w.heap.size w W∧R4 W g D1 D2 u l∧Nb W gx (x1,x2)∧L3 W gl tx kx ⟨#[]⟩ from by
       have h1:Tn ws W p s9 v:=(Tn.bel (bl:=p) (A:=s9) (bel_alloc ws ob)).trans (Tn.grow hg ho)
       have h2:=HPOS.out
       exact ⟨HTW.out.trans h1,grown_bel (bel_step HBW.out (bel_alloc ws ob)) hg (fun k e=>by have:=HOWN.out k e;omega),h1.r4 HRL.out (by omega) (fun e=>by have:=HOWN.out _ e;omega),h1.nb HXL.out (by omega) (fun e=>by have:=HOWN.out _ e;omega),HLL.out.same (h1.blk gl HSZ.out (by omega) (fun e=>by have:=HOWN.out _ e;omega))⟩)
      go_wp2_with (first|(at_builtin;go_must (refine wpList_append_own_at _ rfl (.tmp 81) (.tmp 83) 70 rfl p 104 i0 _ 3 40 Tryz.underlying70 hi hz0 hz1 hz2 rfl (by decide) s9 XR.length (lcs XR) rfl (HOX.out _) ⟨ws.heap.size,0,none⟩ 1 1 [.string tx,.int .i64 kx,.string ⟨#[]⟩] rfl rfl (cell_three_new _ _ _ _ _) (by intro u hu;simp at hu;rcases hu with rfl|rfl|rfl <;> rfl) (by have:=HXL1.out;unfold maxLen;omega) (by have:=HXL1.out;omega) (HSP.out _) ?_;intro v9 wv hown hgr _ ho;have HV9:=Lib.hid (LO.of (x:=⟨tx,kx,⟨#[]⟩⟩) hown);have HGR:=Lib.hid (HGW.out _ _ _ hgr ho);have l1v:=HGR.out.2.2.2.2.c1;clear hown hgr ho))|fail)
      go_roundg (gk - 1)
      case measure=>omega
      case rel=>exact ⟨j+1,v9,by omega,rfl,by go_num,(by rw [HTL.out,HLI.out];exact HV9),Lib.hid HGR.out.1,Lib.hid HGR.out.2.1⟩
end Go.Proofs.YtgoddboicjfkcaaGreat.fl
