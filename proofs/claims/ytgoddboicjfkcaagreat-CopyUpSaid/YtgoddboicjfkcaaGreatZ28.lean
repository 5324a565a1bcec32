/- Contracts and mathematics, part 28. -/
import Derived.Test.YtgoddboicjfkcaaGreatZ27
import Derived.Test.YtgoddboicjfkcaaGreatZ23
set_option linter.unusedVariables false
set_option linter.unusedSimpArgs false
set_option maxRecDepth 100000
set_option maxHeartbeats 8000000
namespace Go.Proofs.YtgoddboicjfkcaaGreat
namespace fl
open Go.RowKit
open dn (En lget lset ldel nerr dotB Sorted lessB)
open br (BS Ino Inv Tree sumF)
open cb (BrX RetW RetI No)
open bl (Pq)
open mg (Nd Nv Vx Nb opq kindV lstV belV seenV pairV getV rootV AllV NR QB readN targN ReadN AllE bel_step bel_alloc grown_bel grown_set set_below set_size heap_set Vd Rv R4 R4.lo Nb.lo rkind_any rget_any rall_any rread_any rtarget_any rd_doc rdN RdE)
theorem linesV_leaf {U L:BS} {n:Nd} (h:kindV U L n≠2):∀(d:Nat) (at_:ByteArray),linesV U L d n at_=[]
 | 0,_=>rfl
 | d+1,at_=>by
  have hl:lstV U L n≠0:=by unfold lstV;by_cases e:kindV U L n=0;rw [Jb e];decide;rw [Ja e,Ja h];decide
  rw [linesV_succ (AllV.none hl)];rfl
theorem contV_rd {U L:BS} {n:Nd} (h:kindV U L n=1):contV U L n=(rdN U L n 0 65536).2:=by
 unfold contV rdN
 rw [Jb h,Ja (by rw [h];decide)]
theorem app_lo {w:World} {base lo c:Nat} {v:Value} {A:Option Addr} {X Y:List Ln} (hown:LO w base v X) (h:LO w lo (.slice A Y.length c) Y) (hN:X.length+Y.length≤8000000) (hb:base≤w.heap.size) :
  ∃v' w',(Builtin.append_ #[70,70] 70 #[v,.slice A Y.length c]).run Tryz.prog w=.ok v' w'∧LO w' base v' (X++Y)∧w.grownBy w' v.ownBlock∧(v'.ownBlock=v.ownBlock∨v'.ownBlock=some w.heap.size):=by
 obtain ⟨i0,hi,hz0,hz1,hz2⟩:=info_parts79
 rcases h.2 with ⟨h0,h1⟩|⟨g,cap,cur,hv,_⟩
 ·injection h0 with a1 a2 a3
  subst a1
  have hY:Y=[]:=List.eq_nil_of_length_eq_zero h1
  subst hY
  rw [List.append_nil]
  refine ⟨v,w,?_,hown,World.grownBy.refl w _,.inl rfl⟩
  obtain ⟨A,c',rfl,hs,hle⟩:∃A c',v=.slice A X.length c'∧True∧X.length≤c':=by
   rcases hown.2 with ⟨e1,e2⟩|⟨g,cap,cur,e1,e2,e3,e4,e5⟩
   ·exact ⟨none,0,by rw [e1,e2],trivial,by rw [e2];exact Nat.le_refl _⟩
   ·exact ⟨_,cap,e1,trivial,e4⟩
  simp [hle,Builtin.append_,run_underlying Tryz.underlying70,sizeOf,typeInfo,hi,Builtin.lenOf,Builtin.firstCells,storeCells]
  cases A <;> rfl
 ·injection hv with a1 a2 a3
  subst a1
  obtain ⟨v',w',h1,h2,h3,_,h5⟩:=run_append_own_at (P:=Tryz.prog) w base 70 70 104 i0 _ 3 40 Tryz.underlying70 hi hz0 hz1 hz2 rfl (by decide) v X.length (lcs X) hown ⟨g,0,none⟩ Y.length c (lcs Y) (lcs_len Y) (fun j u hu=>by
   have:=h.cells (g:=g) rfl j u hu
   simpa [Addr.add] using this) (fun u hu=>by
    unfold lcs at hu
    obtain ⟨x,_,hx⟩:=List.mem_flatMap.1 hu
    unfold lc at hx
    simp at hx
    rcases hx with rfl|rfl|rfl <;> rfl) (by unfold maxLen;omega) (by omega) hb
  refine ⟨v',w',h1,?_,h3,h5⟩
  unfold LO
  rw [List.length_append,lcs_app]
  exact h2
structure L3 (w:World) (g:Nat) (p:ByteArray) (k:Int) (d:ByteArray):Prop where
 c0:w.cell? ⟨g,0,none⟩=some (.string p)
 c1:w.cell? ⟨g,1,none⟩=some (.int .i64 k)
 c2:w.cell? ⟨g,2,none⟩=some (.string d)
 f2:w.frozen? ⟨g,2,none⟩=false
theorem L3.new (w:World) (p:ByteArray) (k:Int) (d:ByteArray):L3 (w.alloc (.cells #[.string p,.int .i64 k,.string d] 104)) w.heap.size p k d:=⟨by simp,by simp,by simp,by simp⟩
theorem L3.lt {w:World} {g:Nat} {p:ByteArray} {k:Int} {d:ByteArray} (h:L3 w g p k d):g<w.heap.size:=World.block_lt_of_cell? _ _ h.c0
theorem L3.same {w w':World} {g:Nat} {p:ByteArray} {k:Int} {d:ByteArray} (h:L3 w g p k d) (e:w'.heap[g]?=w.heap[g]?):L3 w' g p k d :=
 ⟨(World.cell?_of_block (a:=⟨g,0,none⟩) e).trans h.c0,(World.cell?_of_block (a:=⟨g,1,none⟩) e).trans h.c1,(World.cell?_of_block (a:=⟨g,2,none⟩) e).trans h.c2,(World.frozen?_of_block (a:=⟨g,2,none⟩) e).trans h.f2⟩
theorem L3.below {w w':World} {g:Nat} {p:ByteArray} {k:Int} {d:ByteArray} (h:L3 w g p k d) (hb:Below w.heap.size w w'):L3 w' g p k d:=h.same (hb.block g h.lt)
theorem L3.set {w:World} {g:Nat} {p:ByteArray} {k:Int} {d:ByteArray} (h:L3 w g p k d) (s:ByteArray):L3 (w.setCell ⟨g,2,none⟩ (.string s)) g p k s :=
 ⟨by rw [World.cell?_setCell_other _ _ _ _ (fun e=>by injection e with _ e;cases e)];exact h.c0,by rw [World.cell?_setCell_other _ _ _ _ (fun e=>by injection e with _ e;cases e)];exact h.c1,
  World.cell?_setCell_same' _ _ _ (by rw [h.c2];rfl),by simp [h.f2]⟩
theorem Tn.r4 {w w':World} {bl g D1 D2:Nat} {A A':Value} {u l:Int} (h:Tn w w' bl A A') (hn:R4 w g D1 D2 u l) (h1:g≠bl) (h2:A.ownBlock≠some g):R4 w' g D1 D2 u l :=
 ⟨(World.cell?_of_block (a:=⟨g,0,none⟩) (h.blk g hn.lt h1 h2)).trans hn.c0,(World.cell?_of_block (a:=⟨g,1,none⟩) (h.blk g hn.lt h1 h2)).trans hn.c1,(World.cell?_of_block (a:=⟨g,2,none⟩) (h.blk g hn.lt h1 h2)).trans hn.c2,(World.cell?_of_block (a:=⟨g,3,none⟩) (h.blk g hn.lt h1 h2)).trans hn.c3⟩
theorem Tn.grow {w w':World} {bl:Nat} {A A':Value} (hg:w.grownBy w' A.ownBlock) (ho:A'.ownBlock=A.ownBlock∨A'.ownBlock=some w.heap.size):Tn w w' bl A A' :=
 ⟨hg.size,fun g h1 _ h3=>hg.block g h1 h3.symm,fun k e=>by
  rcases ho with e2|e2
  ·exact .inl (e2▸e)
  ·exact .inr (by rw [e2] at e;injection e with e;omega)⟩
theorem Nb.set2 {w:World} {g:Nat} {a b:Int} (h0:(w.cell? ⟨g,0,none⟩).isSome=true) (h1:(w.cell? ⟨g,1,none⟩).isSome=true):Nb ((w.setCell ⟨g,0,none⟩ (.int .i64 a)).setCell ⟨g,1,none⟩ (.int .i64 b)) g (a,b) :=
 ⟨by rw [World.cell?_setCell_other _ _ _ _ (fun e=>by injection e with _ e;cases e)];exact World.cell?_setCell_same' _ _ _ h0,
  World.cell?_setCell_same' _ _ _ (by rw [World.cell?_setCell_other _ _ _ _ (fun e=>by injection e with _ e;cases e)];exact h1)⟩
theorem L3.set3 {w:World} {g:Nat} {p:ByteArray} {k:Int} {d:ByteArray} (h0:(w.cell? ⟨g,0,none⟩).isSome=true) (h1:(w.cell? ⟨g,1,none⟩).isSome=true) (h2:(w.cell? ⟨g,2,none⟩).isSome=true) (f2:w.frozen? ⟨g,2,none⟩=false) :
  L3 (((w.setCell ⟨g,0,none⟩ (.string p)).setCell ⟨g,1,none⟩ (.int .i64 k)).setCell ⟨g,2,none⟩ (.string d)) g p k d:=by
 have n1:(⟨g,1,none⟩:Addr)≠⟨g,0,none⟩:=fun e=>by injection e with _ e;cases e
 have n2:(⟨g,2,none⟩:Addr)≠⟨g,0,none⟩:=fun e=>by injection e with _ e;cases e
 have n3:(⟨g,2,none⟩:Addr)≠⟨g,1,none⟩:=fun e=>by injection e with _ e;cases e
 refine ⟨?_,?_,World.cell?_setCell_same' _ _ _ ?_,by simp [f2]⟩
 ·rw [World.cell?_setCell_other _ _ _ _ n2,World.cell?_setCell_other _ _ _ _ n1];exact World.cell?_setCell_same' _ _ _ h0
 ·rw [World.cell?_setCell_other _ _ _ _ n3];exact World.cell?_setCell_same' _ _ _ (by rw [World.cell?_setCell_other _ _ _ _ (Ne.symm n1)];exact h1)
 ·rw [World.cell?_setCell_other _ _ _ _ (Ne.symm n3),World.cell?_setCell_other _ _ _ _ (Ne.symm n2)];exact h2
theorem Tn.lo {w w' w2:World} {bl X:Nat} {A A':Value} (h:Tn w w' bl A A') (hb:Below X w' w2) (hX:w.heap.size≤X):Tn w w2 bl A A' :=
 ⟨Nat.le_trans h.size hb.size,fun g h1 h2 h3=>(hb.block g (Nat.lt_of_lt_of_le h1 hX)).trans (h.blk g h1 h2 h3),h.row⟩
def BelE (w:World) (X:List Ln) (e:Ending) (w':World):Prop:=∃A c,e=.returned (.slice A X.length c)∧LO w' w.heap.size (.slice A X.length c) X∧Below w.heap.size w w'
theorem rbelow_any {w0:World} {D1 D2:Nat} {u l:Int} {U L:BS} {r1 r2:Nat} (hv:Vd w0 D1 D2 U L) (hU:Inv U r1) (hL:Inv L r2) {dU dL:Nat→Nat} (hdU:Deep U dU) (hdL:Deep L dL) (hA:∀n,∃ns,AllV U L n ns) :
  ∀(d:Nat) (n:Nd) (at_:ByteArray) (w:World),hN U L dU dL n<d→d≤300→at_.size+61*d≤30000→(linesV U L d n at_).length≤4000000→Below w0.heap.size w0 w →
   Calls Tryz.prog 112 #[Rv D1 D2 u l,Nv n,.string at_,.int .i64 (300 - (d:Int))] w (BelE w (linesV U L d n at_))
 | 0,n,at_,w,hd,_,_,_,_=>absurd hd (Nat.not_lt_zero _)
 | d+1,(n1,n2),at_,w,hd,h300,hat,hlen,hb0=>by
  have IH:=Qa (rbelow_any (u:=u) (l:=l) hv hU hL hdU hdL hA d)
  have HI:=Qa (And.intro hU hL)
  have Xz:=Qa hat
  have Yd:=Qa hlen
  have Ye:=Qa (fun s (h:(getV U L (n1,n2) s).2=0)=>Nat.lt_of_lt_of_le (hN_child hU hL hdU hdL (n1,n2) s h) (Nat.le_of_lt_succ hd))
  obtain ⟨ns,hns⟩:=hA (n1,n2)
  have Yf:=Qa hns
  have Yg:=Qa hns.mem
  have X0:=Qa (linesV_succ (d:=d) (at_:=at_) hns)
  obtain ⟨q,hq⟩:∃q:Int,300 - ((d+1:Nat):Int)=q:=⟨_,rfl⟩
  have mb:q<300:=by omega
  have jb:0≤q:=by omega
  have Yh:=Qa (show q+1=300 - (d:Int) by omega)
  have Yi:=Qa (show d≤300 by omega)
  rw [hq]
  have HF:=Qa (show ∀w1,(w.alloc (.cells #[Pq D1,Pq D2,.int .i64 u,.int .i64 l] 36)).alloc (.cells #[.int .i64 n1,.int .i64 n2] 24)=w1→Below w.heap.size w w1∧R4 w1 w.heap.size D1 D2 u l∧Nb w1 (w.heap.size+1) (n1,n2)∧w1.heap.size=w.heap.size+1+1 from fun w1 hw1=>by
   rw [←hw1]
   refine ⟨bel_step (bel_alloc _ _) (bel_alloc _ _),(R4.new w D1 D2 u l).below (bel_alloc _ _),?_,by rw [World.size_alloc,World.size_alloc]⟩
   have:=Nb.new (w.alloc (.cells #[Pq D1,Pq D2,.int .i64 u,.int .i64 l] 36)) n1 n2
   rwa [World.size_alloc] at this)
  have Xd:=Qa (fun W (hb:Below w.heap.size w W)=>hv.below (bel_step hb0 hb))
  have Yj:=Qa hb0
  have HG:=Qa (fun W (hb:Below w.heap.size w W) s=>rget_any (u:=u) (l:=l) (Xd.out W hb) (n1,n2) s)
  have HA:=Qa (fun W (hb:Below w.heap.size w W)=>rall_any (u:=u) (l:=l) (Xd.out W hb) (n1,n2) ns hns)
  have HK:=Qa (fun W (hb:Below w.heap.size w W) x=>rkind_any (u:=u) (l:=l) (Xd.out W hb) x)
  have HT:=Qa (fun W (hb:Below w.heap.size w W) x=>rtarget_any (u:=u) (l:=l) (Xd.out W hb) x)
  have HR:=Qa (fun W (hb:Below w.heap.size w W) x=>(rread_any (u:=u) (l:=l) (Xd.out W hb) x 0 65536).mono fun _ _ h=>rd_doc h)
  unfold RetI at HK
  unfold RdE at HR
  unfold AllE at HA
  obtain ⟨PQ,hPQ⟩:∃P,BelE w (linesV U L (d+1) (n1,n2) at_)=P:=⟨_,rfl⟩
  have HE:=Qa (show ∀W A c Y,Y=linesV U L (d+1) (n1,n2) at_→LO W w.heap.size (.slice A Y.length c) Y→Below w.heap.size w W→PQ (.returned (.slice A Y.length c)) W from fun W A c Y e a b=>by subst e;rw [←hPQ];exact ⟨A,c,rfl,a,b⟩)
  rw [hPQ]
  obtain ⟨g,hg⟩:∃g,w.heap.size=g:=⟨_,rfl⟩
  have X3:=Qa hg
  rw [hg] at HF
  clear hd h300 hat hlen hU hL hdU hdL hv hA hb0 hns hq hPQ
  go_enter Tryz.func112,Tryz.ntmps112
  go_upto_region 1 with fail
  generalize hw1:(w.alloc (.cells #[Pq D1,Pq D2,.int .i64 u,.int .i64 l] 36)).alloc (.cells #[.int .i64 n1,.int .i64 n2] 24)=w1
  obtain ⟨sa,da,hn1,ma⟩:=HF.out w1 hw1
  have Qy:=Qa (show Below w.heap.size w w1 by rw [X3.out];exact sa)
  have X4:=Qa da
  have X5:=Qa hn1
  obtain ⟨p,hp⟩:∃p,w1.heap.size=p:=⟨_,rfl⟩
  have HP:=Qa (show g+1<p∧w.heap.size≤p by have:=X3.out;omega)
  obtain ⟨w2,hw2⟩:∃w2,w1.alloc (.cells #[] 104)=w2:=⟨_,rfl⟩
  have ya:Below w1.heap.size w1 w2:=by rw [←hw2];exact bel_alloc _ _
  have X6:=Qa (show LO w2 p (.slice (some ⟨p,0,none⟩) 0 0) [] from ⟨rfl,.inr ⟨p,0,#[],rfl,Nat.le_refl _,by rw [←hw2,←hp];exact heap_alloc_new w1 _,Nat.le_refl _,by unfold maxLen;omega,rfl,rfl⟩⟩)
  have Xn:=Qa (bel_step Qy.out ya)
  have Xo:=Qa (X4.out.below ya)
  have Xp:=Qa (X5.out.below ya)
  have X7:=Qa (show p<w2.heap.size by rw [←hw2,World.size_alloc,hp];exact Nat.lt_succ_self _)
  clear sa da hn1 ma ya HF hw1 Qy X4 X5
  go_upto_region 2 with fail
  try rw [hp]
  try rw [hw2]
  clear hp hw2
  obtain ⟨k0,k1,k2,k3⟩:=Xo.out
  obtain ⟨m0,m1⟩:=Xp.out
  dsimp only at m0 m1
  go_wp2_with fail
  refine (HA.out _ Xn.out).mono ?_
  rintro _ w3 ⟨AA,cA,ll,rfl,hal,hnr,hk1,hk2,hk3,hb3⟩
  obtain rfl:=hal.same Yf.out
  have Yk:=Qa (bel_step Xn.out hb3)
  have Yl:=Qa (Xo.out.below hb3)
  have Ym:=Qa (Xp.out.below hb3)
  have Yo:=Qa (X6.out.below hb3)
  have X8:=Qa hnr
  obtain ⟨lo,hlo⟩:∃x,w2.heap.size=x:=⟨_,rfl⟩
  rw [hlo] at X8
  have Xq:=Qa (show p<lo∧lo≤w3.heap.size from ⟨by rw [←hlo];exact X7.out,by rw [←hlo];exact hb3.size⟩)
  obtain ⟨m,hm⟩:∃m,ll.length=m:=⟨_,rfl⟩
  have HM:=Qa hm
  rw [hm] at hk1 hk3
  have la:=hm
  rw [hm]
  have Yp:=Qa (show ∀j,j<m→∃x,ll[j]?=some x from fun j hj=>⟨ll[j]'(by have:=HM.out;omega),List.getElem?_eq_getElem _⟩)
  clear hal hnr hb3 HA Xn Xo Xp X6 X7 hlo k0 k1 k2 k3 m0 m1 hm la
  go_upto_region 4 with fail
  go_loopg [9,12] m (fun gh v9 s12 wr=>∃(j:Nat) (s9:Value),gh+j=m∧s9=v9∧s12=.int .i64 j∧Hid (LO wr p s9 ((ll.take j).flatMap (linesN U L d (n1,n2) at_)))∧Hid (Tn w3 wr p (.slice (some ⟨p,0,none⟩) 0 0) s9)∧Hid (Below w.heap.size w wr))
  case atStart=>exact ⟨0,_,by omega,rfl,rfl,by simpa using Yo,Qa (Tn.refl _ _ _),Yk⟩
  case round =>
   obtain ⟨j,s9,hgj,rfl,rfl,Qz,Xb,Xe⟩:=hrel
   by_cases hj:j<m
   case neg =>
    obtain rfl:j=m:=by omega
    have X9:=Qa (show (ll.take j).flatMap (linesN U L d (n1,n2) at_)=linesV U L (d+1) (n1,n2) at_ by rw [X0.out,List.take_of_length_le (by rw [HM.out];exact Nat.le_refl _)])
    obtain ⟨Af,cf,rfl⟩:∃A c,s9=.slice A ((ll.take j).flatMap (linesN U L d (n1,n2) at_)).length c:=by
     rcases Qz.out.2 with ⟨e1,e2⟩|⟨g,cap,cur,e1,_⟩
     ·exact ⟨none,0,by rw [e1,e2]⟩
     ·exact ⟨_,cap,e1⟩
    have ga:=HE.out wr Af cf _ X9.out ⟨Qz.out.1,Qz.out.2.imp id fun ⟨g,a,b,c,d,e⟩=>⟨g,a,b,c,Nat.le_trans HP.out.2 d,e⟩⟩ Xe.out
    clear X9
    generalize ((ll.take j).flatMap (linesN U L d (n1,n2) at_)).length=zl at *
    go_wp2_with fail
    exact ga
   obtain ⟨s,hs⟩:=Yp.out j hj
   have ja:=(Yg.out s).1 (List.mem_of_getElem? hs)
   have ba:=name_size HI.out.1 HI.out.2 ja
   have HC:=Qa (Ye.out s ja)
   have Xc:=Qa (show (ll.take (j+1)).flatMap (linesN U L d (n1,n2) at_)=(ll.take j).flatMap (linesN U L d (n1,n2) at_)++linesN U L d (n1,n2) at_ s by rw [List.take_add_one,hs,List.flatMap_append];simp)
   have Ya:=Qa (show ((ll.take j).flatMap (linesN U L d (n1,n2) at_)).length+(linesN U L d (n1,n2) at_ s).length≤4000000 by
    rw [←List.length_append,←Xc.out]
    have h1:=Yd.out
    rw [X0.out] at h1
    refine Nat.le_trans ?_ h1
    conv=>rhs;rw [←List.take_append_drop (j+1) ll,List.flatMap_append,List.length_append]
    omega)
   obtain ⟨XR,hXR⟩:∃Y,(ll.take j).flatMap (linesN U L d (n1,n2) at_)=Y:=⟨_,rfl⟩
   rw [hXR] at Qz Xc Ya
   have Yb:=Qa (Xb.out.nr X8.out Xq.out.1 (fun k e=>by simp [Value.ownBlock] at e;have:=Xq.out.1;omega))
   have Xr:=Qa (Xb.out.nb Ym.out (by have:=HP.out;omega) (fun e=>by simp [Value.ownBlock] at e;have:=HP.out;omega))
   have Qt:=Qa (Xb.out.r4 Yl.out (by have:=HP.out;omega) (fun e=>by simp [Value.ownBlock] at e;have:=HP.out;omega))
   obtain ⟨GN,hAA,hG1,hG2,e1,-⟩:=Yb.out j s hs
   subst hAA
   have Xf:=Qa (fun W (hb:Below wr.heap.size wr W)=>HG.out W (bel_step Xe.out hb) s)
   have Qh:=Qa (show linesN U L d (n1,n2) at_ s=⟨at_++slB++s,kindV U L (getV U L (n1,n2) s).1,contV U L (getV U L (n1,n2) s).1⟩::linesV U L d (getV U L (n1,n2) s).1 (at_++slB++s) from rfl)
   obtain ⟨gv,hgv⟩:∃r,getV U L (n1,n2) s=r:=⟨_,rfl⟩
   rw [hgv] at Xf Qh HC ja
   obtain ⟨⟨x1,x2⟩,ge⟩:=gv
   dsimp only at Xf Qh HC ja
   subst ja
   have fa:at_.size≤30000:=by have:=Xz.out;omega
   obtain ⟨tx,qa⟩:∃t,at_++⟨#[47]⟩++s=t:=⟨_,rfl⟩
   have Yq:=Qa (show tx.size+61*d≤30000 by rw [←qa,ByteArray.size_append,ByteArray.size_append];have:=Xz.out;have h1:(⟨#[47]⟩:ByteArray).size=1:=rfl;omega)
   rw [show at_++slB++s=tx from qa] at Qh
   have Yr:=Qa qa
   have Xs:=Qa (fun W (hb:Below wr.heap.size wr W)=>(hb.cell (p:=⟨GN,j,none⟩) hG2).trans e1)
   have Yw:=Qa (show s9.ownBlock≠none→∀k,s9.ownBlock=some k→p≤k∧k<wr.heap.size from fun _ k e=>Qz.out.lt e)
   clear hs hgv hG1 hXR Yb qa
   go_upto_region 6 with fail
   go_cut [13,14] from 27 to 96 (fun va vb wx=>∃G,va=.pointer (some ⟨G,0,none⟩)∧vb=.int .i64 0∧Hid (Below wr.heap.size wr wx)∧Hid (Nb wx G (x1,x2))∧Hid (wr.heap.size≤G))
   case first =>
    as_aux_lemma =>
    have Qm:=Qa (fun W (hb:Below wr.heap.size wr W)=>show W.cell? ⟨g,0,none⟩=some (Pq D1)∧W.cell? ⟨g,1,none⟩=some (Pq D2)∧W.cell? ⟨g,2,none⟩=some (.int .i64 u)∧W.cell? ⟨g,3,none⟩=some (.int .i64 l)∧W.cell? ⟨g+1,0,none⟩=some (.int .i64 n1)∧W.cell? ⟨g+1,1,none⟩=some (.int .i64 n2)∧W.cell? ⟨GN,j,none⟩=some (.string s) from ⟨(Qt.out.below hb).c0,(Qt.out.below hb).c1,(Qt.out.below hb).c2,(Qt.out.below hb).c3,(Xr.out.below hb).c0,(Xr.out.below hb).c1,Xs.out W hb⟩)
    have S0:=Qm.out wr (Below.refl _ _)
    have Xg:=Qa (bel_alloc wr (.cells #[.int .i64 0,.int .i64 0] 24))
    have Xh:=Qa (bel_step Xg.out (Below.refl _ (wr.alloc (.cells #[.int .i64 0,.int .i64 0] 24))).drew)
    have SA:=Qm.out _ Xg.out
    have Xt:=Qa (Xf.out wr.drew (Below.refl wr.heap.size wr).drew)
    have Xu:=Qa (Xf.out (wr.alloc (.cells #[.int .i64 0,.int .i64 0] 24)).drew Xh.out)
    have Xv:=Qa (show (wr.alloc (.cells #[.int .i64 0,.int .i64 0] 24)).drew.cell? ⟨wr.heap.size,0,none⟩=some (.int .i64 0)∧(wr.alloc (.cells #[.int .i64 0,.int .i64 0] 24)).drew.cell? ⟨wr.heap.size,1,none⟩=some (.int .i64 0)∧(wr.alloc (.cells #[.int .i64 0,.int .i64 0] 24)).drew.frozen? ⟨wr.heap.size,0,none⟩=false∧(wr.alloc (.cells #[.int .i64 0,.int .i64 0] 24)).drew.frozen? ⟨wr.heap.size,1,none⟩=false∧wr.heap.size<(wr.alloc (.cells #[.int .i64 0,.int .i64 0] 24)).drew.heap.size from ⟨by simp,by simp,by simp,by simp,by simp⟩)
    have kb:((j:Nat):Int)<(m:Int):=by omega
    go_region_held3 (fun W=>W.cell? ⟨g,0,none⟩=some (Pq D1)∧W.cell? ⟨g,1,none⟩=some (Pq D2)∧W.cell? ⟨g,2,none⟩=some (.int .i64 u)∧W.cell? ⟨g,3,none⟩=some (.int .i64 l)∧W.cell? ⟨g+1,0,none⟩=some (.int .i64 n1)∧W.cell? ⟨g+1,1,none⟩=some (.int .i64 n2)∧W.cell? ⟨GN,j,none⟩=some (.string s))
     (first|with_reducible exact S0|with_reducible exact S5|with_reducible exact SA|with_reducible exact ST|assumption|go_keep)
     (first
      | (go_at_call 18;((with_reducible refine Xt.out.mono ?_);rintro _ w5 ⟨rfl,hb5⟩;have Qi:=Qa (bel_step (Below.refl wr.heap.size wr).drew hb5);have S5:=Qm.out w5 Qi.out;have Xw:=Qa (show ∃G,w5.heap.size=G∧Below wr.heap.size wr (w5.alloc (.cells #[.int .i64 x1,.int .i64 x2] 24))∧Nb (w5.alloc (.cells #[.int .i64 x1,.int .i64 x2] 24)) G (x1,x2)∧wr.heap.size≤G from ⟨_,rfl,bel_step Qi.out (bel_alloc _ _),Nb.new w5 x1 x2,Qi.out.size⟩);clear hb5))
      | (go_at_call 18;((with_reducible refine Xu.out.mono ?_);rintro _ w5 ⟨rfl,hb5⟩;have Qi:=Qa (bel_step Xh.out hb5);have S5:=Qm.out w5 Qi.out;obtain ⟨z0,z1,f0,f1,hz⟩:=Xv.out;replace z0:=(hb5.cell (p:=⟨wr.heap.size,0,none⟩) hz).trans z0;replace z1:=(hb5.cell (p:=⟨wr.heap.size,1,none⟩) hz).trans z1;replace f0:=(World.frozen?_of_block (a:=⟨wr.heap.size,0,none⟩) (hb5.block _ hz)).trans f0;replace f1:=(World.frozen?_of_block (a:=⟨wr.heap.size,1,none⟩) (hb5.block _ hz)).trans f1;have Xi:=Qa (show Below wr.heap.size wr ((w5.setCell ⟨wr.heap.size,0,none⟩ (.int .i64 x1)).setCell ⟨wr.heap.size,1,none⟩ (.int .i64 x2)) from set_below (set_below Qi.out (Nat.le_refl _) _) (Nat.le_refl _) _);have ST:=Qm.out _ Xi.out;have Xx:=Qa (show Nb ((w5.setCell ⟨wr.heap.size,0,none⟩ (.int .i64 x1)).setCell ⟨wr.heap.size,1,none⟩ (.int .i64 x2)) wr.heap.size (x1,x2) from Nb.set2 (by rw [z0];rfl) (by rw [z1];rfl));clear hb5)))
    all_goals
     go_wp2_with fail
     go_meet
     case rel=>first|exact ⟨_,rfl,rfl,Xi,Xx,Qa (Nat.le_refl _)⟩|(obtain ⟨G,hG,h1,h2,h3⟩:=Xw.out;subst hG;exact ⟨_,rfl,rfl,Qa h1,Qa h2,Qa h3⟩)
   case rest =>
    obtain ⟨gx,rfl,rfl,Q2,Xj,Yc⟩:=hcut
    obtain ⟨wq,rfl⟩:∃x,x=wc:=⟨_,rfl⟩
    have Xm:=Qa (fun W (hb:Below wq.heap.size wq W)=>HK.out W (bel_step Xe.out (bel_step Q2.out hb)) (x1,x2))
    obtain ⟨kx,hkx⟩:∃k,kindV U L (x1,x2)=k:=⟨_,rfl⟩
    rw [hkx] at Xm Qh
    have Q3:=Qa hkx
    clear hkx
    go_upto_region 7 with fail
    go_cut [15] from 27 to 96 (fun va wx=>∃G,va=.pointer (some ⟨G,0,none⟩)∧Hid (Below wq.heap.size wq wx)∧Hid (L3 wx G tx kx ⟨#[]⟩)∧Hid (wq.heap.size≤G))
    case first =>
     as_aux_lemma =>
     have qa:=Yr.out
     subst qa
     have pb:(at_++⟨#[47]⟩:ByteArray).size≤30001:=by rw [ByteArray.size_append];have h1:(⟨#[47]⟩:ByteArray).size=1:=rfl;omega
     have ma:at_.size≤9223372036854775806:=by omega
     have xa:at_.size+1+s.size≤9223372036854775807:=by omega
     have da:∀W,(Op.stringOp .add at_ ⟨#[47]⟩).run Tryz.prog W=.ok (.string (at_++⟨#[47]⟩)) W:=fun W=>run_string_add_sum W _ _ (by have h1:(⟨#[47]⟩:ByteArray).size=1:=rfl;omega)
     have xb:∀W,(Op.stringOp .add (at_++⟨#[47]⟩) s).run Tryz.prog W=.ok (.string (at_++⟨#[47]⟩++s)) W:=fun W=>run_string_add_sum W _ _ (by omega)
     have Qm:=Qa (fun W (hb:Below wq.heap.size wq W)=>show W.cell? ⟨g,0,none⟩=some (Pq D1)∧W.cell? ⟨g,1,none⟩=some (Pq D2)∧W.cell? ⟨g,2,none⟩=some (.int .i64 u)∧W.cell? ⟨g,3,none⟩=some (.int .i64 l)∧W.cell? ⟨gx,0,none⟩=some (.int .i64 x1)∧W.cell? ⟨gx,1,none⟩=some (.int .i64 x2)∧W.cell? ⟨GN,j,none⟩=some (.string s) from ⟨((Qt.out.below Q2.out).below hb).c0,((Qt.out.below Q2.out).below hb).c1,((Qt.out.below Q2.out).below hb).c2,((Qt.out.below Q2.out).below hb).c3,(Xj.out.below hb).c0,(Xj.out.below hb).c1,Xs.out W (bel_step Q2.out hb)⟩)
     have S0:=Qm.out wq (Below.refl _ _)
     have Xg:=Qa (bel_alloc wq (.cells #[.string ⟨#[]⟩,.int .i64 0,.string ⟨#[]⟩] 104))
     have Xh:=Qa (bel_step Xg.out (Below.refl _ (wq.alloc (.cells #[.string ⟨#[]⟩,.int .i64 0,.string ⟨#[]⟩] 104))).drew)
     have SA:=Qm.out _ Xg.out
     have Xt:=Qa (Xm.out wq.drew (Below.refl wq.heap.size wq).drew)
     have Xu:=Qa (Xm.out (wq.alloc (.cells #[.string ⟨#[]⟩,.int .i64 0,.string ⟨#[]⟩] 104)).drew Xh.out)
     have Xv:=Qa (show (wq.alloc (.cells #[.string ⟨#[]⟩,.int .i64 0,.string ⟨#[]⟩] 104)).drew.cell? ⟨wq.heap.size,0,none⟩=some (.string ⟨#[]⟩)∧(wq.alloc (.cells #[.string ⟨#[]⟩,.int .i64 0,.string ⟨#[]⟩] 104)).drew.cell? ⟨wq.heap.size,1,none⟩=some (.int .i64 0)∧(wq.alloc (.cells #[.string ⟨#[]⟩,.int .i64 0,.string ⟨#[]⟩] 104)).drew.cell? ⟨wq.heap.size,2,none⟩=some (.string ⟨#[]⟩)∧(wq.alloc (.cells #[.string ⟨#[]⟩,.int .i64 0,.string ⟨#[]⟩] 104)).drew.frozen? ⟨wq.heap.size,0,none⟩=false∧(wq.alloc (.cells #[.string ⟨#[]⟩,.int .i64 0,.string ⟨#[]⟩] 104)).drew.frozen? ⟨wq.heap.size,1,none⟩=false∧(wq.alloc (.cells #[.string ⟨#[]⟩,.int .i64 0,.string ⟨#[]⟩] 104)).drew.frozen? ⟨wq.heap.size,2,none⟩=false∧wq.heap.size<(wq.alloc (.cells #[.string ⟨#[]⟩,.int .i64 0,.string ⟨#[]⟩] 104)).drew.heap.size from ⟨by simp,by simp,by simp,by simp,by simp,by simp,by simp⟩)
     have kb:((j:Nat):Int)<(m:Int):=by omega
     go_region_held3 (fun W=>W.cell? ⟨g,0,none⟩=some (Pq D1)∧W.cell? ⟨g,1,none⟩=some (Pq D2)∧W.cell? ⟨g,2,none⟩=some (.int .i64 u)∧W.cell? ⟨g,3,none⟩=some (.int .i64 l)∧W.cell? ⟨gx,0,none⟩=some (.int .i64 x1)∧W.cell? ⟨gx,1,none⟩=some (.int .i64 x2)∧W.cell? ⟨GN,j,none⟩=some (.string s))
      (first|with_reducible exact S0|with_reducible exact S5|with_reducible exact SA|with_reducible exact ST|assumption|go_keep)
      (first
       | (go_at_call 20;((with_reducible refine Xt.out.mono ?_);rintro _ w5 ⟨rfl,hb5⟩;have Qi:=Qa (bel_step (Below.refl wq.heap.size wq).drew hb5);have S5:=Qm.out w5 Qi.out;have Xw:=Qa (show ∃G,w5.heap.size=G∧Below wq.heap.size wq (w5.alloc (.cells #[.string (at_++⟨#[47]⟩++s),.int .i64 kx,.string ⟨#[]⟩] 104))∧L3 (w5.alloc (.cells #[.string (at_++⟨#[47]⟩++s),.int .i64 kx,.string ⟨#[]⟩] 104)) G (at_++⟨#[47]⟩++s) kx ⟨#[]⟩∧wq.heap.size≤G from ⟨_,rfl,bel_step Qi.out (bel_alloc _ _),L3.new w5 _ kx _,Qi.out.size⟩);clear hb5))
       | (go_at_call 20;((with_reducible refine Xu.out.mono ?_);rintro _ w5 ⟨rfl,hb5⟩;have Qi:=Qa (bel_step Xh.out hb5);have S5:=Qm.out w5 Qi.out;obtain ⟨z0,z1,z2,f0,f1,f2,hz⟩:=Xv.out;replace z0:=(hb5.cell (p:=⟨wq.heap.size,0,none⟩) hz).trans z0;replace z1:=(hb5.cell (p:=⟨wq.heap.size,1,none⟩) hz).trans z1;replace z2:=(hb5.cell (p:=⟨wq.heap.size,2,none⟩) hz).trans z2;replace f0:=(World.frozen?_of_block (a:=⟨wq.heap.size,0,none⟩) (hb5.block _ hz)).trans f0;replace f1:=(World.frozen?_of_block (a:=⟨wq.heap.size,1,none⟩) (hb5.block _ hz)).trans f1;replace f2:=(World.frozen?_of_block (a:=⟨wq.heap.size,2,none⟩) (hb5.block _ hz)).trans f2;have Xi:=Qa (show Below wq.heap.size wq (((w5.setCell ⟨wq.heap.size,0,none⟩ (.string (at_++⟨#[47]⟩++s))).setCell ⟨wq.heap.size,1,none⟩ (.int .i64 kx)).setCell ⟨wq.heap.size,2,none⟩ (.string ⟨#[]⟩)) from set_below (set_below (set_below Qi.out (Nat.le_refl _) _) (Nat.le_refl _) _) (Nat.le_refl _) _);have ST:=Qm.out _ Xi.out;have Xx:=Qa (show L3 (((w5.setCell ⟨wq.heap.size,0,none⟩ (.string (at_++⟨#[47]⟩++s))).setCell ⟨wq.heap.size,1,none⟩ (.int .i64 kx)).setCell ⟨wq.heap.size,2,none⟩ (.string ⟨#[]⟩)) wq.heap.size (at_++⟨#[47]⟩++s) kx ⟨#[]⟩ from L3.set3 (by rw [z0];rfl) (by rw [z1];rfl) (by rw [z2];rfl) f2);clear hb5)))
     all_goals
      go_wp2_with fail
      go_meet
      case rel=>first|exact ⟨_,rfl,Xi,Xx,Qa (Nat.le_refl _)⟩|(obtain ⟨G,hG,h1,h2,h3⟩:=Xw.out;subst hG;exact ⟨_,rfl,Qa h1,Qa h2,Qa h3⟩)
    case rest =>
     obtain ⟨gl,rfl,Xy,Qe,Xk⟩:=hcut
     obtain ⟨wl,rfl⟩:∃x,x=wc:=⟨_,rfl⟩
     have Qy:=Qa (bel_step Q2.out Xy.out)
     have Qj:=Qa (Qt.out.below Qy.out)
     have Qk:=Qa (Xj.out.below Xy.out)
     have Qv:=Qa (Qz.out.below Qy.out)
     have Qw:=Qa (Xb.out.trans (Tn.bel (bl:=p) (A:=s9) Qy.out))
     have Ql:=Qa (bel_step Xe.out Qy.out)
     have Qb:=Qa (show g+1<p∧p<w3.heap.size∧w3.heap.size≤wr.heap.size∧wr.heap.size≤gx∧gx<gl∧gl<wl.heap.size∧w.heap.size≤p∧g+1<wr.heap.size from by
      have h1:=HP.out;have h2:=Xq.out;have h3:=Xb.out.size;have h4:=Yc.out;have h5:=Xj.out.lt;have h6:=Xk.out;have h7:=Qe.out.lt;omega)
     have Qc:=Qa (show ∀k,s9.ownBlock=some k→p≤k∧k<wr.heap.size from fun k e=>Qz.out.lt e)
     have Qd:=Qa (show XR.length+1+(linesV U L d (x1,x2) tx).length≤4000000 by have:=Ya.out;rw [Qh.out,List.length_cons] at this;omega)
     clear Q2 Xj Yc Xy Xk Xm Xs Xf Qy Qz Xb Xe Qt Xr
     obtain ⟨i0,hi,hz0,ma,xa⟩:=info_parts79
     by_cases hk1:kx=1
     ·as_aux_lemma =>
      subst hk1
      have Q4:=Qa (contV_rd Q3.out)
      have Q5:=Qa (HR.out wl Ql.out (x1,x2))
      generalize rdN U L (x1,x2) 0 65536=rd at *
      obtain ⟨re,rs⟩:=rd
      dsimp only at Q5 Q4
      rw [Q4.out,linesV_leaf (by rw [Q3.out];decide)] at Qh
      clear HK HT HR IH Q4
      obtain ⟨k0,k1,k2,k3⟩:=Qj.out
      obtain ⟨m0,m1⟩:=Qk.out
      obtain ⟨l0,l1,l2,l3⟩:=Qe.out
      dsimp only at m0 m1
      go_wp2_with fail
      refine Q5.out.mono ?_
      rintro _ wm ⟨A3,m3,c3,rfl,hcv,hb⟩
      have hy:=hcv wm (Below.refl _ _)
      have Qn:=Qa (Qj.out.below hb)
      have Qo:=Qa (Qk.out.below hb)
      have Qg:=Qa (Qe.out.below hb)
      have Qp:=Qa (Qv.out.below hb)
      have Qq:=Qa (Qw.out.trans (Tn.bel (bl:=p) (A:=s9) hb))
      have Qr:=Qa (bel_step Ql.out hb)
      have Qs:=Qa (hb.size)
      clear Qj Qk Qe Qv Qw Ql
      clear Q5 hcv hb k0 k1 k2 k3 m0 m1 l0 l1 l2 l3
      obtain ⟨l0,l1,l2,l3⟩:=Qg.out
      go_upto_region 11 with fail
      clear hy
      have hs:Below gl wm (wm.setCell ⟨gl,2,none⟩ (.string rs)):=(Below.refl gl wm).setCell (p:=⟨gl,2,none⟩) (Nat.le_refl gl) _
      have Qj:=Qa (Qn.out.lo hs (by have:=Qb.out;omega))
      have Qk:=Qa (Qo.out.lo hs (by have:=Qb.out;omega))
      have Qe:=Qa (Qg.out.set rs)
      have Qv:=Qa (Qp.out.same fun k e=>hs.block k (by have:=Qb.out;have:=Qc.out k e;omega))
      have Qw:=Qa (Qq.out.lo hs (by have:=Qb.out;omega))
      have Ql:=Qa (show Below w.heap.size w (wm.setCell ⟨gl,2,none⟩ (.string rs)) from set_below Qr.out (by have:=Qb.out;omega) _)
      have Qx:=Qa (show gl<(wm.setCell ⟨gl,2,none⟩ (.string rs)).heap.size by rw [World.size_setCell];have:=Qb.out;have:=Qs.out;omega)
      clear hs Qn Qo Qg Qp Qq Qr Qs
      generalize wm.setCell ⟨gl,2,none⟩ (.string rs)=ws at *
      clear l0 l1 l2 l3
      obtain ⟨l0,l1,l2,l3⟩:=Qe.out
      have Q6:=Qa (fun ob=>Qv.out.below (bel_alloc ws ob))
      have Q7:=Qa (fun ob=>show p≤(ws.alloc ob).heap.size from by rw [World.size_alloc];have:=Qb.out;have:=Qx.out;omega)
      have Q8:=Qa (fun ob (W:World) (v:Value) (hg:(ws.alloc ob).grownBy W s9.ownBlock) (ho:v.ownBlock=s9.ownBlock∨v.ownBlock=some (ws.alloc ob).heap.size)=>show Tn w3 W p (.slice (some ⟨p,0,none⟩) 0 0) v∧Below w.heap.size w W∧R4 W g D1 D2 u l∧Nb W gx (x1,x2)∧L3 W gl tx 1 rs from by
       have h1:Tn ws W p s9 v:=(Tn.bel (bl:=p) (A:=s9) (bel_alloc ws ob)).trans (Tn.grow hg ho)
       have h2:=Qb.out
       exact ⟨Qw.out.trans h1,grown_bel (bel_step Ql.out (bel_alloc ws ob)) hg (fun k e=>by have:=Qc.out k e;omega),h1.r4 Qj.out (by omega) (fun e=>by have:=Qc.out _ e;omega),h1.nb Qk.out (by omega) (fun e=>by have:=Qc.out _ e;omega),Qe.out.same (h1.blk gl Qx.out (by omega) (fun e=>by have:=Qc.out _ e;omega))⟩)
      go_wp2_with (first|(at_builtin;go_must (refine wpList_append_own_at _ rfl (.tmp 81) (.tmp 83) 70 rfl p 104 i0 _ 3 40 Tryz.underlying70 hi hz0 ma xa rfl (by decide) s9 XR.length (lcs XR) rfl (Q6.out _) ⟨ws.heap.size,0,none⟩ 1 1 [.string tx,.int .i64 1,.string rs] rfl rfl (cell_three_new _ _ _ _ _) (by intro u hu;simp at hu;rcases hu with rfl|rfl|rfl <;> rfl) (by have:=Qd.out;unfold maxLen;omega) (by have:=Qd.out;omega) (Q7.out _) ?_;intro v9 wv hown hgr _ ho;have Q9:=Qa (LO.of (x:=⟨tx,1,rs⟩) hown);have Qf:=Qa (Q8.out _ _ _ hgr ho);have l1v:=Qf.out.2.2.2.2.c1;clear hown hgr ho))|fail)
      go_roundg (gk - 1)
      case measure=>omega
      case rel=>exact ⟨j+1,v9,by omega,rfl,by go_num,(by rw [Xc.out,Qh.out];exact Q9),Qa Qf.out.1,Qa Qf.out.2.1⟩
     by_cases hk3:kx=3
     ·as_aux_lemma =>
      subst hk3
      have Q4:=Qa (show contV U L (x1,x2)=(targN U L (x1,x2)).1 by unfold contV;rw [Ja (by rw [Q3.out];decide),Jb Q3.out])
      have Q5:=Qa (HT.out wl Ql.out (x1,x2))
      generalize targN U L (x1,x2)=rd at *
      obtain ⟨rs,re⟩:=rd
      dsimp only at Q5 Q4
      rw [Q4.out,linesV_leaf (by rw [Q3.out];decide)] at Qh
      clear HK HT HR IH Q4
      obtain ⟨k0,k1,k2,k3⟩:=Qj.out
      obtain ⟨m0,m1⟩:=Qk.out
      obtain ⟨l0,l1,l2,l3⟩:=Qe.out
      dsimp only at m0 m1
      go_wp2_with fail
      refine Q5.out.mono ?_
      rintro _ wm ⟨rfl,hb⟩
      have Qn:=Qa (Qj.out.below hb)
      have Qo:=Qa (Qk.out.below hb)
      have Qg:=Qa (Qe.out.below hb)
      have Qp:=Qa (Qv.out.below hb)
      have Qq:=Qa (Qw.out.trans (Tn.bel (bl:=p) (A:=s9) hb))
      have Qr:=Qa (bel_step Ql.out hb)
      have Qs:=Qa (hb.size)
      clear Qj Qk Qe Qv Qw Ql
      clear Q5 hb k0 k1 k2 k3 m0 m1 l0 l1 l2 l3
      obtain ⟨l0,l1,l2,l3⟩:=Qg.out
      go_upto_region 14 with fail
      have hs:Below gl wm (wm.setCell ⟨gl,2,none⟩ (.string rs)):=(Below.refl gl wm).setCell (p:=⟨gl,2,none⟩) (Nat.le_refl gl) _
      have Qj:=Qa (Qn.out.lo hs (by have:=Qb.out;omega))
      have Qk:=Qa (Qo.out.lo hs (by have:=Qb.out;omega))
      have Qe:=Qa (Qg.out.set rs)
      have Qv:=Qa (Qp.out.same fun k e=>hs.block k (by have:=Qb.out;have:=Qc.out k e;omega))
      have Qw:=Qa (Qq.out.lo hs (by have:=Qb.out;omega))
      have Ql:=Qa (show Below w.heap.size w (wm.setCell ⟨gl,2,none⟩ (.string rs)) from set_below Qr.out (by have:=Qb.out;omega) _)
      have Qx:=Qa (show gl<(wm.setCell ⟨gl,2,none⟩ (.string rs)).heap.size by rw [World.size_setCell];have:=Qb.out;have:=Qs.out;omega)
      clear hs Qn Qo Qg Qp Qq Qr Qs
      generalize wm.setCell ⟨gl,2,none⟩ (.string rs)=ws at *
      clear l0 l1 l2 l3
      obtain ⟨l0,l1,l2,l3⟩:=Qe.out
      have Q6:=Qa (fun ob=>Qv.out.below (bel_alloc ws ob))
      have Q7:=Qa (fun ob=>show p≤(ws.alloc ob).heap.size from by rw [World.size_alloc];have:=Qb.out;have:=Qx.out;omega)
      have Q8:=Qa (fun ob (W:World) (v:Value) (hg:(ws.alloc ob).grownBy W s9.ownBlock) (ho:v.ownBlock=s9.ownBlock∨v.ownBlock=some (ws.alloc ob).heap.size)=>show Tn w3 W p (.slice (some ⟨p,0,none⟩) 0 0) v∧Below w.heap.size w W∧R4 W g D1 D2 u l∧Nb W gx (x1,x2)∧L3 W gl tx 3 rs from by
       have h1:Tn ws W p s9 v:=(Tn.bel (bl:=p) (A:=s9) (bel_alloc ws ob)).trans (Tn.grow hg ho)
       have h2:=Qb.out
       exact ⟨Qw.out.trans h1,grown_bel (bel_step Ql.out (bel_alloc ws ob)) hg (fun k e=>by have:=Qc.out k e;omega),h1.r4 Qj.out (by omega) (fun e=>by have:=Qc.out _ e;omega),h1.nb Qk.out (by omega) (fun e=>by have:=Qc.out _ e;omega),Qe.out.same (h1.blk gl Qx.out (by omega) (fun e=>by have:=Qc.out _ e;omega))⟩)
      go_wp2_with (first|(at_builtin;go_must (refine wpList_append_own_at _ rfl (.tmp 81) (.tmp 83) 70 rfl p 104 i0 _ 3 40 Tryz.underlying70 hi hz0 ma xa rfl (by decide) s9 XR.length (lcs XR) rfl (Q6.out _) ⟨ws.heap.size,0,none⟩ 1 1 [.string tx,.int .i64 3,.string rs] rfl rfl (cell_three_new _ _ _ _ _) (by intro u hu;simp at hu;rcases hu with rfl|rfl|rfl <;> rfl) (by have:=Qd.out;unfold maxLen;omega) (by have:=Qd.out;omega) (Q7.out _) ?_;intro v9 wv hown hgr _ ho;have Q9:=Qa (LO.of (x:=⟨tx,3,rs⟩) hown);have Qf:=Qa (Q8.out _ _ _ hgr ho);have l1v:=Qf.out.2.2.2.2.c1;clear hown hgr ho))|fail)
      go_roundg (gk - 1)
      case measure=>omega
      case rel=>exact ⟨j+1,v9,by omega,rfl,by go_num,(by rw [Xc.out,Qh.out];exact Q9),Qa Qf.out.1,Qa Qf.out.2.1⟩
     have q1:(kx == 1)=false:=by simpa using hk1
     have q3:(kx == 3)=false:=by simpa using hk3
     rw [show contV U L (x1,x2)=⟨#[]⟩ by unfold contV;rw [Ja (by rw [Q3.out];exact hk1),Ja (by rw [Q3.out];exact hk3)]] at Qh
     obtain ⟨l0,l1,l2,l3⟩:=Qe.out
     go_upto_region 14 with fail
     clear l0 l1 l2 l3 q1 q3
     obtain ⟨ws,rfl⟩:∃x,x=wl:=⟨_,rfl⟩
     have Qx:=Qa Qb.out.2.2.2.2.2.1
     by_cases hk2:kx=2
     ·as_aux_lemma =>
      subst hk2
      obtain ⟨l0,l1,l2,l3⟩:=Qe.out
      have Q6:=Qa (fun ob=>Qv.out.below (bel_alloc ws ob))
      have Q7:=Qa (fun ob=>show p≤(ws.alloc ob).heap.size from by rw [World.size_alloc];have:=Qb.out;have:=Qx.out;omega)
      have Q8:=Qa (fun ob (W:World) (v:Value) (hg:(ws.alloc ob).grownBy W s9.ownBlock) (ho:v.ownBlock=s9.ownBlock∨v.ownBlock=some (ws.alloc ob).heap.size)=>show Tn w3 W p (.slice (some ⟨p,0,none⟩) 0 0) v∧Below w.heap.size w W∧R4 W g D1 D2 u l∧Nb W gx (x1,x2)∧L3 W gl tx 2 ⟨#[]⟩ from by
       have h1:Tn ws W p s9 v:=(Tn.bel (bl:=p) (A:=s9) (bel_alloc ws ob)).trans (Tn.grow hg ho)
       have h2:=Qb.out
       exact ⟨Qw.out.trans h1,grown_bel (bel_step Ql.out (bel_alloc ws ob)) hg (fun k e=>by have:=Qc.out k e;omega),h1.r4 Qj.out (by omega) (fun e=>by have:=Qc.out _ e;omega),h1.nb Qk.out (by omega) (fun e=>by have:=Qc.out _ e;omega),Qe.out.same (h1.blk gl Qx.out (by omega) (fun e=>by have:=Qc.out _ e;omega))⟩)
      go_wp2_with (first|(at_builtin;go_must (refine wpList_append_own_at _ rfl (.tmp 81) (.tmp 83) 70 rfl p 104 i0 _ 3 40 Tryz.underlying70 hi hz0 ma xa rfl (by decide) s9 XR.length (lcs XR) rfl (Q6.out _) ⟨ws.heap.size,0,none⟩ 1 1 [.string tx,.int .i64 2,.string ⟨#[]⟩] rfl rfl (cell_three_new _ _ _ _ _) (by intro u hu;simp at hu;rcases hu with rfl|rfl|rfl <;> rfl) (by have:=Qd.out;unfold maxLen;omega) (by have:=Qd.out;omega) (Q7.out _) ?_;intro v9 wv hown hgr _ ho;have Q9:=Qa (LO.of (x:=⟨tx,2,⟨#[]⟩⟩) hown);have Qf:=Qa (Q8.out _ _ _ hgr ho);obtain ⟨-,-,⟨k0,k1,k2,k3⟩,⟨m0,m1⟩,⟨l0v,l1v,-,-⟩⟩:=Qf.out;dsimp only at m0 m1;clear hown hgr ho))|fail)
      have Xl:=IH.out (x1,x2) tx wv HC.out Yi.out Yq.out (by have:=Qd.out;omega) (bel_step Yj.out Qf.out.2.1)
      rw [←Yh.out] at Xl
      obtain ⟨Y5,hY5⟩:∃Y,linesV U L d (x1,x2) tx=Y:=⟨_,rfl⟩
      rw [hY5] at Xl Qh Qd
      unfold BelE at Xl
      refine Xl.mono ?_
      rintro _ wb ⟨A5,c5,rfl,hl5,hb5⟩
      have Xa:=Q9.out.below hb5
      obtain ⟨v7,w7,hr7,ho7,hg7,he7⟩:=app_lo Xa hl5 (by rw [List.length_append];simp only [List.length_cons,List.length_nil];have:=Qd.out;omega) (by have h1:=Qf.out.1.size;have h2:=hb5.size;have:=Qb.out;omega)
      have Ys:=Qa hr7
      have Yt:=Qa ((Qf.out.1.trans (Tn.bel (bl:=p) (A:=v9) hb5)).trans (Tn.grow hg7 he7))
      have Yu:=Qa (grown_bel (bel_step Qf.out.2.1 hb5) hg7 (fun k e=>by have h1:=(Xa.lt e).1;have:=Qb.out;omega))
      have Yv:=Qa (show LO w7 p v7 (XR++(⟨tx,2,⟨#[]⟩⟩::Y5)) by have:=ho7;rw [List.append_assoc] at this;exact this)
      clear hr7 ho7 hg7 he7 hb5 hl5 Xa Xl k0 k1 k2 k3 m0 m1 l0v l1v
      go_wp2_with (first|(at_builtin;refine Lib.wpList_append_run _ rfl (.tmp 88) (.tmp 95) 70 70 rfl _ _ rfl rfl _ _ Ys.out ?_)|fail)
      go_roundg (gk - 1)
      case measure=>omega
      case rel=>exact ⟨j+1,v7,by omega,rfl,by go_num,(by rw [Xc.out,Qh.out];exact Yv),Yt,Yu⟩
     ·as_aux_lemma =>
      have q2:(kx == 2)=false:=by simpa using hk2
      rw [linesV_leaf (by rw [Q3.out];exact hk2)] at Qh
      obtain ⟨l0,l1,l2,l3⟩:=Qe.out
      have Q6:=Qa (fun ob=>Qv.out.below (bel_alloc ws ob))
      have Q7:=Qa (fun ob=>show p≤(ws.alloc ob).heap.size from by rw [World.size_alloc];have:=Qb.out;have:=Qx.out;omega)
      have Q8:=Qa (fun ob (W:World) (v:Value) (hg:(ws.alloc ob).grownBy W s9.ownBlock) (ho:v.ownBlock=s9.ownBlock∨v.ownBlock=some (ws.alloc ob).heap.size)=>show Tn w3 W p (.slice (some ⟨p,0,none⟩) 0 0) v∧Below w.heap.size w W∧R4 W g D1 D2 u l∧Nb W gx (x1,x2)∧L3 W gl tx kx ⟨#[]⟩ from by
       have h1:Tn ws W p s9 v:=(Tn.bel (bl:=p) (A:=s9) (bel_alloc ws ob)).trans (Tn.grow hg ho)
       have h2:=Qb.out
       exact ⟨Qw.out.trans h1,grown_bel (bel_step Ql.out (bel_alloc ws ob)) hg (fun k e=>by have:=Qc.out k e;omega),h1.r4 Qj.out (by omega) (fun e=>by have:=Qc.out _ e;omega),h1.nb Qk.out (by omega) (fun e=>by have:=Qc.out _ e;omega),Qe.out.same (h1.blk gl Qx.out (by omega) (fun e=>by have:=Qc.out _ e;omega))⟩)
      go_wp2_with (first|(at_builtin;go_must (refine wpList_append_own_at _ rfl (.tmp 81) (.tmp 83) 70 rfl p 104 i0 _ 3 40 Tryz.underlying70 hi hz0 ma xa rfl (by decide) s9 XR.length (lcs XR) rfl (Q6.out _) ⟨ws.heap.size,0,none⟩ 1 1 [.string tx,.int .i64 kx,.string ⟨#[]⟩] rfl rfl (cell_three_new _ _ _ _ _) (by intro u hu;simp at hu;rcases hu with rfl|rfl|rfl <;> rfl) (by have:=Qd.out;unfold maxLen;omega) (by have:=Qd.out;omega) (Q7.out _) ?_;intro v9 wv hown hgr _ ho;have Q9:=Qa (LO.of (x:=⟨tx,kx,⟨#[]⟩⟩) hown);have Qf:=Qa (Q8.out _ _ _ hgr ho);have l1v:=Qf.out.2.2.2.2.c1;clear hown hgr ho))|fail)
      go_roundg (gk - 1)
      case measure=>omega
      case rel=>exact ⟨j+1,v9,by omega,rfl,by go_num,(by rw [Xc.out,Qh.out];exact Q9),Qa Qf.out.1,Qa Qf.out.2.1⟩
end fl
namespace fl
open Go.RowKit
open br (BS Ino Inv Tree sumF)
open cb (BrX RetW RetI No)
open bl (Pq)
open mg (Nd Nv kindV getV rootV AllV bel_step bel_alloc Vd Rv R4 rroot_any)
theorem flatMap_same {α β:Type} {f g:α→List β}:∀ {l:List α},(∀x∈l,f x=g x)→l.flatMap f=l.flatMap g
 | [],_=>rfl
 | x::l,h=>by rw [List.flatMap_cons,List.flatMap_cons,h x (by simp),flatMap_same fun y hy=>h y (by simp [hy])]
theorem linesV_deep {U L:BS} {r1 r2:Nat} (hU:Inv U r1) (hL:Inv L r2) {dU dL:Nat→Nat} (hdU:Deep U dU) (hdL:Deep L dL) (hA:∀n,∃ns,AllV U L n ns) :
  ∀(d d':Nat) (n:Nd) (at_:ByteArray),hN U L dU dL n<d→hN U L dU dL n<d'→linesV U L d n at_=linesV U L d' n at_
 | 0,_,_,_,h,_=>absurd h (Nat.not_lt_zero _)
 | _+1,0,_,_,_,h=>absurd h (Nat.not_lt_zero _)
 | d+1,d'+1,n,at_,h,h'=>by
  obtain ⟨ns,hns⟩:=hA n
  rw [linesV_succ hns,linesV_succ hns]
  refine flatMap_same fun s hs=>?_
  have hc:=hN_child hU hL hdU hdL n s ((hns.mem s).1 hs)
  unfold linesN
  rw [linesV_deep hU hL hdU hdL hA d d' _ _ (Nat.lt_of_lt_of_le hc (Nat.le_of_lt_succ h)) (Nat.lt_of_lt_of_le hc (Nat.le_of_lt_succ h'))]
theorem rof_any {w:World} {D1 D2:Nat} {u l:Int} {U L:BS} {r1 r2:Nat} (hv:Vd w D1 D2 U L) (hU:br.Good U r1) (hL:br.Good L r2) (hA:∀n,∃ns,AllV U L n ns):Calls Tryz.prog 43 #[Rv D1 D2 u l] w (BelE w (ofV U L u l)):=by
 obtain ⟨dU,hdU⟩:=br.Tree.bound hU.1 hU.2
 obtain ⟨dL,hdL⟩:=br.Tree.bound hL.1 hL.2
 have hle:=hN_le U L dU dL (rootV U L u l)
 have Qd:=Qa (show linesV U L 300 (rootV U L u l) ⟨#[]⟩=ofV U L u l from linesV_deep hU.1 hL.1 hdU hdL hA 300 202 _ _ (by omega) (by omega))
 have Qg:=Qa (show (ofV U L u l).length≤4000000 by have:=ofV_len hU hL u l;omega)
 obtain ⟨w1,hw1⟩:∃w1,w.alloc (.cells #[Pq D1,Pq D2,.int .i64 u,.int .i64 l] 36)=w1:=⟨_,rfl⟩
 have ma:Below w.heap.size w w1:=by rw [←hw1];exact bel_alloc _ _
 have Qb:=Qa (show R4 w1 w.heap.size D1 D2 u l by rw [←hw1];exact R4.new w D1 D2 u l)
 have Qe:=Qa ma
 have Qk:=Qa (show Below w.heap.size w w1.drew from bel_step ma (Below.refl w1.heap.size w1).drew)
 have Ql:=Qa (rroot_any (u:=u) (l:=l) (hv.below Qk.out))
 have Qh:=Qa (fun W (hb:Below w.heap.size w W)=>by
  have h:=rbelow_any (u:=u) (l:=l) hv hU.1 hL.1 hdU hdL hA 300 (rootV U L u l) ⟨#[]⟩ W (by omega) (Nat.le_refl _) (by decide) (by rw [Qd.out];exact Qg.out) hb
  rw [Qd.out,show (300 - ((300:Nat):Int))=0 from by decide] at h
  exact h)
 unfold BelE at Qh
 generalize rootV U L u l=rt at *
 generalize ofV U L u l=Y at *
 obtain ⟨t1,t2⟩:=rt
 obtain ⟨g,hg⟩:∃g,w.heap.size=g:=⟨_,rfl⟩
 have Qn:=Qa hg
 rw [hg] at Qb
 obtain ⟨PQ,hPQ⟩:∃P,BelE w Y=P:=⟨_,rfl⟩
 have HE:=Qa (show ∀W A c,LO W w.heap.size (.slice A Y.length c) Y→Below w.heap.size w W→PQ (.returned (.slice A Y.length c)) W from fun W A c a b=>by rw [←hPQ];exact ⟨A,c,rfl,a,b⟩)
 rw [hPQ]
 clear hv hU hL hdU hdL ma hle hA hPQ Qd Qg
 go_enter Tryz.func43,Tryz.ntmps43
 go_upto_region 1 with fail
 try rw [hw1]
 clear hw1
 obtain ⟨k0,k1,k2,k3⟩:=Qb.out
 have Qf:=Qa (fun W (hb:Below w1.heap.size w1 W)=>show W.cell? ⟨g,0,none⟩=some (Pq D1)∧W.cell? ⟨g,1,none⟩=some (Pq D2)∧W.cell? ⟨g,2,none⟩=some (.int .i64 u)∧W.cell? ⟨g,3,none⟩=some (.int .i64 l) from ⟨(Qb.out.below hb).c0,(Qb.out.below hb).c1,(Qb.out.below hb).c2,(Qb.out.below hb).c3⟩)
 have S0:=Qf.out w1 (Below.refl _ _)
 clear k0 k1 k2 k3
 go_region_held3 (fun W=>W.cell? ⟨g,0,none⟩=some (Pq D1)∧W.cell? ⟨g,1,none⟩=some (Pq D2)∧W.cell? ⟨g,2,none⟩=some (.int .i64 u)∧W.cell? ⟨g,3,none⟩=some (.int .i64 l))
  (first|with_reducible exact S0|with_reducible exact S5|with_reducible exact S6|assumption|go_keep)
  (first
   | (go_at_call 16;((with_reducible refine Ql.out.mono ?_);rintro _ w5 ⟨rfl,hb5⟩;have Qc:=Qa (bel_step (Below.refl w1.heap.size w1).drew hb5);have S5:=Qf.out w5 Qc.out;have Qm:=Qa (Qh.out w5 (bel_step Qe.out Qc.out));clear hb5))
   | (go_at_call 112;((with_reducible refine Qm.out.mono ?_);rintro _ w6 ⟨A6,c6,rfl,hl6,hb6⟩;have Qi:=Qa (bel_step Qc.out hb6);have S6:=Qf.out w6 Qi.out;have Qj:=Qa hl6;clear hl6 hb6)))
 have qa:=HE.out w6 A6 c6 ⟨Qj.out.1,Qj.out.2.imp id fun ⟨g,a,b,c,d,e⟩=>⟨g,a,b,c,Nat.le_trans (bel_step Qe.out Qc.out).size d,e⟩⟩ (bel_step Qe.out Qi.out)
 clear S0 S5 S6
 generalize Y.length=zl at *
 go_wp2_with fail
 exact qa
end fl
namespace cu
open Go.RowKit Go.Deep
open br (BS Ino Inv at_nat abE fresh)
open cb (BrX RetW RetI No KB KD Res HB Stab NxR Same WrI Wz sF)
open bl (Pq Only AB U8 WR wr wrB IsStop)
open mg (bel_step bel_alloc Vd Rv)
open fl (Ln LR treeF Zn bl8 bl8_app bl8_inj path_bl noSl LO)
theorem at_bl (b:ByteArray) (k:Nat) (h:k<b.size):some (b[k]'h)=(bl8 b)[k]?:=by
 unfold bl8
 rw [List.getElem?_eq_getElem (by simpa using h)]
 simp [ByteArray.getElem_eq_getElem_data]
theorem path_at {z:Zn} (hs:noSl z.s) {qn gk:Nat} (hq:z.q.size=qn) (hlt:qn+gk<z.path.size):((((z.path[qn+gk]'hlt).toNat:Nat):Int) != 47)=decide (gk≠0):=by
 have h:=at_bl z.path (qn+gk) hlt
 rw [path_bl] at h
 have hl:(bl8 z.q).length=qn:=by rw [←hq];unfold bl8;simp
 generalize z.path[qn+gk]'hlt=x at *
 rw [List.append_assoc,List.getElem?_append_right (by omega),hl,show qn+gk - qn=gk from by omega] at h
 cases gk with
 | zero =>
  simp at h
  subst h
  rfl
 | succ k =>
  simp only [List.cons_append,List.nil_append,List.getElem?_cons_succ] at h
  have hm:x∈bl8 z.s:=List.mem_of_getElem? h.symm
  have hx:x≠47:=fun e=>hs (e▸hm)
  have:x.toNat≠47:=fun e=>hx (UInt8.toNat_inj.1 e)
  simp only [ne_eq,Nat.add_eq_zero_iff,Nat.succ_ne_zero,and_false,not_false_eq_true,decide_true,bne_iff_ne]
  omega
theorem path_q {z:Zn} {qn:Nat} (hq:z.q.size=qn):z.path.extract 0 qn=z.q:=by
 refine bl8_inj ?_
 unfold bl8
 rw [ByteArray.data_extract,Array.toList_extract]
 have h:=path_bl z
 unfold bl8 at h
 rw [h]
 have hl:(z.q.data.toList).length=qn:=by rw [←hq];simp
 simp [List.extract_eq_take_drop,←hl]
theorem path_s {z:Zn} {qn n:Nat} (hq:z.q.size=qn) (hn:z.path.size=n):z.path.extract (qn+1) n=z.s:=by
 refine bl8_inj ?_
 unfold bl8
 rw [ByteArray.data_extract,Array.toList_extract]
 have h:=path_bl z
 have hl:(bl8 z.q).length=qn:=by rw [←hq];unfold bl8;simp
 have h2:(bl8 z.path).length=n:=by rw [←hn];unfold bl8;simp
 unfold bl8 at h hl h2
 rw [h] at h2 ⊢
 rw [List.extract_eq_take_drop,List.append_assoc,←hl]
 simp only [List.length_append,List.length_cons,List.length_nil] at h2
 have:z.q.data.toList++([47]++z.s.data.toList)=(z.q.data.toList++[47])++z.s.data.toList:=by simp
 rw [this,List.drop_append_of_le_length (by simp),List.drop_of_length_le (by simp),List.nil_append,List.take_of_length_le (by omega)]
theorem cut_q {z:Zn} {pt:ByteArray} {qn sn:Nat} (hp:z.path=pt) (hq:z.q.size=qn) (hn:pt.size=qn+1+sn) (W:World) :
  (Instr.slice 9 (.string pt) none (some (.int .i64 (qn:Int))) none).run Tryz.prog W=.ok (.string z.q) W:=by
 rw [run_slice_string_to_if W 9 pt .i64 (qn:Int) Tryz.underlying9,Jb (by omega)]
 rw [Int.toNat_natCast,←hp,path_q hq]
theorem cut_s {z:Zn} {pt:ByteArray} {qn sn:Nat} (hp:z.path=pt) (hq:z.q.size=qn) (hn:pt.size=qn+1+sn) (W:World) :
  (Instr.slice 9 (.string pt) (some (.int .i64 ((qn:Int)+1))) none none).run Tryz.prog W=.ok (.string z.s) W:=by
 rw [run_slice_string_from_if W 9 pt .i64 ((qn:Int)+1) Tryz.underlying9,Jb (by omega)]
 rw [show ((qn:Int)+1).toNat=qn+1 from by omega,←hp,path_s hq rfl]
section
variable {w0 w:World} {L:List Res} {X:Nat→Prop} {P D RS room T i:Nat} {S:BS}
theorem cs_make (h:cb.Sys w0 w L X) (hi:L[i]?=some (KB w0 P S room T)) (hT:T≤800000) (d:Int) (s:ByteArray) (k:Int) (t:ByteArray) (hm:s.size≤9223372036854775807) (hmt:t.size≤9223372036854775807) :
  Calls Tryz.prog 33 #[Pq P,.int .i64 d,.string s,.int .i64 k,.string t] w (fun e w'=>e=.returned (.tuple #[.int .i64 (S.make d s k t).1.1,.int .i64 (S.make d s k t).1.2])∧cb.Sys w0 w' (L.set i (KB w0 P (S.make d s k t).2 room (T+1))) X∧Same X w w') :=
 cb.Sys.call h hi KB.stab fun O k'=>kx_make k' hT d s k t hm hmt
theorem cs_write (h:cb.Sys w0 w L X) (hi:L[i]?=some (KB w0 P S room T)) (n off:Int) (A:Option Addr) (len dc:Nat) (g:Nat→UInt8) (hA:∀j,j<len→∃b o,A=some ⟨b,o,none⟩∧X b∧w.cell? ⟨b,o+j,none⟩=some (U8 (g j))) (hlc:len≤dc) (hdc:dc≤maxLen) :
  Calls Tryz.prog 39 #[Pq P,.int .i64 n,.int .i64 off,.slice A len dc] w (fun e w'=>∃z:Wz,WrI S room n off len g z.1 z.2.1 z.2.2∧e=.returned (.tuple #[.int .i64 (z.1:Int),.int .i64 z.2.1])∧cb.Sys w0 w' (L.set i (KB w0 P z.2.2 room (T+1))) X∧Same X w w') :=
 cb.Sys.callE (q:=fun z:Wz=>KB w0 P z.2.2 room (T+1)) h hi (fun _ _=>KB.stab) fun O k hX=>cb.kb_write k hX n off A len dc g hA hlc hdc
theorem fileE_zero (S:BS):S.fileE 0≠0:=by
 unfold BS.fileE
 rw [mg.kind_zero];decide
theorem ds_writeM (h:cb.Sys w0 w L X) (hi:L[i]?=some (KD w0 D RS S room)) (hG:br.Good S room) (hr:room≤65536) {n:Int} (hn:n=0∨∃N:Nat,n=(N:Int)∧1≤N∧N≤200∧(S.ino N).kind=1∧(S.ino N).body=abE) (A:Option Addr) (len dc:Nat) (f:Nat→UInt8) (hA:∀j,j<len→∃b o,A=some ⟨b,o,none⟩∧X b∧w.cell? ⟨b,o+j,none⟩=some (U8 (f j))) (hlc:len≤dc) (hdc:dc≤maxLen) :
  Calls Tryz.prog 40 #[Pq D,.int .i64 n,.int .i64 0,.slice A len dc] w (fun e w'=>∃z:Wz,WrI S room n 0 len f z.1 z.2.1 z.2.2∧e=.returned (.tuple #[.int .i64 (z.1:Int),.int .i64 z.2.1])∧cb.Sys w0 w' (L.set i (KD w0 D RS z.2.2 room)) X∧Same X w w'):=by
 rcases hn with rfl|⟨N,rfl,h1,h2,hk,hb⟩
 ·refine cb.Sys.callE (p:=fun z:Wz=>WrI S room 0 0 len f z.1 z.2.1 z.2.2) (v:=fun z:Wz=>.tuple #[.int .i64 (z.1:Int),.int .i64 z.2.1]) (q:=fun z:Wz=>KD w0 D RS z.2.2 room) h hi (fun _ _=>KD.stab) fun O k hX=>?_
  obtain ⟨pl,tg,k1,h6⟩:=k
  refine (cb.q_write k1 hG hr 0 0 A len dc f (fun j hj=>by
   obtain ⟨b,o,e,hb,hc⟩:=hA j hj
   exact ⟨b,o,e,Classical.byContradiction fun hn=>(hX b hb).2 ((h6 b).2 hn),(hX b hb).1,hc⟩) hlc hdc).mono ?_
  rintro e w' (⟨z1,rfl,rfl⟩|⟨z1,_⟩)
  ·exact ⟨(0,S.fileE 0,S),.inl ⟨z1,rfl,rfl,rfl⟩,rfl,O,⟨pl,tg,k1,h6⟩,fun b hb=>.inl hb,Only.refl _ _⟩
  ·exact absurd z1 (fileE_zero S)
 ·exact ds_write h hi hG hr h1 h2 hk hb A len dc f hA hlc hdc
theorem bnew_any (h:cb.Sys w0 w L X) {r:Nat} (hr:r≤65536) :
  Calls Tryz.prog 31 #[.int .i64 (r:Int)] w (fun e w'=>∃P,e=.returned (Pq P)∧cb.Sys w0 w' (L++[KB w0 P fresh r 0]) X∧Below w.heap.size w w') :=
 (cb.x_new (w0:=w) (w:=w) r hr (Below.refl _ _)).mono fun e w' ⟨P,he,hb,hbel,_⟩=>⟨P,he,add_made h hb,hbel⟩
theorem dnew_any (h:cb.Sys w0 w L X) {r:Nat} (hr:r≤65536) :
  Calls Tryz.prog 32 #[.int .i64 (r:Int)] w (fun e w'=>∃D RS,e=.returned (Pq D)∧cb.Sys w0 w' (L++[KD w0 D RS fresh r]) X∧Below w.heap.size w w') :=
 (cb.rb_new r w0.heap.size w hr h.bel.size).mono fun e w' ⟨D,RS,pl,tag,he,hb,hbel,ht⟩=>⟨D,RS,he,h.add hbel KD.stab ⟨pl,tag,hb,fun b=>Iff.rfl⟩ ht,hbel⟩
def CTreeE (w0 w:World) (L:List Res) (X:Nat→Prop) (l:List Ln) (e:Ending) (w':World):Prop :=
 Below w.heap.size w w'∧((∃err:Int,err≠0∧treeF 65536 fresh l=none∧e=.returned (.tuple #[.pointer none,.int .i64 err])∧cb.Sys w0 w' L X) ∨
  ∃(P:Nat) (S:BS),treeF 65536 fresh l=some S∧e=.returned (.tuple #[Pq P,.int .i64 0])∧cb.Sys w0 w' (L++[KB w0 P S 65536 1000]) X)
theorem ctree_any (h:cb.Sys w0 w L X) {A:Option Addr} {l:List Ln} {c:Nat} (hl:LX w X A l) (hn:l.length≤400) (hd:∀x∈l,x.data.size≤1000000) :
  Calls Tryz.prog 87 #[.slice A l.length c,.int .i64 65536] w (CTreeE w0 w L X l):=by
 refine (fl.tree_any (hl.lr fun b hb=>h.lt hb) (Nat.le_refl _) hn hd 65536).mono ?_
 rintro e w' (⟨h1,_⟩|⟨R,hR,_,hc⟩)
 ·omega
 ·obtain rfl:R=65536:=by omega
  rcases hc with ⟨err,e0,ht,_,rfl,hb⟩|⟨P,S,ht,rfl,hb⟩
  ·exact ⟨hb,.inl ⟨err,e0,ht,rfl,h.below hb⟩⟩
  ·have ma:Below w.heap.size w w':=by obtain ⟨st,qb,qo,pl,tag,Tq,h1,h2,h3,h4,h5,h6,h7⟩:=hb;exact h6
   refine ⟨ma,.inr ⟨P,S,ht,rfl,?_⟩⟩
   have h2:cb.Sys w0 w' ((L++[KB w0 P S 65536 990]).set L.length (KB w0 P S 65536 1000)) X:=(add_made h hb).weak (i:=L.length) (r:=KB w0 P S 65536 990) (app_at L _) KB.stab fun O k=>KB.up (by omega) k
   rwa [app_set] at h2
theorem LO.lx {w:World} {B:Nat} {A:Value} {X:List Ln} (h:LO w B A X):∃A' c,A=.slice A' X.length c∧LX w (fun b=>B≤b∧b<w.heap.size) A' X∧X.length≤c∧c≤maxLen:=by
 rcases h.2 with ⟨hv,h0⟩|⟨g,cap,cur,hv,hb,hg,h1,h2,h3,h4⟩
 ·refine ⟨none,0,by rw [hv,h0],?_,by omega,by unfold maxLen;omega⟩
  have:X=[]:=List.eq_nil_of_length_eq_zero h0
  subst this
  exact fun j x hx=>by cases hx
 ·refine ⟨some ⟨g,0,none⟩,cap,hv,fun j x hx=>?_,h1,h2⟩
  obtain ⟨k0,k1,k2⟩:=fl.lcs_get hx
  have hj:=(List.getElem?_eq_some_iff.1 hx).1
  have hc:∀i v,(fl.lcs X)[i]?=some v→w.cell? ⟨g,i,none⟩=some v:=fun i v hi=>by
   have hl:=(List.getElem?_eq_some_iff.1 hi).1
   rw [fl.lcs_len] at hl
   rw [Lib.cell_of_heap hg,←Array.getElem?_toList]
   rw [←h4,List.getElem?_take,Jb hl] at hi
   exact hi
  refine ⟨g,0,rfl,⟨hb,(Array.getElem?_eq_some_iff.1 hg).1⟩,hc _ _ (by rw [Nat.zero_add,Nat.mul_comm];exact k0),hc _ _ (by rw [Nat.zero_add,Nat.mul_comm];exact k1),hc _ _ (by rw [Nat.zero_add,Nat.mul_comm];exact k2)⟩
theorem only_grown {w w':World} {M:Nat} (hg:w.grownBy w' (some M)):Only (fun b=>b=M) w w':=⟨hg.os,hg.tape,hg.output,hg.size,fun k hk hn=>hg.block k hk (fun e=>hn (Option.some.inj e))⟩
end
end cu
end Go.Proofs.YtgoddboicjfkcaaGreat
