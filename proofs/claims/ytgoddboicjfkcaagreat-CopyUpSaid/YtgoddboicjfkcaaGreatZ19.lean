/- Contracts and mathematics, part 19. -/
import Derived.Test.YtgoddboicjfkcaaGreatZ18
set_option linter.unusedVariables false
set_option linter.unusedSimpArgs false
set_option maxRecDepth 100000
set_option maxHeartbeats 8000000
namespace Go.Proofs.YtgoddboicjfkcaaGreat
namespace mg
open Go.RowKit Go.Sort
open dn (En lget lset ldel nerr dotB Sorted lessB)
open br (BS Ino Inv fresh)
open cb (BrX RetW RetI No)
open bl (Pq Only)
theorem nodup_le {α:Type} [DecidableEq α]:∀(ns l:List α),ns.Nodup→(∀x,x∈ns→x∈l)→ns.length≤l.length
 | [],_,_,_=>Nat.zero_le _
 | a::ns,l,hn,hs=>by
  have h1:=List.nodup_cons.1 hn
  have ha:a∈l:=hs a List.mem_cons_self
  have h2:=nodup_le ns (l.erase a) h1.2 fun x hx=>(List.mem_erase_of_ne (fun e=>h1.1 (by rw [←e];exact hx))).2 (hs x (List.mem_cons_of_mem _ hx))
  rw [List.length_erase_of_mem ha] at h2
  have:=List.length_pos_of_mem ha
  simp only [List.length_cons]
  omega
theorem Coll.len {U L:BS} {n:Nd} {r1 r2:Nat} {left:ByteArray→Bool} {ns:List ByteArray} (hU:Inv U r1) (hL:Inv L r2) (h:Coll U L (pairF U L n) left ns):ns.length≤8000:=by
 have h1:=nodup_le ns ((U.all n.1).1.map (·.1)++(L.all (belV U n)).1.map (·.1)) h.nd fun s hs=>by
  obtain ⟨⟨p,e,_⟩,_⟩:=(h.mem s).1 hs
  unfold pairF at e
  rw [fold2 _ _ _ (all_sorted hL _),fold1 _ _ _ (all_sorted hU _)] at e
  rw [List.mem_append]
  cases e1:lget s (L.all (belV U n)).1 with
  | some v =>
   right
   have:=(dn.lget_some (all_sorted hL _)).1 e1
   exact List.mem_map.2 ⟨_,this,rfl⟩
  | none =>
   rw [e1] at e
   cases e2:lget s (U.all n.1).1 with
   | some v =>
    left
    have:=(dn.lget_some (all_sorted hU _)).1 e2
    exact List.mem_map.2 ⟨_,this,rfl⟩
   | none=>rw [e2] at e;cases e
 have h2:=all_len hU n.1
 have h3:=all_len hL (belV U n)
 simp only [List.length_append,List.length_map] at h1
 omega
structure QB (w:World) (g:Nat) (v:Value):Prop where
 c:w.cell? ⟨g,0,none⟩=some v
 f:w.frozen? ⟨g,0,none⟩=false
theorem QB.same {w w':World} {g:Nat} {v:Value} (h:QB w g v) (e:w'.heap[g]?=w.heap[g]?):QB w' g v:=⟨(World.cell?_of_block (a:=⟨g,0,none⟩) e).trans h.c,(World.frozen?_of_block (a:=⟨g,0,none⟩) e).trans h.f⟩
theorem QB.lt {w:World} {g:Nat} {v:Value} (h:QB w g v):g<w.heap.size:=World.block_lt_of_cell? _ _ h.c
theorem QB.below {w w':World} {g:Nat} {v:Value} (h:QB w g v) (hb:Below w.heap.size w w'):QB w' g v:=h.same (hb.block g h.lt)
theorem QB.grown {w w':World} {g:Nat} {v:Value} {row:Option Nat} (h:QB w g v) (hg:w.grownBy w' row) (hr:row≠some g):QB w' g v:=h.same (hg.block g h.lt hr.symm)
theorem QB.set {w:World} {g:Nat} {v:Value} (h:QB w g v) (u:Value):QB (w.setCell ⟨g,0,none⟩ u) g u:=⟨World.cell?_setCell_same' _ _ _ (by rw [h.c];rfl),by simp [h.f]⟩
theorem grown_bel {w0 w w':World} {row:Option Nat} (hb:Below w0.heap.size w0 w) (hg:w.grownBy w' row) (hr:∀k,row=some k→w0.heap.size≤k):Below w0.heap.size w0 w':=hb.grown hg hb.size hr
theorem Ow.row {w:World} {B:Nat} {v:Value} {ns:List ByteArray} (h:Ow w B v ns):∀k,v.ownBlock=some k→B≤k:=fun k hk=>(World.ownsRow.lt h k hk).1
theorem Ow.of {w:World} {B:Nat} {v:Value} {ns:List ByteArray} {x:ByteArray} (h:w.ownsRow B 9 1 v (ns.length+1) (ns.map Value.string++[.string x])):Ow w B v (ns++[x]):=by unfold Ow;rw [List.length_append,List.map_append];exact h
structure LW (w wr:World) (gq B:Nat) (v:Value) (ns:List ByteArray):Prop where
 ow:Ow wr B v ns
 qb:QB wr gq v
 bel:Below w.heap.size w wr
 hB:B≤wr.heap.size
 gl:gq<B
 gw:w.heap.size≤gq
theorem LW.below {w wr w':World} {gq B:Nat} {v:Value} {ns:List ByteArray} (h:LW w wr gq B v ns) (hb:Below wr.heap.size wr w'):LW w w' gq B v ns :=
 ⟨h.ow.below hb,h.qb.below hb,bel_step h.bel hb,Nat.le_trans h.hB hb.size,h.gl,h.gw⟩
theorem LW.next {w wr w':World} {gq B r:Nat} {v:Value} {ns:List ByteArray} (h:LW w wr gq B v ns) (hg:wr.grownBy w' (some r)) (hr:r<B) (h0:gq<r):LW w w' gq B v ns :=
 ⟨h.ow.grown hg hr,h.qb.grown hg (fun e=>by injection e with e;omega),grown_bel h.bel hg (fun k e=>by injection e with e;have:=h.gw;omega),Nat.le_trans h.hB hg.size,h.gl,h.gw⟩
theorem LW.app {w wr w':World} {gq B:Nat} {v v':Value} {ns ns':List ByteArray} (h:LW w wr gq B v ns) (hg:wr.grownBy w' v.ownBlock) (ho:Ow w' B v' ns'):LW w (w'.setCell ⟨gq,0,none⟩ v') gq B v' ns':=by
 have hr:=h.ow.row
 have hq:QB w' gq v:=h.qb.grown hg (fun e=>by have:=hr _ e;have:=h.gl;omega)
 have hb:Below w.heap.size w w':=grown_bel h.bel hg (fun k e=>by have:=hr _ e;have:=h.gl;have:=h.gw;omega)
 exact ⟨ho.grown (grown_set w' gq 0 v') h.gl,hq.set v',set_below hb h.gw _,by rw [set_size];exact Nat.le_trans h.hB hg.size,h.gl,h.gw⟩
theorem all_any {w:World} {V P1 P2:Nat} {u l:Int} {U L:BS} {r1 r2:Nat} (h:Vx w V P1 P2 u l U L) (hU:Inv U r1) (hL:Inv L r2) (n:Nd):Calls Tryz.prog 21 #[Pq V,Nv n] w (AllE w U L n):=by
 obtain ⟨n1,n2⟩:=n
 obtain ⟨w1,hw1⟩:∃w1,w.alloc (.cells #[.int .i64 n1,.int .i64 n2] 24)=w1:=⟨_,rfl⟩
 have qa:Below w.heap.size w w1:=by rw [←hw1];exact bel_alloc _ _
 have da:Nb w1 w.heap.size (n1,n2):=by rw [←hw1];exact Nb.new w n1 n2
 have Q4:=Qa qa
 have Qg:=Qa da
 have Xm:=Qa (fun W (hb:Below w.heap.size w W)=>h.below hb)
 have Qh:=Qa (listed_any (h.below qa) (n1,n2))
 have Qi:=Qa (fun W (hb:Below w.heap.size w W)=>pairs_any (h.below hb) hU hL (n1,n2))
 have Qm:=Qa (fun W p (hb:Below w.heap.size w W)=>seen_any (h.below hb) p)
 have Qb:=Qa (And.intro hU hL)
 have Qn:=Qa (show ∀(W:World) (A:Option Addr) (c:Nat) (ll:List ByteArray),AllV U L (n1,n2) ll→NR W w.heap.size A ll→ll.length≤c→c≤maxLen→ll.length≤8000→Below w.heap.size w W→AllE w U L (n1,n2) (.returned (.tuple #[.slice A ll.length c,.int .i64 (lstV U L (n1,n2))])) W from fun W A c ll a1 a2 a3 a4 a5 a6=>⟨A,c,ll,rfl,a1,a2,a3,a4,a5,a6⟩)
 unfold RetI at Qh
 unfold PairsE at Qi
 obtain ⟨pf,hpf⟩:∃pf,pairF U L (n1,n2)=pf:=⟨_,rfl⟩
 rw [hpf] at Qi
 have Qo:=Qa hpf
 clear hpf
 unfold RetW at Qm
 obtain ⟨le,hle⟩:∃le,lstV U L (n1,n2)=le:=⟨_,rfl⟩
 rw [hle] at Qh Qn
 have Q5:=Qa hle
 clear h hU hL qa da hle
 obtain ⟨g,hg⟩:∃g,w.heap.size=g:=⟨_,rfl⟩
 have Xs:=Qa hg
 rw [hg] at Qg
 obtain ⟨t0,t1⟩:=Qg.out
 dsimp only at t0 t1
 go_enter Tryz.func21,Tryz.ntmps21
 go_wp2_with fail
 refine Qh.out.mono ?_
 rintro _ w2 ⟨rfl,hb2⟩
 have Qj:=Qa (bel_step Q4.out hb2)
 have Q6:=Qa (Qg.out.below hb2)
 clear hw1 hb2 Q4 Qg t0 t1 Qh
 by_cases e0:le=0
 case neg =>
  have q0:(le != 0)=true:=by simpa using e0
  have Xn:=Qa (AllV.none (U:=U) (L:=L) (n:=(n1,n2)) (by rw [Q5.out];exact e0))
  go_wp2_with fail
  go_ret2
  exact Qn.out w2 none 0 [] Xn.out (NR.nil _ _ _) (Nat.le_refl _) (by unfold maxLen;omega) (Nat.zero_le _) Qj.out
 subst e0
 obtain ⟨w3,hw3⟩:∃w3,w2.alloc (.cells #[.slice none 0 0] 43)=w3:=⟨_,rfl⟩
 have Qp:=Qa (show Below w.heap.size w w3 by rw [←hw3];exact bel_step Qj.out (bel_alloc _ _))
 have Q7:=Qa (show Nb w3 g (n1,n2) by rw [←hw3];exact Q6.out.below (bel_alloc _ _))
 have Qq:=Qa (show QB w3 w2.heap.size (.slice none 0 0) by rw [←hw3];exact ⟨by simp,by simp⟩)
 obtain ⟨gq,hgq⟩:∃gq,w2.heap.size=gq:=⟨_,rfl⟩
 have Qr:=Qa (show w.heap.size≤gq∧w3.heap.size=gq+1 by rw [←hw3,World.size_alloc,hgq];exact ⟨by have:=Qj.out.size;omega,rfl⟩)
 rw [hgq] at Qq
 obtain ⟨t0,t1⟩:=Q7.out
 dsimp only at t0 t1
 have Q8:=Qa (Qi.out _ Qp.out)
 clear Qi Q6 Qj
 go_wp2_with fail
 refine Q8.out.mono ?_
 rintro _ w4 ⟨M,S,rfl,hm4,hM4,hb4⟩
 obtain ⟨r,hr⟩:∃r,w4.heap.size=r:=⟨_,rfl⟩
 have Q9:=Qa hr
 have Xa:=Qa hm4
 have Xb:=Qa (Qq.out.below hb4)
 have Xc:=Qa (bel_step Qp.out hb4)
 have Qs:=Qa (show gq<M∧M<r by have:=Qr.out.2;have:=hm4.lt;omega)
 clear hw3 hm4 hM4 hb4 Q8 Qp Q7 Qq t0 t1 hgq hr
 go_wp2_with (first|(at_range;refine list_rangeN _ rfl _ rfl M S _ rfl r Q9.out Xa.out ?_;intro w5 cnt0 hrg0 hb5 hs5)|fail)
 go_frame
 have Xd:=Qa (show LW w w5 gq (r+1) (.slice none 0 0) [] from ⟨World.ownsRow_nil _ _ _ _,Xb.out.below hb5,bel_step Xc.out hb5,by omega,by have:=Qs.out;omega,Qr.out.1⟩)
 have Xe:=Qa (Coll.start U L pf)
 have Xf:=Qa hrg0
 have Qe:=Qa (show gq<M∧M<r from Qs.out)
 clear hrg0 hb5 hs5 Q9 Xa Xb Xc Qs Qr
 go_loopg [20] cnt0 (fun g' _ wr=>∃(v:Value) (ns:List ByteArray) (left:ByteArray→Bool),Hid (MapRN wr M r S pf left g')∧Hid (Coll U L pf left ns)∧Hid (LW w wr gq (r+1) v ns))
 case atStart=>exact ⟨_,_,_,Xf,Xe,Xd⟩
 case round =>
  clear Xf Xe Xd
  obtain ⟨v,ns,left,HM,HC,HW⟩:=hrel
  go_wp2_with (first|(at_next;refine list_nextN _ rfl _ rfl M r S gk pf left rfl HM.out ?_ ?_)|fail)
  ·intro h0
   have HA:=Qa (fun ll=>Coll.all (l:=ll) (n:=(n1,n2)) Qb.out.1 Qb.out.2 Q5.out (by rw [Qo.out];exact HC.out) h0)
   have Qd:=Qa (Coll.len (n:=(n1,n2)) Qb.out.1 Qb.out.2 (by rw [Qo.out];exact HC.out))
   obtain ⟨A,c,rfl,hlc,hcm,hnr⟩:=HW.out.ow.form
   have qc:=HW.out.qb.c
   have ja:=hnr
   clear h0 hnr HM HC Xm Qm Qb
   have Qk:=Qa (sort_any ja Qd.out qc HW.out.gl HW.out.hB)
   unfold SortE at Qk
   have Ql:=Qa (show Below w.heap.size w wr∧gq<r+1∧w.heap.size≤r+1 from ⟨HW.out.bel,HW.out.gl,Nat.le_trans HW.out.gw (Nat.le_of_lt HW.out.gl)⟩)
   obtain ⟨nl,hnl⟩:∃nl,ns.length=nl:=⟨_,rfl⟩
   have Xo:=Qa hnl
   rw [hnl] at Qk qc Qd hlc
   clear hnl
   go_wp2_with fail
   refine Qk.out.mono ?_
   rintro e w7 ⟨ll,rfl,hpm,hso,hnr7,ma⟩
   have qc7:=(ma.cell (p:=⟨gq,0,none⟩) Ql.out.2.1).trans qc
   have Xp:=Qa (HA.out ll hpm hso)
   have Qt:=Qa (show ll.length=nl from by rw [hpm.length_eq];exact Xo.out)
   have Xq:=Qa (show Below w.heap.size w w7 from Ql.out.1.trans (ma.mono Ql.out.2.2))
   have Qv:=Qa (show NR w7 w.heap.size A ll from fun k x hx=>by
    obtain ⟨G,e,g1,g2,g3,g4⟩:=hnr7 k x hx
    exact ⟨G,e,Nat.le_trans Ql.out.2.2 g1,g2,g3,g4⟩)
   clear hpm hso hnr7 ma Qk HA qc
   go_wp2_with fail
   go_ret2
   have hD:=Qn.out w7 A c ll Xp.out Qv.out (by rw [Qt.out];exact hlc) hcm (by rw [Qt.out];exact Qd.out) Xq.out
   rw [Qt.out] at hD
   exact hD
  ·intro x p1 p2 w6 cnt' hfx hlx hxm hrg' hlt hg6 hs6 hen
   have Xg:=Qa (HW.out.next hg6 (by omega) (by have:=Qe.out;omega))
   have Xh:=Qa hrg'
   obtain ⟨w7,hw7⟩:∃w7,w6.alloc (.cells #[.int .i64 p1,.int .i64 p2] 24)=w7:=⟨_,rfl⟩
   have ma:Below w6.heap.size w6 w7:=by rw [←hw7];exact bel_alloc _ _
   have Qw:=Qa (Xg.out.below ma)
   have Xi:=Qa (Xh.out.kept ma)
   have Qx:=Qa (show Nb w7 w6.heap.size (p1,p2) by rw [←hw7];exact Nb.new w6 p1 p2)
   obtain ⟨gb,hgb⟩:∃gb,w6.heap.size=gb:=⟨_,rfl⟩
   rw [hgb] at Qx
   obtain ⟨t0,t1⟩:=Qx.out
   dsimp only at t0 t1
   have Xj:=Qa (Qm.out w7 (p1,p2) Qw.out.bel)
   have HQ:=Qa (fun W=>run_neq24 (seenV U L (p1,p2)) (0,0) W)
   have Qy:=Qa (fun (hz:seenV U L (p1,p2)=(0,0))=>HC.out.skip hfx hz)
   have Qz:=Qa (fun (hz:seenV U L (p1,p2)≠(0,0))=>HC.out.add hfx hlx hz)
   have Qd:=Qa (Coll.len (n:=(n1,n2)) Qb.out.1 Qb.out.2 (by rw [Qo.out];exact HC.out))
   generalize seenV U L (p1,p2)=sv at *
   obtain ⟨s1,s2⟩:=sv
   have ga:=guard24
   clear ma hrg' hg6 hs6 Xg Xh hfx hlx HC HW HM
   go_wp2_with fail
   refine Xj.out.mono ?_
   rintro _ w8 ⟨rfl,hb8⟩
   have Qf:=Qa (Qw.out.below hb8)
   have Q2:=Qa (Xi.out.kept hb8)
   clear hb8 Qw Xi Xj t0 t1 Qx hen hw7 hgb
   by_cases hz:((s1,s2):Nd)=(0,0)
   ·have hq:∀W,(binOp .neq 24 (.agg #[.int .i64 s1,.int .i64 s2]) (.agg #[.int .i64 0,.int .i64 0])).run Tryz.prog W=.ok (.bool false) W:=fun W=>by have:=HQ.out W;rw [decide_eq_true hz] at this;exact this
    have Q3:=Qa (Qy.out hz)
    clear HQ hz Qy Qz
    go_wp2_with fail
    go_roundg cnt'
    case measure=>omega
    case rel=>exact ⟨v,ns,_,Q2,Q3,Qf⟩
   ·have hq:∀W,(binOp .neq 24 (.agg #[.int .i64 s1,.int .i64 s2]) (.agg #[.int .i64 0,.int .i64 0])).run Tryz.prog W=.ok (.bool true) W:=fun W=>by have:=HQ.out W;rw [decide_eq_false hz] at this;exact this
    have Q3:=Qa (Qz.out hz)
    have qc:=Qf.out.qb.c
    have qf:=Qf.out.qb.f
    obtain ⟨i0,hi,hz0,hz1,hz2⟩:=info_parts9
    have Qc:=Qa (fun ob=>Qf.out.below (bel_alloc w8 ob))
    have Xr:=Qa (fun ob=>Q2.out.kept (bel_alloc w8 ob))
    clear HQ hz Qy Qz Qf Q2
    go_wp2_with (first|(at_builtin;go_must (refine wpList_append_own _ rfl (.tmp 30) (.tmp 32) 43 rfl (r+1) 9 i0 _ 1 16 Tryz.underlying43 hi hz0 hz1 hz2 rfl (by decide) v ns.length (ns.map Value.string) rfl (Qc.out _).ow ⟨w8.heap.size,0,none⟩ 1 1 [.string x] rfl rfl (cell_one_new _ _ _) (by intro u hu;simp at hu;subst hu;rfl) (by have:=Qd.out;unfold maxLen;omega) (by have:=Qd.out;omega) (Qc.out _).hB ?_;intro v' w9 hown9 hg9 _;have xa:Ow w9 (r+1) v' (ns++[x]):=Ow.of hown9;have Xk:=Qa (LW.app (Qc.out _) hg9 xa);have ya:QB w9 gq v:=(Qc.out _).qb.grown hg9 (fun e=>by have:=(Qc.out (.cells #[] 0)).ow.row _ e;have:=Qe.out;omega);have Xl:=Qa (((Xr.out _).keptG hg9 (fun e=>by have:=(Qc.out (.cells #[] 0)).ow.row _ e;have:=Qe.out;omega) (fun e=>by have:=(Qc.out (.cells #[] 0)).ow.row _ e;omega)).keptG (grown_set w9 gq 0 v') (fun e=>by injection e with e;have:=Qe.out;omega) (fun e=>by injection e with e;have:=Qe.out;omega));have qc9:=ya.c;have qf9:=ya.f;obtain ⟨A',c',hv',-⟩:=xa.form;subst hv';clear xa ya hown9 hg9 qc qf))|fail)
    go_roundg cnt'
    case measure=>omega
    case rel =>
     have e:(ns++[x]).length=ns.length+1:=by simp
     rw [e] at Xl Xk
     exact ⟨_,_,_,Xl,Q3,Xk⟩
end mg
namespace mg
open Go.RowKit
open br (BS Ino Inv fresh)
open cb (BrX RetW RetI No ReadI statV)
open bl (Pq Only)
structure R3 (w:World) (g:Nat) (x y z:Int):Prop where
 c0:w.cell? ⟨g,0,none⟩=some (.int .i64 x)
 c1:w.cell? ⟨g,1,none⟩=some (.int .i64 y)
 c2:w.cell? ⟨g,2,none⟩=some (.int .i64 z)
 f0:w.frozen? ⟨g,0,none⟩=false
 f1:w.frozen? ⟨g,1,none⟩=false
 f2:w.frozen? ⟨g,2,none⟩=false
theorem R3.new (w:World) (x y z:Int):R3 (w.alloc (.cells #[.int .i64 x,.int .i64 y,.int .i64 z] 47)) w.heap.size x y z:=⟨by simp,by simp,by simp,by simp,by simp,by simp⟩
theorem R3.lt {w:World} {g:Nat} {x y z:Int} (h:R3 w g x y z):g<w.heap.size:=World.block_lt_of_cell? _ _ h.c0
theorem R3.same {w w':World} {g:Nat} {x y z:Int} (h:R3 w g x y z) (e:w'.heap[g]?=w.heap[g]?):R3 w' g x y z :=
 ⟨(World.cell?_of_block (a:=⟨g,0,none⟩) e).trans h.c0,(World.cell?_of_block (a:=⟨g,1,none⟩) e).trans h.c1,(World.cell?_of_block (a:=⟨g,2,none⟩) e).trans h.c2,(World.frozen?_of_block (a:=⟨g,0,none⟩) e).trans h.f0,(World.frozen?_of_block (a:=⟨g,1,none⟩) e).trans h.f1,(World.frozen?_of_block (a:=⟨g,2,none⟩) e).trans h.f2⟩
theorem R3.below {w w':World} {g:Nat} {x y z:Int} (h:R3 w g x y z) (hb:Below w.heap.size w w'):R3 w' g x y z:=h.same (hb.block g h.lt)
theorem R3.range {w:World} {g:Nat} {x y z:Int} (h:R3 w g x y z) (a b c:Value):(((w.setCell ⟨g,0,none⟩ a).setCell ⟨g,1,none⟩ b).setCell ⟨g,2,none⟩ c).rangeAt g 0 [a,b,c]:=by
 have ne:∀i j:Nat,i≠j→(⟨g,j,none⟩:Addr)≠⟨g,i,none⟩:=fun i j h e=>by injection e with _ e;exact h e.symm
 have c0:(w.cell? ⟨g,0,none⟩).isSome=true:=by rw [h.c0];rfl
 have c1:(w.cell? ⟨g,1,none⟩).isSome=true:=by rw [h.c1];rfl
 have c2:(w.cell? ⟨g,2,none⟩).isSome=true:=by rw [h.c2];rfl
 intro j v hv
 rw [Nat.zero_add]
 match j,hv with
 | 0,hv =>
  cases hv
  rw [World.cell?_setCell_other _ _ _ _ (ne 0 2 (by decide)),World.cell?_setCell_other _ _ _ _ (ne 0 1 (by decide))]
  exact World.cell?_setCell_same' _ _ _ c0
 | 1,hv =>
  cases hv
  rw [World.cell?_setCell_other _ _ _ _ (ne 1 2 (by decide))]
  exact World.cell?_setCell_same' _ _ _ (by rw [World.cell?_setCell_other _ _ _ _ (ne 1 0 (by decide))];exact c1)
 | 2,hv=>cases hv;exact World.cell?_setCell_same' _ _ _ (by rw [World.cell?_setCell_other _ _ _ _ (ne 2 1 (by decide)),World.cell?_setCell_other _ _ _ _ (ne 2 0 (by decide))];exact c2)
 | j+3,hv=>simp at hv
theorem R3.mid {w:World} {g:Nat} {x y z:Int} (h:R3 w g x y z) (a:Int):R3 (w.setCell ⟨g,1,none⟩ (.int .i64 a)) g x a z:=by
 have ne:∀i j:Nat,i≠j→(⟨g,j,none⟩:Addr)≠⟨g,i,none⟩:=fun i j h e=>by injection e with _ e;exact h e.symm
 have c1:(w.cell? ⟨g,1,none⟩).isSome=true:=by rw [h.c1];rfl
 exact ⟨by rw [World.cell?_setCell_other _ _ _ _ (ne 0 1 (by decide))];exact h.c0,World.cell?_setCell_same' _ _ _ c1,by rw [World.cell?_setCell_other _ _ _ _ (ne 2 1 (by decide))];exact h.c2,by simp [h.f0],by simp [h.f1],by simp [h.f2]⟩
theorem set3_below {w0 w:World} {g:Nat} (hb:Below w0.heap.size w0 w) (hg:w0.heap.size≤g) (a b c:Value):Below w0.heap.size w0 (((w.setCell ⟨g,0,none⟩ a).setCell ⟨g,1,none⟩ b).setCell ⟨g,2,none⟩ c) :=
 set_below (set2_below hb hg a b) hg c
def statN (U L:BS) (n:Nd) (cnt:Int):(Int×Int×Int)×Int :=
 if kindV U L n=0 then ((0,0,0),2)
 else (((if n.1≠0 then U.stat n.1 else L.stat n.2).1.1,if kindV U L n=2 then cnt else ((if n.1≠0 then U.stat n.1 else L.stat n.2).1.2.1:Int),(if n.1≠0 then U.stat n.1 else L.stat n.2).1.2.2),(if n.1≠0 then U.stat n.1 else L.stat n.2).2)
abbrev Sv3 (r:(Int×Int×Int)×Int):Value:=.tuple #[.agg #[.int .i64 r.1.1,.int .i64 r.1.2.1,.int .i64 r.1.2.2],.int .i64 r.2]
def StatE (w:World) (U L:BS) (n:Nd) (e:Ending) (w':World):Prop:=∃l:List ByteArray,AllV U L n l∧e=.returned (Sv3 (statN U L n l.length))∧Below w.heap.size w w'
theorem Vx.statB {w:World} {V P1 P2:Nat} {u l:Int} {U L:BS} (h:Vx w V P1 P2 u l U L) (n:Nd):Calls Tryz.prog 58 #[Pq (if n.1≠0 then P1 else P2),.int .i64 (if n.1≠0 then n.1 else n.2)] w (RetW w (.tuple #[.agg #[.int .i64 (if n.1≠0 then U.stat n.1 else L.stat n.2).1.1,.int .i64 ((if n.1≠0 then U.stat n.1 else L.stat n.2).1.2.1:Int),.int .i64 (if n.1≠0 then U.stat n.1 else L.stat n.2).1.2.2],.int .i64 (if n.1≠0 then U.stat n.1 else L.stat n.2).2])):=by
 by_cases e:n.1≠0
 ·simp only [Jb e];obtain ⟨_,_,_,k⟩:=h.b1;exact cb.x_stat k _
 ·simp only [Ja e];obtain ⟨_,_,_,k⟩:=h.b2;exact cb.x_stat k _
def targN (U L:BS) (n:Nd):ByteArray×Int:=if kindV U L n=0 then (⟨#[]⟩,2) else if n.1≠0 then U.targetOf n.1 else L.targetOf n.2
theorem Vx.targB {w:World} {V P1 P2:Nat} {u l:Int} {U L:BS} (h:Vx w V P1 P2 u l U L) (n:Nd):Calls Tryz.prog 60 #[Pq (if n.1≠0 then P1 else P2),.int .i64 (if n.1≠0 then n.1 else n.2)] w (fun e w'=>e=.returned (.tuple #[.string (if n.1≠0 then U.targetOf n.1 else L.targetOf n.2).1,.int .i64 (if n.1≠0 then U.targetOf n.1 else L.targetOf n.2).2])∧w'=w):=by
 by_cases e:n.1≠0
 ·simp only [Jb e];obtain ⟨_,_,_,k⟩:=h.b1;exact cb.x_target k _
 ·simp only [Ja e];obtain ⟨_,_,_,k⟩:=h.b2;exact cb.x_target k _
def readN (U L:BS) (n:Nd):BS×Int:=if n.1≠0 then (U,n.1) else (L,n.2)
theorem Vx.readB {w:World} {V P1 P2:Nat} {u l:Int} {U L:BS} (h:Vx w V P1 P2 u l U L) (n:Nd) (off sz:Int):Calls Tryz.prog 59 #[Pq (if n.1≠0 then P1 else P2),.int .i64 (if n.1≠0 then n.1 else n.2),.int .i64 off,.int .i64 sz] w (ReadI w (readN U L n).1 (readN U L n).2 off sz):=by
 unfold readN
 by_cases e:n.1≠0
 ·simp only [Jb e];obtain ⟨_,_,_,k⟩:=h.b1;exact cb.x_read k _ _ _
 ·simp only [Ja e];obtain ⟨_,_,_,k⟩:=h.b2;exact cb.x_read k _ _ _
theorem target_any {w:World} {V P1 P2:Nat} {u l:Int} {U L:BS} (h:Vx w V P1 P2 u l U L) (n:Nd):Calls Tryz.prog 26 #[Pq V,Nv n] w (RetW w (.tuple #[.string (targN U L n).1,.int .i64 (targN U L n).2])):=by
 obtain ⟨w1,hw1,h1,hn1,hb1⟩:=box_in h n.1 n.2
 have HK:=Qa (kind_any h1 n)
 have HS:=Qa (fun W (hb:Below w.heap.size w W)=>shown_any (h.below hb) n)
 have HT:=Qa (fun W (hb:Below w.heap.size w W)=>(h.below hb).targB n)
 have HV:=Qa (show targN U L n=if kindV U L n=0 then (⟨#[]⟩,2) else (if n.1≠0 then U.targetOf n.1 else L.targetOf n.2) from rfl)
 unfold RetI at HK
 unfold RetW at HS
 generalize targN U L n=tv at *
 generalize kindV U L n=k at *
 generalize (if n.1≠0 then U.targetOf n.1 else L.targetOf n.2)=tt at *
 generalize (if n.1≠0 then P1 else P2)=P at *
 generalize (if n.1≠0 then n.1 else n.2)=i at *
 obtain ⟨g,hg⟩:∃g,w.heap.size=g:=⟨_,rfl⟩
 have HB:=Qa hb1
 rw [hg] at hn1
 obtain ⟨n1,n2⟩:=n
 have HN:=Qa hn1
 have t0:=hn1.c0
 have t1:=hn1.c1
 dsimp only at t0 t1 hw1
 clear h h1 hn1 hb1
 go_enter Tryz.func26,Tryz.ntmps26
 go_wp2_with fail
 refine HK.out.mono ?_
 rintro _ w2 ⟨rfl,hb2⟩
 have Qb:=Qa (bel_step HB.out hb2)
 have Qd:=Qa (HN.out.below hb2)
 clear HK hb2 HB HN t0 t1
 by_cases e0:k=0
 ·subst e0
  rw [Jb rfl] at HV
  go_wp2_with fail
  go_ret2
  exact ⟨by rw [HV.out];rfl,Qb.out⟩
 have q0:(k == 0)=false:=by simpa using e0
 rw [Ja e0] at HV
 obtain ⟨t0,t1⟩:=Qd.out
 dsimp only at t0 t1
 have Qe:=Qa (HS.out _ Qb.out)
 clear HS
 go_wp2_with fail
 refine Qe.out.mono ?_
 rintro _ w3 ⟨rfl,hb3⟩
 have Qf:=Qa (bel_step Qb.out hb3)
 have Qc:=Qa (HT.out _ Qf.out)
 obtain ⟨ts,te⟩:=tt
 dsimp only at Qc
 clear Qe hb3 HT t0 t1 Qd
 go_wp2_with fail
 refine Qc.out.mono ?_
 rintro _ w4 ⟨rfl,rfl⟩
 clear Qc
 go_wp2_with fail
 go_ret2
 exact ⟨by rw [HV.out];rfl,Qf.out⟩
theorem row_lo {w:World} {lo lo' n c:Nat} {A:Option Addr} {f:Nat→UInt8} (h:bl.Row w lo A n c f) (hl:lo'≤lo):bl.Row w lo' A n c f:=⟨h.1,h.2.imp id fun ⟨g,a,b,d⟩=>⟨g,Nat.le_trans hl a,b,d⟩⟩
def ReadN (w:World) (U L:BS) (n:Nd) (off sz:Int) (e:Ending) (w':World):Prop :=
 (kindV U L n=0∧e=.returned (.tuple #[.slice none 0 0,.int .i64 2])∧Below w.heap.size w w')∨(kindV U L n≠0∧ReadI w (readN U L n).1 (readN U L n).2 off sz e w')
theorem read_any {w:World} {V P1 P2:Nat} {u l:Int} {U L:BS} (h:Vx w V P1 P2 u l U L) (n:Nd) (off sz:Int):Calls Tryz.prog 28 #[Pq V,Nv n,.int .i64 off,.int .i64 sz] w (ReadN w U L n off sz):=by
 obtain ⟨w1,hw1,h1,hn1,hb1⟩:=box_in h n.1 n.2
 have HK:=Qa (kind_any h1 n)
 have HS:=Qa (fun W (hb:Below w.heap.size w W)=>shown_any (h.below hb) n)
 have HT:=Qa (fun W (hb:Below w.heap.size w W)=>(h.below hb).readB n off sz)
 have HV:=Qa (show ∀A m c er W,kindV U L n≠0→Below w.heap.size w W→ReadI W (readN U L n).1 (readN U L n).2 off sz (.returned (.tuple #[.slice A m c,.int .i64 er])) W→True from fun _ _ _ _ _ _ _ _=>trivial)
 have Qg:=Qa (show ∀W,kindV U L n=0→Below w.heap.size w W→ReadN w U L n off sz (.returned (.tuple #[.slice none 0 0,.int .i64 2])) W from fun W a b=>.inl ⟨a,rfl,b⟩)
 have Qh:=Qa (show ∀W A c,kindV U L n≠0→bl.Row W w.heap.size A (cb.readI (readN U L n).1 (readN U L n).2 off sz).2 c (fun j=>((readN U L n).1.at (readN U L n).2).body.dat (off.toNat+j))→Below w.heap.size w W→ReadN w U L n off sz (.returned (.tuple #[.slice A (cb.readI (readN U L n).1 (readN U L n).2 off sz).2 c,.int .i64 (cb.readI (readN U L n).1 (readN U L n).2 off sz).1])) W from fun W A c a b d=>.inr ⟨a,A,c,rfl,b,d⟩)
 unfold RetI at HK
 unfold RetW at HS
 unfold ReadI at HT
 generalize kindV U L n=k at *
 generalize (cb.readI (readN U L n).1 (readN U L n).2 off sz).1=rn at *
 generalize (cb.readI (readN U L n).1 (readN U L n).2 off sz).2=re at *
 generalize (fun j=>((readN U L n).1.at (readN U L n).2).body.dat (off.toNat+j))=rf at *
 generalize (if n.1≠0 then P1 else P2)=P at *
 generalize (if n.1≠0 then n.1 else n.2)=i at *
 obtain ⟨g,hg⟩:∃g,w.heap.size=g:=⟨_,rfl⟩
 have HB:=Qa hb1
 have Ql:=Qa hg
 rw [hg] at hn1
 obtain ⟨n1,n2⟩:=n
 have HN:=Qa hn1
 have t0:=hn1.c0
 have t1:=hn1.c1
 dsimp only at t0 t1 hw1
 clear h h1 hn1 hb1 HV
 go_enter Tryz.func28,Tryz.ntmps28
 go_wp2_with fail
 refine HK.out.mono ?_
 rintro _ w2 ⟨rfl,hb2⟩
 have Qb:=Qa (bel_step HB.out hb2)
 have Qd:=Qa (HN.out.below hb2)
 clear HK hb2 HB HN t0 t1
 by_cases e0:k=0
 ·subst e0
  go_wp2_with fail
  go_ret2
  exact Qg.out _ (by first|rfl|trivial) Qb.out
 have q0:(k == 0)=false:=by simpa using e0
 have Qi:=Qa e0
 obtain ⟨t0,t1⟩:=Qd.out
 dsimp only at t0 t1
 have Qe:=Qa (HS.out _ Qb.out)
 clear HS e0
 go_wp2_with fail
 refine Qe.out.mono ?_
 rintro _ w3 ⟨rfl,hb3⟩
 have Qc:=Qa (bel_step Qb.out hb3)
 have Qf:=Qa (HT.out _ Qc.out)
 clear Qe hb3 HT t0 t1 Qd
 go_wp2_with fail
 refine Qf.out.mono ?_
 rintro _ w4 ⟨A,c,rfl,hrow,hb4⟩
 have Qj:=Qa (bel_step Qc.out hb4)
 have Qk:=Qa (show bl.Row w4 w.heap.size A re c rf from row_lo hrow Qc.out.size)
 clear Qf hrow hb4
 go_wp2_with fail
 go_ret2
 exact Qh.out _ _ _ Qi.out Qk.out Qj.out
theorem stat_any {w:World} {V P1 P2:Nat} {u l:Int} {U L:BS} {r1 r2:Nat} (h:Vx w V P1 P2 u l U L) (hU:Inv U r1) (hL:Inv L r2) (n:Nd):Calls Tryz.prog 23 #[Pq V,Nv n] w (StatE w U L n):=by
 obtain ⟨w1,hw1⟩:∃w1,(w.alloc (.cells #[.int .i64 n.1,.int .i64 n.2] 24)).alloc (.cells #[.int .i64 0,.int .i64 0,.int .i64 0] 47)=w1:=⟨_,rfl⟩
 have ja:Below w.heap.size w w1:=by rw [←hw1];exact bel_step (bel_alloc _ _) (bel_alloc _ _)
 have ma:Nb w1 w.heap.size (n.1,n.2):=by rw [←hw1];exact (Nb.new w n.1 n.2).below (bel_alloc _ _)
 have xa:R3 w1 (w.heap.size+1) 0 0 0:=by rw [←hw1];have:=R3.new (w.alloc (.cells #[.int .i64 n.1,.int .i64 n.2] 24)) 0 0 0;rwa [World.size_alloc] at this
 have ya:w1.heap.size=w.heap.size+1+1:=by rw [←hw1,World.size_alloc,World.size_alloc]
 have HK:=Qa (kind_any (h.below ja) n)
 have HS:=Qa (fun W (hb:Below w.heap.size w W)=>shown_any (h.below hb) n)
 have HT:=Qa (fun W (hb:Below w.heap.size w W)=>(h.below hb).statB n)
 have HA:=Qa (fun W (hb:Below w.heap.size w W)=>all_any (h.below hb) hU hL n)
 have HV:=Qa (fun c=>show statN U L n c=(if kindV U L n=0 then ((0,0,0),2) else (((if n.1≠0 then U.stat n.1 else L.stat n.2).1.1,if kindV U L n=2 then c else ((if n.1≠0 then U.stat n.1 else L.stat n.2).1.2.1:Int),(if n.1≠0 then U.stat n.1 else L.stat n.2).1.2.2),(if n.1≠0 then U.stat n.1 else L.stat n.2).2)) from rfl)
 have HD:=Qa (show ∀W (ll:List ByteArray),AllV U L n ll→Below w.heap.size w W→StatE w U L n (.returned (Sv3 (statN U L n ll.length))) W from fun W ll a b=>⟨ll,a,rfl,b⟩)
 have Qb:=Qa (show kindV U L n≠2→AllV U L n [] from fun e=>AllV.none (by rcases lst_cases U L n with ⟨a,_⟩|⟨_,a⟩|⟨a,_⟩;omega;exact absurd a e;omega))
 unfold RetI at HK
 unfold RetW at HS HT
 unfold AllE at HA
 obtain ⟨sn,hsn⟩:∃sn,statN U L n=sn:=⟨_,rfl⟩
 rw [hsn] at HV HD
 clear hsn
 generalize kindV U L n=k at *
 generalize lstV U L n=le at *
 generalize (if n.1≠0 then U.stat n.1 else L.stat n.2)=tt at *
 obtain ⟨⟨ta,tb,tc⟩,te⟩:=tt
 dsimp only at HT HV
 generalize (if n.1≠0 then P1 else P2)=P at *
 generalize (if n.1≠0 then n.1 else n.2)=i at *
 generalize (tb:Int)=tz at *
 obtain ⟨g,hg⟩:∃g,w.heap.size=g:=⟨_,rfl⟩
 have HB:=Qa ja
 have Qf:=Qa hg
 have HZ:=Qa ya
 rw [hg] at ma xa HZ
 obtain ⟨n1,n2⟩:=n
 have HN:=Qa ma
 have HR:=Qa xa
 have t0:=ma.c0
 have t1:=ma.c1
 dsimp only at t0 t1 hw1
 clear h hU hL ma ja xa ya
 go_enter Tryz.func23,Tryz.ntmps23
 go_wp2_with fail
 refine HK.out.mono ?_
 rintro _ w2 ⟨rfl,hb2⟩
 have Qg:=Qa (bel_step HB.out hb2)
 have Ql:=Qa (HN.out.below hb2)
 have Qh:=Qa (HR.out.below hb2)
 have Xa:=Qa (show g+1<w2.heap.size from (HR.out.below hb2).lt)
 clear hw1 HK hb2 HB HN HR HZ t0 t1
 by_cases e0:k=0
 ·subst e0
  have Qq:=Qa (HV.out 0)
  rw [Jb rfl] at Qq
  have Qm:=Qa (Qb.out (by decide))
  obtain ⟨s0,s1,s2,v0,v1,v2⟩:=Qh.out
  have Qc:=Qa (fun a b c=>(Qh).out.range a b c)
  have Qd:=Qa (fun a b c=>set3_below (Qg).out (show w.heap.size≤g+1 by have:=Qf.out;omega) a b c)
  clear HV Qb
  go_wp2_with fail
  refine bodyPost_ret (results_row_tmp rfl _ _ (g+1) _ _ rfl (Qc.out _ _ _) Tryz.underlying47 (by rfl) (by rfl)) rfl ?_
  have hD:=HD.out _ [] Qm.out (Qd.out (.int .i64 0) (.int .i64 0) (.int .i64 0))
  rw [show ((([]:List ByteArray).length:Nat):Int)=0 from rfl,Qq.out] at hD
  exact hD
 have q0:(k == 0)=false:=by simpa using e0
 obtain ⟨t0,t1⟩:=Ql.out
 dsimp only at t0 t1
 have Qr:=Qa (HS.out _ Qg.out)
 have Q6:=Qa e0
 clear HS e0
 go_wp2_with fail
 refine Qr.out.mono ?_
 rintro _ w3 ⟨rfl,hb3⟩
 have Qn:=Qa (bel_step Qg.out hb3)
 have Qs:=Qa (Ql.out.below hb3)
 have Qt:=Qa (Qh.out.below hb3)
 have Qv:=Qa (HT.out _ Qn.out)
 clear Qr hb3 HT t0 t1 Ql Qh Qg
 go_wp2_with fail
 refine Qv.out.mono ?_
 rintro _ w4 ⟨rfl,hb4⟩
 have Qw:=Qa (bel_step Qn.out hb4)
 have Qx:=Qa (Qs.out.below hb4)
 have Qo:=Qa (Qt.out.below hb4)
 clear Qv hb4 Qn Qs Qt
 obtain ⟨w5,hw5⟩:∃w5,w4.alloc (.cells #[.int .i64 ta,.int .i64 tz,.int .i64 tc] 47)=w5:=⟨_,rfl⟩
 have qa:Below w4.heap.size w4 w5:=by rw [←hw5];exact bel_alloc _ _
 have Qi:=Qa (bel_step Qw.out qa)
 have Qy:=Qa (Qx.out.below qa)
 have Qj:=Qa (Qo.out.below qa)
 have Qk:=Qa (show R3 w5 w4.heap.size ta tz tc by rw [←hw5];exact R3.new w4 ta tz tc)
 obtain ⟨gs,hgs⟩:∃gs,w4.heap.size=gs:=⟨_,rfl⟩
 rw [hgs] at Qk
 have Qz:=Qa (show g+1<gs from by have:=Qo.out.lt;omega)
 clear qa Qw Qx Qo
 by_cases e2:k=2
 ·subst e2
  obtain ⟨t0,t1⟩:=Qy.out
  dsimp only at t0 t1
  have Q2:=Qa (HA.out _ Qi.out)
  clear HA
  go_wp2_with fail
  refine Q2.out.mono ?_
  rintro _ w6 ⟨A,c,ll,rfl,hal,-,hlc,hcm,-,hb6⟩
  have Xb:=Qa hal
  have Q3:=Qa (bel_step Qi.out hb6)
  have Q4:=Qa (Qj.out.below hb6)
  have Qp:=Qa (Qk.out.below hb6)
  have Qe:=Qa (HV.out (ll.length:Int))
  simp only [if_true,Jb,show ¬((2:Int)=0) by decide,if_false] at Qe
  have Q7:=Qa (HD.out · ll hal)
  generalize ll.length=m at *
  clear hal hb6 Q2 Qi Qy Qj Qk t0 t1 hw5 hgs HV HD Qb
  obtain ⟨x0,x1,x2,y0,y1,y2⟩:=Qp.out
  have Q8:=Qa (Qp.out.mid (m:Int))
  have Q9:=Qa (show Below w.heap.size w (w6.setCell ⟨gs,1,none⟩ (.int .i64 (m:Int))) from set_below Q3.out (by have:=Qz.out;have:=Qf.out;omega) _)
  have Q5:=Qa (show R3 (w6.setCell ⟨gs,1,none⟩ (.int .i64 (m:Int))) (g+1) 0 0 0 from Q4.out.same (heap_set (by have:=Qz.out;omega)))
  go_upto_region 9 with fail
  clear Qp Q3 Q4 x0 x1 x2 y0 y1 y2
  generalize w6.setCell ⟨gs,1,none⟩ (.int .i64 (m:Int))=w7 at *
  obtain ⟨x0,x1,x2,y0,y1,y2⟩:=Q8.out
  obtain ⟨s0,s1,s2,v0,v1,v2⟩:=Q5.out
  have Qc:=Qa (fun a b c=>(Q5).out.range a b c)
  have Qd:=Qa (fun a b c=>set3_below (Q9).out (show w.heap.size≤g+1 by have:=Qf.out;omega) a b c)
  go_wp2_with fail
  refine bodyPost_ret (results_row_tmp rfl _ _ (g+1) _ _ rfl (Qc.out _ _ _) Tryz.underlying47 (by rfl) (by rfl)) rfl ?_
  have hD:=Q7.out _ (Qd.out (.int .i64 ta) (.int .i64 (m:Int)) (.int .i64 tc))
  rw [Qe.out] at hD
  exact hD
 ·have q2:(k == 2)=false:=by simpa using e2
  have Qe:=Qa (HV.out 0)
  rw [Ja Q6.out,Ja e2] at Qe
  have Qm:=Qa (Qb.out e2)
  obtain ⟨x0,x1,x2,y0,y1,y2⟩:=Qk.out
  obtain ⟨s0,s1,s2,v0,v1,v2⟩:=Qj.out
  have Qc:=Qa (fun a b c=>(Qj).out.range a b c)
  have Qd:=Qa (fun a b c=>set3_below (Qi).out (show w.heap.size≤g+1 by have:=Qf.out;omega) a b c)
  clear HA HV Qb
  go_wp2_with fail
  refine bodyPost_ret (results_row_tmp rfl _ _ (g+1) _ _ rfl (Qc.out _ _ _) Tryz.underlying47 (by rfl) (by rfl)) rfl ?_
  have hD:=HD.out _ [] Qm.out (Qd.out (.int .i64 ta) (.int .i64 tz) (.int .i64 tc))
  rw [show ((([]:List ByteArray).length:Nat):Int)=0 from rfl,Qe.out] at hD
  exact hD
end mg
namespace cu
open Go.RowKit Go.Deep
open br (BS Ino Inv at_nat abE)
open cb (BrX RetW RetI No KB KD Res HB Stab NxR Same WrI Wz ReadI)
open bl (Pq Only U8 AB wr)
open mg (Vx Nd Nv Nb R2 bel_step bel_alloc kindV getV rootV set_below set2_below heap_set readN)
theorem row_br {w:World} {lo n c:Nat} {A:Option Addr} {f:Nat→UInt8} (h:bl.Row w lo A n c f):n≤c∧BR w (fun b=>lo≤b∧b<w.heap.size) A n f:=by
 obtain ⟨rfl,h⟩:=h
 refine ⟨Nat.le_refl _,fun j hj=>?_⟩
 rcases h with ⟨_,e⟩|⟨g,h1,rfl,h2⟩
 ·omega
 ·have hc:w.cell? ⟨g,0+j,none⟩=some (U8 (f j)):=by
   rw [Nat.zero_add,Lib.cell_of_heap h2 j]
   unfold bl.rowF
   simp [hj]
  exact ⟨g,0,rfl,⟨h1,World.block_lt_of_cell? _ _ hc⟩,hc⟩
theorem file_read {w:World} {V P1 P2:Nat} {u l:Int} {S L:BS} (h:Vx w V P1 P2 u l S L) {y:Nat} (h1:1≤y) (h2:y≤200) (hk:(L.ino y).kind=1) (ok:(L.ino y).body.Ok) {m:Nat} (hm:16*m<(L.ino y).body.size) :
  Calls Tryz.prog 28 #[Pq V,Nv (0,(y:Int)),.int .i64 ((16*m:Nat):Int),.int .i64 16] w (fun e w'=>∃A c,e=.returned (.tuple #[.slice A (chL (L.ino y).body m) c,.int .i64 0])∧chL (L.ino y).body m≤c∧c≤maxLen∧BR w' (fun b=>w.heap.size≤b∧b<w'.heap.size) A (chL (L.ino y).body m) (chF (L.ino y).body m)∧Below w.heap.size w w'):=by
 refine (mg.read_any h (0,(y:Int)) ((16*m:Nat):Int) 16).mono ?_
 have ma:L.kindOf (y:Int)=1:=by rw [cb.kind_of h1 h2];exact hk
 have qa:kindV S L (0,(y:Int))=1:=by unfold mg.kindV;simp [ma]
 rintro e w' (⟨h0,_⟩|⟨_,A,c,rfl,hrow,hb⟩)
 ·rw [qa] at h0;cases h0
 have e1:readN S L (0,(y:Int))=(L,(y:Int)):=by unfold mg.readN;simp
 rw [e1] at hrow ⊢
 dsimp only at hrow ⊢
 have hr:cb.readI L (y:Int) ((16*m:Nat):Int) 16=(0,chL (L.ino y).body m):=by
  unfold cb.readI
  rw [cb.fileE_of h1 h2 hk,Ja (fun e=>e rfl),at_nat]
  unfold bl.readR chL
  rw [Ja (by omega),Int.toNat_natCast];rfl
 rw [hr] at hrow ⊢
 dsimp only at hrow ⊢
 rw [at_nat,Int.toNat_natCast] at hrow
 have ja:chL (L.ino y).body m≤16:=by unfold chL;omega
 exact ⟨A,c,rfl,(row_br hrow).1,by rw [←hrow.1];unfold maxLen;omega,(row_br hrow).2,hb⟩
def FillE (w0 w:World) (c:Cp) (S L:BS) (I r T:Nat) (M:List Res) (X:Nat→Prop) (Good:AB→Prop) (Bad:Prop) (e:Ending) (w':World):Prop :=
 ∃(er:Int) (b:AB),e=.returned (.int .i64 er)∧((er=0∧Good b)∨(er=28∧Bad))∧Zs w0 w' c (setB S I b) L r T M X∧Same X w w'
theorem chunk_any {w0 w:World} {c:Cp} {S L:BS} {I r T:Nat} {M:List Res} {X:Nat→Prop} {b:AB} (h:Zs w0 w c (setB S I b) L r T M X) (i1:1≤I) (i2:I≤200) (hk:(S.ino I).kind=1)
  {y:Nat} (h1:1≤y) (h2:y≤200) (hky:(L.ino y).kind=1) {m:Nat} (hm:16*m<(L.ino y).body.size) (hb:PB (L.ino y).body b m) :
  Calls Tryz.prog 217 #[Pq c.C,.int .i64 (I:Int),Nv (0,(y:Int)),.int .i64 ((16*m:Nat):Int)] w (FillE w0 w c S L I r (T+1) M X (fun b'=>PB (L.ino y).body b' (m+1)) (r<S.used+(copyB (L.ino y).body).n)):=by
 have ok:=h.good2.1.body y
 obtain ⟨w1,hw1⟩:∃w1,w.alloc (.cells #[.int .i64 0,.int .i64 (y:Int)] 24)=w1:=⟨_,rfl⟩
 obtain ⟨g,hg⟩:∃g,w.heap.size=g:=⟨_,rfl⟩
 have ma:Below w.heap.size w w1:=by rw [←hw1];exact bel_alloc _ _
 have ja:w1.heap.size=g+1:=by rw [←hw1,←hg,World.size_alloc]
 have Qb:=Qa (h.below ma)
 have Qm:=Qa (same_below h ma)
 have Qe:=Qa (show Nb w1 g (0,(y:Int)) by rw [←hw1,←hg];exact Nb.new w 0 y)
 have Qf:=Qa (file_read (m:=m) Qb.out.drew.vx h1 h2 hky ok hm)
 have Qn:=Qa (show chL (L.ino y).body m≤1000 by unfold chL;omega)
 have Qg:=Qa (fun (hz:allZ (chL (L.ino y).body m) (chF (L.ino y).body m)=true)=>hb.skip ok hz)
 have Qc:=Qa (fun (hz:allZ (chL (L.ino y).body m) (chF (L.ino y).body m)=false)=>hb.step ok hm hz)
 have Qh:=Qa (fun p e S'=>chunk_wrote (S':=S') (r:=r) (p:=p) (b:=b) (e:=e) i1 i2 hk ok hm)
 have Qd:=Qa (fun (hz:allZ (chL (L.ino y).body m) (chF (L.ino y).body m)=false) p e S' hw hp=>chunk_full (S':=S') (r:=r) (p:=p) (b:=b) (e:=e) i1 i2 hk ok hm hb hz hw hp)
 have HE:=Qa (show ∀(W:World) (er:Int) (b':AB),((er=0∧PB (L.ino y).body b' (m+1))∨(er=28∧r<S.used+(copyB (L.ino y).body).n))→Zs w0 W c (setB S I b') L r (T+1) M X→Same X w W→FillE w0 w c S L I r (T+1) M X (fun b'=>PB (L.ino y).body b' (m+1)) (r<S.used+(copyB (L.ino y).body).n) (.returned (.int .i64 er)) W from
  fun W er b' a d k=>⟨er,b',rfl,a,d,k⟩)
 obtain ⟨PQ,hPQ⟩:∃P,FillE w0 w c S L I r (T+1) M X (fun b'=>PB (L.ino y).body b' (m+1)) (r<S.used+(copyB (L.ino y).body).n)=P:=⟨_,rfl⟩
 rw [hPQ] at HE ⊢
 obtain ⟨BAD,hBAD⟩:∃P,(r<S.used+(copyB (L.ino y).body).n)=P:=⟨_,rfl⟩
 simp only [hBAD] at HE Qd
 have xa:((16*m:Nat):Int)≤65536:=by have:=ok.size;omega
 have qa:0≤((16*m:Nat):Int):=by omega
 have c1:=Qb.out.x.c1
 obtain ⟨k0,k1⟩:=Qe.out
 dsimp only at k0 k1
 obtain ⟨n,hn⟩:∃n,chL (L.ino y).body m=n:=⟨_,rfl⟩
 obtain ⟨f,hf⟩:∃f,chF (L.ino y).body m=f:=⟨_,rfl⟩
 rw [hn,hf] at Qf Qg Qc Qh
 simp only [hn,hf] at Qd
 rw [hn] at Qn
 obtain ⟨of,hofe⟩:∃z,((16*m:Nat):Int)=z:=⟨_,rfl⟩
 simp only [hofe] at Qd
 rw [hofe] at xa qa Qf Qc Qh ⊢
 have Q2:=Qa hb
 generalize PB (L.ino y).body=PP at *
 clear h ma hPQ hky ok hm hb hn hf hofe ja hBAD
 obtain ⟨cC,hcC⟩:∃x,x=c.C:=⟨_,rfl⟩
 rw [←hcC] at c1 ⊢
 have Qs:=Qa hcC
 clear hcC
 go_enter Tryz.func217,Tryz.ntmps217
 go_upto_region 1 with fail
 try rw [hw1]
 try rw [hg]
 clear hw1
 have S0:=And.intro c1 (And.intro k0 k1)
 have Qo:=Qa (fun W (hb:Below w1.heap.size w1 W)=>show W.cell? ⟨cC,1,none⟩=some (Pq c.V)∧W.cell? ⟨g,0,none⟩=some (.int .i64 0)∧W.cell? ⟨g,1,none⟩=some (.int .i64 (y:Int)) from ⟨(hb.cell (p:=⟨cC,1,none⟩) (World.block_lt_of_cell? _ _ c1)).trans c1,(Qe.out.below hb).c0,(Qe.out.below hb).c1⟩)
 clear c1 k0 k1
 go_region_held3 (fun W=>W.cell? ⟨cC,1,none⟩=some (Pq c.V)∧W.cell? ⟨g,0,none⟩=some (.int .i64 0)∧W.cell? ⟨g,1,none⟩=some (.int .i64 (y:Int)))
  (first|with_reducible exact S0|with_reducible exact S5|assumption|go_keep)
  (first
   | (go_at_call 28;((with_reducible refine Qf.out.mono ?_);rintro _ w5 ⟨A,cc,rfl,hc1,hc2,hbr,hb5⟩;have Qi:=Qa (bel_step (Below.refl w1.heap.size w1).drew hb5);have S5:=Qo.out w5 Qi.out;have Qp:=Qa hbr;have Qt:=Qa hc1;have Qv:=Qa hc2;clear hb5 hbr hc1 hc2)))
 have Ql:=Qa (show Same X w w5 from same_trans Qm.out (fun b hb=>Qi.out.block b (Qb.out.lt hb)))
 have Qj:=Qa (Qb.out.box (Y:=fun b=>X b∨(w1.drew.heap.size≤b∧b<w5.heap.size)) Qi.out (fun b hb=>hb) (.inl Qb.out.xC) (.inl Qb.out.xV))
 have HZ:=Qa (zero_any (c:=cc) Qp.out Qn.out)
 have k0:=Qj.out.x.c0
 rw [←Qs.out] at k0
 have Qk:=Qa (And.intro Qb.out.xC Qb.out.xV)
 clear S0 S5 Qf Qo Qe Qb Qm Qi
 generalize hq:allZ n f=q at *
 cases q with
 | true =>
  have HF:=Qa (HE.out w5 0 b (.inl ⟨rfl,Qg.out (by first|rfl|trivial)⟩) ((Qj.out.sub (fun b hb=>.inl hb) Qk.out.1 Qk.out.2).up (Nat.le_succ T)) Ql.out)
  clear hq Qg Qc
  go_wp2_with fail
  refine HZ.out.mono ?_
  rintro _ w6 ⟨rfl,rfl⟩
  go_wp2_with fail
  exact HF.out
 | false =>
  have Qw:=Qa (Qc.out (by first|rfl|trivial))
  have Qx:=Qa (Qd.out (by first|rfl|trivial))
  clear Qd
  have HM:=Qa (Qj.out.write (I:Int) of A n cc f (fun j hj=>by
   obtain ⟨bb,o,e,hx,hc⟩:=Qp.out j hj
   exact ⟨bb,o,e,.inr hx,hc⟩) Qt.out Qv.out)
  clear hq Qg Qc
  go_wp2_with fail
  refine HZ.out.mono ?_
  rintro _ w6 ⟨rfl,rfl⟩
  go_wp2_with fail
  refine HM.out.mono ?_
  rintro _ w7 ⟨⟨p,er,S7⟩,hw7,rfl,hz7,hs7⟩
  dsimp only at hw7 hz7
  obtain ⟨hp,rfl,her⟩:=Qh.out _ _ _ hw7
  have Qy:=Qa (fun (hne:p≠n)=>Qx.out _ _ _ hw7 hne)
  have Qq:=Qa (hz7.sub (fun b hb=>.inl hb) Qk.out.1 Qk.out.2)
  have Qr:=Qa (same_trans Ql.out fun b hb=>hs7 b (.inl hb))
  have Qz:=Qa hp
  clear hw7 hz7 hs7 k0 HM Qj Ql Qh
  by_cases hpn:p=n
  ·have ya:er=0:=her.resolve_right fun e=>by omega
   subst hpn
   subst ya
   have HF:=Qa (HE.out w7 0 _ (.inl ⟨rfl,Qw.out⟩) Qq.out Qr.out)
   clear her hp
   have hlt:¬((p:Int)<(p:Int)):=by omega
   go_wp2_with fail
   exact HF.out
  ·have hlt:(p:Int)<(n:Int):=by have:=Qz.out;omega
   have HF:=Qa (HE.out w7 28 _ (.inr ⟨rfl,Qy.out hpn⟩) Qq.out Qr.out)
   rcases her with rfl|⟨rfl,-⟩
   ·clear hpn hp
    go_wp2_with fail
    exact HF.out
   ·clear hpn hp
    go_wp2_with fail
    exact HF.out
end cu
namespace cu
open Go.RowKit Go.Deep
open br (BS Ino Inv at_nat abE)
open cb (BrX RetW RetI No KB KD Res HB Stab NxR Same WrI Wz ReadI)
open bl (Pq Only U8 AB wr cut cutR)
open mg (Vx Nd Nv Nb R2 R3 bel_step bel_alloc kindV getV rootV set_below set2_below set3_below heap_set readN AllV statN targN)
theorem file_stat {w:World} {V P1 P2:Nat} {u l:Int} {S L:BS} {r1 r2:Nat} (h:Vx w V P1 P2 u l S L) (hS:Inv S r1) (hL:Inv L r2) {y:Nat} (h1:1≤y) (h2:y≤200) (hk:(L.ino y).kind=1) :
  Calls Tryz.prog 23 #[Pq V,Nv (0,(y:Int))] w (RetW w (.tuple #[.agg #[.int .i64 1,.int .i64 ((L.ino y).body.size:Int),.int .i64 (L.ino y).links],.int .i64 0])):=by
 refine (mg.stat_any h hS hL (0,(y:Int))).mono ?_
 rintro e w' ⟨ns,_,rfl,hb⟩
 have ma:L.kindOf (y:Int)=1:=by rw [cb.kind_of h1 h2];exact hk
 have qa:kindV S L (0,(y:Int))=1:=by unfold mg.kindV;simp [ma]
 have ja:L.stat (y:Int)=((1,(L.ino y).body.size,(L.ino y).links),0):=by
  rw [cb.stat_of h1 h2 (by rw [hk];decide),hk]
  unfold br.Ino.sizeOf
  rw [hk];rfl
 refine ⟨?_,hb⟩
 have e1:statN S L (0,(y:Int)) (ns.length:Int)=((1,((L.ino y).body.size:Int),(L.ino y).links),0):=by
  unfold mg.statN
  rw [qa,Ja (by decide),Ja (show ¬((0:Int),(y:Int)).1≠0 by simp),ja]
  rfl
 rw [e1]
theorem R3.put {w:World} {g:Nat} {x y z:Int} (h:R3 w g x y z) (a b d:Int):(((w.setCell ⟨g,0,none⟩ (.int .i64 a)).setCell ⟨g,1,none⟩ (.int .i64 b)).setCell ⟨g,2,none⟩ (.int .i64 d)).cell? ⟨g,1,none⟩=some (.int .i64 b):=by
 have ne:(⟨g,2,none⟩:Addr)≠⟨g,1,none⟩:=fun e=>by injection e with _ e;cases e
 have ne0:(⟨g,0,none⟩:Addr)≠⟨g,1,none⟩:=fun e=>by injection e with _ e;cases e
 rw [World.cell?_setCell_other _ _ _ _ ne]
 exact World.cell?_setCell_same' _ _ _ (by rw [World.cell?_setCell_other _ _ _ _ ne0,h.c1];rfl)
theorem fill_any {w0 w:World} {c:Cp} {S L:BS} {I r T:Nat} {M:List Res} {X:Nat→Prop} (h:Zs w0 w c S L r T M X) (i1:1≤I) (i2:I≤200) (hk:(S.ino I).kind=1) (hb:(S.ino I).body=abE)
  {y:Nat} (h1:1≤y) (h2:y≤200) (hky:(L.ino y).kind=1) :
  Calls Tryz.prog 174 #[Pq c.C,.int .i64 (I:Int),Nv (0,(y:Int))] w (FillE w0 w c S L I r (T+4098) M X (fun b'=>b'=copyB (L.ino y).body) (r<S.used+(copyB (L.ino y).body).n)):=by
 have ok:=h.good2.1.body y
 obtain ⟨w1,hw1⟩:∃w1,w.alloc (.cells #[.int .i64 0,.int .i64 (y:Int)] 24)=w1:=⟨_,rfl⟩
 obtain ⟨g,hg⟩:∃g,w.heap.size=g:=⟨_,rfl⟩
 have ma:Below w.heap.size w w1:=by rw [←hw1];exact bel_alloc _ _
 have qa:w1.heap.size=g+1:=by rw [←hw1,←hg,World.size_alloc]
 have Qd:=Qa (h.box (Y:=fun b=>X b∨b=g) ma (fun b hb=>hb.imp id fun e=>by rw [e];omega) (.inl h.xC) (.inl h.xV))
 have Qg:=Qa (And.intro h.xC h.xV)
 have Qm:=Qa (same_below h ma)
 have Qh:=Qa (show Nb w1 g (0,(y:Int)) by rw [←hw1,←hg];exact Nb.new w 0 y)
 have Qe:=Qa (fun W (hb:Below w1.heap.size w1 W)=>show Rd W c g 0 (y:Int) from ⟨(Qd.out.below hb).x.c1,(Qh.out.below hb).c0,(Qh.out.below hb).c1⟩)
 have Qb:=Qa (fun W (hb:Below w1.heap.size w1 W)=>file_stat (Qd.out.below hb).vx (Qd.out.good1).1 (Qd.out.good2).1 h1 h2 hky)
 unfold RetW at Qb
 have HE:=Qa (show ∀(W:World) (er:Int) (b':AB) (T':Nat),T'≤T+4098→((er=0∧b'=copyB (L.ino y).body)∨(er=28∧r<S.used+(copyB (L.ino y).body).n))→Zs w0 W c (setB S I b') L r T' M X→Same X w W→FillE w0 w c S L I r (T+4098) M X (fun b'=>b'=copyB (L.ino y).body) (r<S.used+(copyB (L.ino y).body).n) (.returned (.int .i64 er)) W from
  fun W er b' T' hT a d k=>⟨er,b',rfl,a,d.up hT,k⟩)
 obtain ⟨PQ,hPQ⟩:∃P,FillE w0 w c S L I r (T+4098) M X (fun b'=>b'=copyB (L.ino y).body) (r<S.used+(copyB (L.ino y).body).n)=P:=⟨_,rfl⟩
 rw [hPQ] at HE ⊢
 have Qc:=Qa (fun (W:World) (Y:Nat→Prop) (T' m:Nat) (b:AB) (hz:Zs w0 W c (setB S I b) L r T' M Y) (hm:16*m<(L.ino y).body.size) (hp:PB (L.ino y).body b m)=>chunk_any hz i1 i2 hk h1 h2 hky hm hp)
 unfold FillE at Qc
 obtain ⟨BAD,hBAD⟩:∃P,(r<S.used+(copyB (L.ino y).body).n)=P:=⟨_,rfl⟩
 simp only [hBAD] at HE Qc
 clear hBAD
 have Qz:=Qa (PB.zero (L.ino y).body)
 have Qn:=Qa (fun (b:AB) (m:Nat) (hp:PB (L.ino y).body b m) (hm:(L.ino y).body.size≤16*m)=>hp.last ok hm)
 have Qo:=Qa (fun (b:AB)=>setB_cut (b:=b) i1 i2 hk ((L.ino y).body.size:Int))
 have Qp:=Qa (setB_abE hb)
 have ja:=ok.size
 obtain ⟨lk,hlk⟩:∃x,(L.ino y).links=x:=⟨_,rfl⟩
 rw [hlk] at Qb
 obtain ⟨ka,hka⟩:∃x:Int,(1:Int)=x:=⟨_,rfl⟩
 rw [hka] at Qb
 clear hka
 generalize (L.ino y).body=B at *
 obtain ⟨sz,hsze⟩:∃x,B.size=x:=⟨_,rfl⟩
 rw [hsze] at Qb Qc Qn Qo ja
 have Q2:=Qa (show cutR (sz:Int)=0 by unfold bl.cutR;rw [Ja (by omega),Ja (by omega)])
 generalize PB B=PP at *
 generalize copyB B=CBB at *
 clear h ma hPQ hky ok hb hlk qa
 obtain ⟨cC,hcC⟩:∃x,x=c.C:=⟨_,rfl⟩
 rw [←hcC]
 go_enter Tryz.func174,Tryz.ntmps174
 go_upto_region 1 with fail
 try rw [hw1]
 try rw [hg]
 clear hw1
 subst hcC
 go_cut [7,8] from 12 to 46 (fun va vb wx=>∃G,va=.pointer (some ⟨G,0,none⟩)∧vb=.int .i64 0∧Hid (Below w1.heap.size w1 wx)∧Hid (wx.cell? ⟨G,1,none⟩=some (.int .i64 (sz:Int))))
 case first =>
  have S0:=Qe.out w1 (Below.refl _ _)
  have Qq:=Qa (bel_alloc w1 (.cells #[.int .i64 0,.int .i64 0,.int .i64 0] 47))
  have Qr:=Qa (bel_step Qq.out (Below.refl _ (w1.alloc (.cells #[.int .i64 0,.int .i64 0,.int .i64 0] 47))).drew)
  have SA:=Qe.out _ Qq.out
  have Q3:=Qa (Qb.out w1.drew (Below.refl w1.heap.size w1).drew)
  have Q4:=Qa (Qb.out (w1.alloc (.cells #[.int .i64 0,.int .i64 0,.int .i64 0] 47)).drew Qr.out)
  have Q5:=Qa (show R3 (w1.alloc (.cells #[.int .i64 0,.int .i64 0,.int .i64 0] 47)).drew w1.heap.size 0 0 0 from (R3.new w1 0 0 0).below (Below.refl _ _).drew)
  clear Qd Qb
  go_region_held3 (fun W=>W.cell? ⟨c.C,1,none⟩=some (Pq c.V)∧W.cell? ⟨g,0,none⟩=some (.int .i64 0)∧W.cell? ⟨g,1,none⟩=some (.int .i64 (y:Int)))
   (first|with_reducible exact S0|with_reducible exact S5|with_reducible exact SA|with_reducible exact ST|assumption|go_keep)
   (first
    | (go_at_call 23;((with_reducible refine Q3.out.mono ?_);rintro _ w5 ⟨rfl,hb5⟩;have Qf:=Qa (bel_step (Below.refl w1.heap.size w1).drew hb5);have S5:=Qe.out w5 Qf.out;have Q6:=Qa (show ∃G,w5.heap.size=G∧Below w1.heap.size w1 (w5.alloc (.cells #[.int .i64 ka,.int .i64 (sz:Int),.int .i64 lk] 47))∧(w5.alloc (.cells #[.int .i64 ka,.int .i64 (sz:Int),.int .i64 lk] 47)).cell? ⟨G,1,none⟩=some (.int .i64 (sz:Int)) from ⟨_,rfl,bel_step Qf.out (bel_alloc _ _),(R3.new w5 ka sz lk).c1⟩);clear hb5))
    | (go_at_call 23;((with_reducible refine Q4.out.mono ?_);rintro _ w5 ⟨rfl,hb5⟩;have Qf:=Qa (bel_step Qr.out hb5);have S5:=Qe.out w5 Qf.out;have Qs:=Qa (Q5.out.below hb5);obtain ⟨z0,z1,z2,f0,f1,f2⟩:=Qs.out;have Qt:=Qa (show Below w1.heap.size w1 (((w5.setCell ⟨w1.heap.size,0,none⟩ (.int .i64 ka)).setCell ⟨w1.heap.size,1,none⟩ (.int .i64 (sz:Int))).setCell ⟨w1.heap.size,2,none⟩ (.int .i64 lk)) from set3_below Qf.out (Nat.le_refl _) _ _ _);have ST:=Qe.out _ Qt.out;have Q7:=Qa (R3.put Qs.out ka sz lk);clear hb5)))
  all_goals
   go_wp2_with fail
   go_meet
   case rel=>first|exact ⟨_,rfl,rfl,Qt,Q7⟩|(obtain ⟨G,hG,h1,h2⟩:=Q6.out;subst hG;exact ⟨_,rfl,rfl,Qa h1,Qa h2⟩)
 case rest =>
  obtain ⟨G,rfl,rfl,Qi,Qv⟩:=hcut
  obtain ⟨wx,rfl⟩:∃x,x=wc:=⟨_,rfl⟩
  have Q8:=Qa (show Zs w0 wx c (setB S I abE) L r T M (fun b=>X b∨b=g) by rw [Qp.out];exact Qd.out.below Qi.out)
  have Q9:=Qa (show Same X w wx from same_trans Qm.out (fun b hb=>Qi.out.block b (Qd.out.lt (.inl hb))))
  have Xa:=Qa (Qh.out.below Qi.out)
  have s1:=Qv.out
  have xa:(0:Int)≤(sz:Int):=by omega
  clear Qd Qm Qh Qe Qb Qi Qv Qp
  go_upto_region 6 with fail
  clear s1
  go_loopg [10] (sz+1) (fun gh s10 wr=>∃(m T':Nat) (b:AB),gh+m=sz+1∧T'≤T+m∧m≤4096∧s10=.int .i64 ((16*m:Nat):Int)∧Hid (PP b m)∧Hid (Zs w0 wr c (setB S I b) L r T' M (fun b=>X b∨b=g))∧Hid (Nb wr g (0,(y:Int)))∧Hid (Same X w wr))
  case atStart=>exact ⟨0,T,abE,by omega,by omega,by omega,rfl,Qz,Q8,Xa,Q9⟩
  case round =>
   obtain ⟨m,T',b,hgj,hT',hm4,rfl,Qw,Qj,Qk,Ql⟩:=hrel
   obtain ⟨of,hof⟩:∃z,((16*m:Nat):Int)=z:=⟨_,rfl⟩
   by_cases hj:16*m<sz
   ·have HC:=Qa (Qc.out wr _ T' m b Qj.out hj Qw.out)
    rw [hof] at HC ⊢
    obtain ⟨k0,k1⟩:=Qk.out
    dsimp only at k0 k1
    have hlt:of<(sz:Int):=by omega
    go_wp2_with fail
    refine HC.out.mono ?_
    rintro _ w5 ⟨er,b5,rfl,her,hz5,hs5⟩
    have Qx:=Qa hz5
    have Xb:=Qa (Qk.out.same (hs5 g (.inr rfl)))
    have Qy:=Qa (same_trans Ql.out fun b hb=>hs5 b (.inl hb))
    clear hz5 hs5 k0 k1 Qj Qk Ql HC
    rcases her with ⟨rfl,hp5⟩|⟨rfl,hbad⟩
    ·have Xc:=Qa hp5
     have ya:0≤of:=by omega
     have da:of≤70000:=by omega
     clear hp5
     go_wp2_with fail
     go_roundg (gk - 1)
     case measure=>omega
     case rel=>exact ⟨m+1,T'+1,b5,by omega,by omega,by omega,by go_num,Xc,Qx,Xb,Qy⟩
    ·have HF:=Qa (HE.out w5 28 b5 (T'+1) (by omega) (.inr ⟨rfl,hbad⟩) (Qx.out.sub (fun b hb=>.inl hb) Qg.out.1 Qg.out.2) Qy.out)
     go_wp2_with fail
     exact HF.out
   ·have hlt:¬of<(sz:Int):=by omega
    rw [hof]
    have HM:=Qa (Qj.out.cut (I:Int) (sz:Int))
    rw [Qo.out b] at HM
    dsimp only at HM
    rw [Qn.out b m Qw.out (by omega),Q2.out] at HM
    have k0:=Qj.out.x.c0
    go_wp2_with fail
    refine HM.out.mono ?_
    rintro _ w5 ⟨rfl,hz5,hs5⟩
    have HF:=Qa (HE.out w5 0 CBB (T'+1) (by omega) (.inl ⟨rfl,rfl⟩) (hz5.sub (fun b hb=>.inl hb) Qg.out.1 Qg.out.2) (same_trans Ql.out fun b hb=>hs5 b (.inl hb)))
    clear hz5 hs5
    go_wp2_with fail
    exact HF.out
end cu
namespace cu
open Go.RowKit
open dn (En lget lset ldel nerr dotB Sorted lessB)
open br (BS Ino Inv at_nat upd_same upd_other badKind vacant_ok free_spec abE nameE)
open cb (newI)
open mg (Nd opq kindV lstV belV seenV pairV getV rootV kind_zero get_kind get_zero)
section
variable {S S0 S2 S' L:BS} {room room2 D n:Nat} {s:ByteArray} {x:Ino}
theorem kind_at {i:Int} (h:S.kindOf i≠0):∃I:Nat,i=(I:Int)∧1≤I∧I≤200∧S.kindOf i=(S.ino I).kind:=by
 unfold BS.kindOf at h ⊢
 cases e:S.isI i with
 | false=>rw [e] at h;exact absurd rfl h
 | true =>
  obtain ⟨I,rfl,h1,h2,h3⟩:=br.isI_yes e
  exact ⟨I,rfl,h1,h2,by simp [at_nat]⟩
theorem get_lget {d:Int} {t:ByteArray} (hI:Inv S room) (hk:S.kindOf d=2) (h:(S.get d t).1=0):∃D:Nat,d=(D:Int)∧1≤D∧D≤200∧(S.ino D).kind=2∧lget t (S.ino D).dir=none:=by
 obtain ⟨D,rfl,h1,h2,h3⟩:=kind_at (S:=S) (i:=d) (by rw [hk];decide)
 refine ⟨D,rfl,h1,h2,h3▸hk,?_⟩
 cases e:lget t (S.ino D).dir with
 | none=>rfl
 | some v =>
  rw [cb.get_of h1 h2 (h3▸hk) e] at h
  obtain ⟨_,_,I,e2,i1,_⟩:=hI.lead e
  dsimp only at h
  omega
theorem name_ok {d:Int} {t:ByteArray} (hI:Inv S room) (h:(S.get d t).1≠0):nameE t=0:=by
 have h2:(S.get d t).2=0:=Classical.byContradiction fun e=>h ((get_zero hI d t).2 e)
 obtain ⟨D,rfl,_,_,_,h5⟩:=br.get_ok h2
 have:=hI.good D _ ((dn.lget_some (hI.sorted D)).1 h5)
 exact cb.nameE_yes ⟨this.1,this.2.1⟩
theorem vac_of {d:Int} {t:ByteArray} (hI:Inv S room) (hk:S.kindOf d=2) (hl:(S.at d).links≠0) (h:(S.get d t).1=0) (hn:nameE t=0):S.vacant d t=0:=by
 obtain ⟨D,rfl,h1,h2,h3,h4⟩:=get_lget hI hk h
 rw [at_nat] at hl
 unfold BS.vacant
 rw [cb.dirE_yes h1 h2 h3 hl,hn,at_nat,h4]
 simp
theorem getV_low {a:Nd} {t:ByteArray} {y:Int} (hI:Inv S room) (h:getV S L a t=((0,y),0)):(S.get a.1 t).1=0∧(L.get (belV S a) t).1=y∧y≠0:=by
 unfold mg.getV at h
 by_cases h1:lstV S L a=0
 case neg=>rw [Jb h1] at h;exact absurd (congrArg Prod.snd h) h1
 rw [Ja (by simpa using h1)] at h
 by_cases h2:seenV S L (pairV S L a t)=(0,0)
 ·rw [Jb h2] at h;exact absurd (show (2:Int)=0 from congrArg Prod.snd h) (by decide)
 rw [Ja h2] at h
 have h3:=congrArg Prod.fst h
 dsimp only at h3
 have e1:(pairV S L a t).1=(S.get a.1 t).1:=rfl
 have e2:(pairV S L a t).2=(L.get (belV S a) t).1:=rfl
 rw [←e1,←e2]
 have hy:y≠0:=fun e=>h2 (by rw [h3,e])
 generalize hp:pairV S L a t=p at *
 have hk:S.kindOf p.1=0↔p.1=0:=by rw [e1];exact get_kind hI _ _
 unfold mg.seenV at h3
 by_cases q0:S.kindOf p.1=0
 ·rw [Jb q0] at h3
  refine ⟨hk.1 q0,?_,hy⟩
  split at h3
  ·exact absurd (congrArg Prod.snd h3).symm hy
  ·exact congrArg Prod.snd h3
 rw [Ja q0] at h3
 exfalso
 split at h3
 ·exact absurd (congrArg Prod.snd h3).symm hy
 ·split at h3
  ·exact q0 (hk.2 (congrArg Prod.fst h3))
  ·exact q0 (hk.2 (congrArg Prod.fst h3))
theorem getV_bare {d y:Int} (t:ByteArray) (hk:S.kindOf d=2) (he:∀t,(S.get d t).1=0) (ho:opq S d=false) (hy:L.kindOf y=2):getV S L (d,y) t=getV S0 L (0,y) t:=by
 have hd:d≠0:=kind_ne hk
 have l1:lstV S L (d,y)=0:=by unfold mg.lstV mg.kindV;dsimp only;rw [Jb hd,hk];decide
 have l2:lstV S0 L (0,y)=0:=by
  have ma:kindV S0 L (0,y)=2:=by unfold mg.kindV;simp [hy]
  unfold mg.lstV;rw [ma];decide
 have p1:pairV S L (d,y) t=(0,(L.get y t).1):=by unfold mg.pairV mg.belV;dsimp only;rw [he,ho];rfl
 have p2:pairV S0 L (0,y) t=(0,(L.get y t).1):=by unfold mg.pairV mg.belV;dsimp only;rw [mg.opq_zero,mg.get_at_zero];rfl
 unfold mg.getV
 rw [l1,l2,p1,p2,mg.seen_none (kind_zero S),mg.seen_none (kind_zero S0)]
theorem kindV_low {y:Int}:kindV S L (0,y)=if L.kindOf y=4 then 0 else L.kindOf y:=by unfold mg.kindV;simp
theorem kindV_up {c:Nd} (h:c.1≠0) (h2:S.kindOf c.1=2):kindV S L c=2:=by unfold mg.kindV;rw [Jb h,h2];decide
theorem lst_no {c:Nd} {t:ByteArray} (h2:kindV S L c≠2) (h0:kindV S L c≠0):getV S L c t=((0,0),20):=by
 have:lstV S L c=20:=by unfold mg.lstV;rw [Ja h0,Ja h2]
 rw [mg.getV_lst (by rw [this];decide),this]
theorem got_kind {a c:Nd} {t:ByteArray} (hI:Inv S room) (hL:Inv L room2) (h:getV S L a t=(c,0)):kindV S L c≠0:=by
 unfold mg.getV at h
 by_cases h1:lstV S L a=0
 case neg=>rw [Jb h1] at h;exact absurd (congrArg Prod.snd h) h1
 rw [Ja (by simpa using h1)] at h
 by_cases h2:seenV S L (pairV S L a t)=(0,0)
 ·rw [Jb h2] at h;exact absurd (show (2:Int)=0 from congrArg Prod.snd h) (by decide)
 rw [Ja h2] at h
 have h3:=congrArg Prod.fst h
 dsimp only at h3
 have ma:=get_kind hL (belV S a) t
 have qa:=get_kind hI a.1 t
 have e1:(pairV S L a t).1=(S.get a.1 t).1:=rfl
 have e2:(pairV S L a t).2=(L.get (belV S a) t).1:=rfl
 rw [←e1] at qa
 rw [←e2] at ma
 generalize pairV S L a t=p at *
 have hU:∀z,S.kindOf p.1≠0→S.kindOf p.1≠4→kindV S L (p.1,z)≠0:=fun z q0 q4=>by
  unfold mg.kindV
  dsimp only
  rw [Jb (fun e=>q0 (qa.2 e)),Ja q4];exact q0
 rw [←h3]
 unfold mg.seenV at h2 ⊢
 by_cases q0:S.kindOf p.1=0
 ·rw [Jb q0] at h2 ⊢
  by_cases q4:L.kindOf p.2=4
  ·rw [Jb q4] at h2;exact absurd rfl h2
  ·rw [Ja q4] at h2 ⊢
   rw [kindV_low,Ja q4]
   exact fun e=>h2 (by rw [ma.1 e])
 rw [Ja q0] at h2 ⊢
 by_cases q4:S.kindOf p.1=4
 ·rw [Jb q4] at h2;exact absurd rfl h2
 rw [Ja q4] at h2 ⊢
 split
 ·exact hU p.2 q0 q4
 ·exact hU 0 q0 q4
theorem got_links {d:Int} {t:ByteArray} (hI:Inv S room) (h:(S.get d t).1≠0):(S.at (S.get d t).1).links≠0:=by
 have h2:(S.get d t).2=0:=Classical.byContradiction fun e=>h ((get_zero hI d t).2 e)
 obtain ⟨D,rfl,_,_,_,h5⟩:=br.get_ok h2
 obtain ⟨_,_,I,e,_,_,_,i4,_⟩:=hI.lead h5
 rw [e,at_nat]
 omega
theorem getV_up {a c:Nd} {t:ByteArray} (h:getV S L a t=(c,0)) (hc:c.1≠0):(S.get a.1 t).1=c.1:=by
 unfold mg.getV at h
 by_cases h1:lstV S L a=0
 case neg=>rw [Jb h1] at h;exact absurd (congrArg Prod.snd h) h1
 rw [Ja (by simpa using h1)] at h
 by_cases h2:seenV S L (pairV S L a t)=(0,0)
 ·rw [Jb h2] at h;exact absurd (show (2:Int)=0 from congrArg Prod.snd h) (by decide)
 rw [Ja h2] at h
 have h3:=congrArg Prod.fst h
 dsimp only at h3
 have e1:(pairV S L a t).1=(S.get a.1 t).1:=rfl
 rw [←e1,←h3]
 rw [←h3] at hc
 generalize pairV S L a t=p at *
 unfold mg.seenV at hc ⊢
 split
 ·rename_i q0
  rw [Jb q0] at hc
  split at hc <;> exact absurd rfl hc
 ·rename_i q0
  rw [Ja q0] at hc
  split
  ·rename_i q4;rw [Jb q4] at hc;exact absurd rfl hc
  ·split <;> rfl
theorem enter_no (hG:br.Good S room) (hL:Inv L room2) {d:Int} {a:Nd} {t:ByteArray} (hd:a.1=d) (hk:S.kindOf d=2) (hl:(S.at d).links≠0) (h:(enterF S L d a t).1.2≠0) :
  (enterF S L d a t).2=S∧((enterF S L d a t).1.2=28∨((getV S L a t).2≠0∧(enterF S L d a t).1.2=(getV S L a t).2)∨((enterF S L d a t).1.2=20∧(getV S L a t).2=0∧kindV S L (getV S L a t).1≠2)):=by
 obtain ⟨c,e,hge⟩:∃c e,getV S L a t=(c,e):=⟨_,_,rfl⟩
 unfold enterF at h ⊢
 rw [hge] at h ⊢
 dsimp only at h ⊢
 by_cases h0:e=0
 case neg=>rw [Jb h0] at h ⊢;exact ⟨rfl,.inr (.inl ⟨h0,rfl⟩)⟩
 subst h0
 rw [Ja (by decide)] at h ⊢
 by_cases h1:kindV S L c=2
 case neg=>rw [Jb h1] at h ⊢;exact ⟨rfl,.inr (.inr ⟨rfl,rfl,h1⟩)⟩
 rw [Ja (by rw [h1];decide)] at h ⊢
 by_cases h2:c.1=0
 case neg=>rw [Jb h2] at h;exact absurd rfl h
 rw [Ja (by simpa using h2)] at h ⊢
 by_cases h3:(S.make d t 2 ⟨#[]⟩).1.2=0
 ·rw [Ja (by simpa using h3)] at h;exact absurd rfl h
 rw [Jb h3]
 refine ⟨(make_no h3).1,.inl ?_⟩
 have hc:c=(0,c.2):=Prod.ext h2 rfl
 rw [hc] at hge
 obtain ⟨g1,g2,g3⟩:=getV_low hG.1 hge
 rw [hd] at g1
 exact (make_full (vac_of hG.1 hk hl g1 (name_ok hL (by rw [g2];exact g3))) (by decide)).resolve_left h3
def Led (S0 L:BS) (m:Nd×Int) (S':BS) (b:Nd):Prop:=(m=(b,0)∧S'=S0)∨(m=((0,b.2),0)∧L.kindOf b.2=2∧(∀t,(S'.get b.1 t).1=0)∧opq S' b.1=false)
theorem new_bare {d:Int} {D n:Nat} {t:ByteArray} (hm:Mk S S2 D n t (newI 2 d ⟨#[]⟩)):(∀t,(S2.get (n:Int) t).1=0)∧opq S2 (n:Int)=false∧(S2.at (n:Int)).links≠0 :=
 ⟨hm.getN rfl,hm.opqN (by show (2:Int)≠0;decide) rfl,by rw [at_nat,hm.eN];show (1:Int)≠0;decide⟩
theorem desc_low (S0:BS) (hL:Inv L room2):∀(p:List ByteArray) {S:BS} {d y:Int},br.Good S room→S.kindOf d=2→(∀t,(S.get d t).1=0)→opq S d=false→(S.at d).links≠0→L.kindOf y=2 →
  ((descF L S d (d,y) p).1.2=0→walkV S0 L (0,y) p=((0,(descF L S d (d,y) p).1.1.2.2),0)∧L.kindOf (descF L S d (d,y) p).1.1.2.2=2∧(∀t,((descF L S d (d,y) p).2.get (descF L S d (d,y) p).1.1.1 t).1=0)∧opq (descF L S d (d,y) p).2 (descF L S d (d,y) p).1.1.1=false) ∧
  ((descF L S d (d,y) p).1.2≠0→(descF L S d (d,y) p).1.2=28∨∀t,(walkV S0 L (0,y) (p++[t])).2=(descF L S d (d,y) p).1.2)
 | [],S,d,y,hG,hk,he,ho,hl,hy=>⟨fun _=>⟨rfl,hy,he,ho⟩,fun h=>absurd rfl h⟩
 | t::p,S,d,y,hG,hk,he,ho,hl,hy=>by
  have hgv:=getV_bare (S0:=S0) t hk he ho hy
  rw [descF_cons]
  by_cases h0:(enterF S L d (d,y) t).1.2=0
  ·rw [Ja (by simpa using h0)]
   obtain ⟨g1,g2,g3,g4,g5,g6⟩:=enter_ok hG rfl hk h0
   have g7:getV S L (d,y) t=((0,(enterF S L d (d,y) t).1.1.2),0)∧L.kindOf (enterF S L d (d,y) t).1.1.2=2∧∃D n:Nat,d=(D:Int)∧(enterF S L d (d,y) t).1.1.1=(n:Int)∧Mk S (enterF S L d (d,y) t).2 D n t (newI 2 d ⟨#[]⟩):=by
    rcases g6 with ⟨a1,a2⟩|h
    ·exact absurd (he t) (by rw [getV_up (a:=(d,y)) a1 (kind_ne g2)];exact kind_ne g2)
    ·exact h
   obtain ⟨a1,a2,D,n,rfl,a4,a5⟩:=g7
   obtain ⟨b1,b2,b3⟩:=new_bare a5
   rw [hgv] at a1
   generalize hE:enterF S L (D:Int) ((D:Int),y) t=E at *
   obtain ⟨⟨⟨c1,c2⟩,c3⟩,S1⟩:=E
   dsimp only at *
   subst a4
   obtain ⟨i1,i2⟩:=desc_low S0 hL p g1 g2 b1 b2 b3 a2
   refine ⟨fun h=>?_,fun h=>?_⟩
   ·obtain ⟨j1,j2⟩:=i1 h
    exact ⟨by rw [walkV_ok a1,j1],j2⟩
   ·refine (i2 h).imp id fun j t'=>?_
    show (walkV S0 L (0,y) (t::(p++[t']))).2=_
    rw [walkV_ok a1]
    exact j t'
  ·rw [Jb h0]
   obtain ⟨g1,g2⟩:=enter_no hG hL (a:=(d,y)) rfl hk hl h0
   refine ⟨fun h=>absurd h h0,fun _=>?_⟩
   rcases g2 with g2|⟨g2,g3⟩|⟨g2,g3,g4⟩
   ·exact .inl g2
   ·rw [hgv] at g2 g3
    refine .inr fun t'=>?_
    show (walkV S0 L (0,y) (t::(p++[t']))).2=_
    rw [walkV_no g2];exact g3.symm
   ·refine .inr fun t'=>?_
    obtain ⟨c,hc⟩:∃c,getV S L (d,y) t=(c,0):=⟨_,Prod.ext rfl g3⟩
    have qa:=got_kind hG.1 hL hc
    rw [hc] at g4
    have ja:=hc
    rw [hgv] at ja
    have h1:c.1=0:=by
     have:=getV_up (S:=S) hc
     rw [he] at this
     exact Classical.byContradiction fun e=>e (this e).symm
    have ma:kindV S0 L c=kindV S L c:=by unfold mg.kindV;rw [Ja (show ¬c.1≠0 from fun e=>e h1),Ja (show ¬c.1≠0 from fun e=>e h1)]
    show (walkV S0 L (0,y) (t::(p++[t']))).2=_
    rw [walkV_ok ja,g2]
    cases p with
    | nil =>
     show (walkV S0 L c [t']).2=20
     rw [walkV_no (by rw [lst_no (by rw [ma];exact g4) (by rw [ma];exact qa)];decide),lst_no (by rw [ma];exact g4) (by rw [ma];exact qa)]
    | cons t2 p =>
     show (walkV S0 L c (t2::(p++[t']))).2=20
     rw [walkV_no (by rw [lst_no (by rw [ma];exact g4) (by rw [ma];exact qa)];decide),lst_no (by rw [ma];exact g4) (by rw [ma];exact qa)]
theorem desc_led (hL:Inv L room2):∀(p:List ByteArray) {S:BS} {d:Int} {a:Nd},br.Good S room→a.1=d→S.kindOf d=2→(S.at d).links≠0 →
  ((descF L S d a p).1.2=0→Led S L (walkV S L a p) (descF L S d a p).2 (descF L S d a p).1.1.2) ∧
  ((descF L S d a p).1.2≠0→(descF L S d a p).1.2=28∨∀t,(walkV S L a (p++[t])).2=(descF L S d a p).1.2)
 | [],S,d,a,hG,hd,hk,hl=>⟨fun _=>.inl ⟨rfl,rfl⟩,fun h=>absurd rfl h⟩
 | t::p,S,d,a,hG,hd,hk,hl=>by
  rw [descF_cons]
  by_cases h0:(enterF S L d a t).1.2=0
  ·rw [Ja (by simpa using h0)]
   obtain ⟨g1,g2,g3,g4,g5,g6⟩:=enter_ok hG hd hk h0
   rcases g6 with ⟨a1,a2⟩|⟨a1,a2,D,n,rfl,a4,a5⟩
   ·rw [a2] at g1 g2 ⊢
    have hn:(enterF S L d a t).1.1.1≠0:=kind_ne g2
    have qa:(S.at (enterF S L d a t).1.1.1).links≠0:=by
     have h9:=getV_up a1 hn
     have:=got_links (S:=S) (d:=a.1) (t:=t) hG.1 (by rw [h9];exact hn)
     rwa [h9] at this
    obtain ⟨i1,i2⟩:=desc_led hL p g1 (a:=(enterF S L d a t).1.1) rfl g2 qa
    refine ⟨fun h=>?_,fun h=>(i2 h).imp id fun j t'=>?_⟩
    ·rw [walkV_ok a1];exact i1 h
    ·show (walkV S L a (t::(p++[t']))).2=_
     rw [walkV_ok a1];exact j t'
   ·obtain ⟨b1,b2,b3⟩:=new_bare a5
    generalize hE:enterF S L (D:Int) a t=E at *
    obtain ⟨⟨⟨c1,c2⟩,c3⟩,S1⟩:=E
    dsimp only at *
    subst a4
    obtain ⟨i1,i2⟩:=desc_low (room:=room) S hL p g1 g2 b1 b2 b3 a2
    obtain ⟨_,k2,_⟩:True∧True∧True:=⟨trivial,trivial,trivial⟩
    refine ⟨fun h=>?_,fun h=>(i2 h).imp id fun j t'=>?_⟩
    ·obtain ⟨j1,j2,j3,j4⟩:=i1 h
     have e9:=(desc_ok p g1 (a:=((n:Int),c2)) rfl g2 h).2.1
     rw [walkV_ok a1,j1]
     exact .inr ⟨rfl,j2,by rw [e9];exact j3,by rw [e9];exact j4⟩
    ·show (walkV S L a (t::(p++[t']))).2=_
     rw [walkV_ok a1];exact j t'
  ·rw [Jb h0]
   obtain ⟨g1,g2⟩:=enter_no hG hL hd hk hl h0
   refine ⟨fun h=>absurd h h0,fun _=>?_⟩
   rcases g2 with g2|⟨g2,g3⟩|⟨g2,g3,g4⟩
   ·exact .inl g2
   ·refine .inr fun t'=>?_
    show (walkV S L a (t::(p++[t']))).2=_
    rw [walkV_no g2];exact g3.symm
   ·refine .inr fun t'=>?_
    obtain ⟨c,hc⟩:∃c,getV S L a t=(c,0):=⟨_,Prod.ext rfl g3⟩
    have ma:=got_kind hG.1 hL hc
    rw [hc] at g4
    show (walkV S L a (t::(p++[t']))).2=_
    rw [walkV_ok hc,g2]
    cases p with
    | nil =>
     show (walkV S L c [t']).2=20
     rw [walkV_no (by rw [lst_no g4 ma];decide),lst_no g4 ma]
    | cons t2 p =>
     show (walkV S L c (t2::(p++[t']))).2=20
     rw [walkV_no (by rw [lst_no g4 ma];decide),lst_no g4 ma]
end
end cu
end Go.Proofs.YtgoddboicjfkcaaGreat
