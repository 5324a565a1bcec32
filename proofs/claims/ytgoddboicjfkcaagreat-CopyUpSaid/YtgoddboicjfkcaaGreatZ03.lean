/- Contracts and mathematics, part 3. -/
import Derived.Test.YtgoddboicjfkcaaGreatZ02
set_option linter.unusedVariables false
set_option linter.unusedSimpArgs false
set_option maxRecDepth 100000
set_option maxHeartbeats 8000000
namespace Go.Proofs.YtgoddboicjfkcaaGreat
namespace dn
open Go.RowKit Go.Shelf
abbrev Px (D x0:Nat):Value:=.pointer (some ⟨D,x0,none⟩)
structure DuX (w:World) (D x0 lo:Nat) (o:Option Nat) (c:Nat) (L:List En):Prop where
 d0:w.cell? ⟨D,x0,none⟩=some (.slice (Ao o) L.length c)
 f0:w.frozen? ⟨D,x0,none⟩=false
 row:match o with|none=>L=[]∧c=0|some G=>lo≤G∧D≠G∧ERow w G c L
theorem DuX.lt {w:World} {D x0 lo c:Nat} {o:Option Nat} {L:List En} (h:DuX w D x0 lo o c L):D<w.heap.size:=World.block_lt_of_cell? w _ h.d0
theorem DuX.of_cell {w w':World} {D x0 lo c:Nat} {o:Option Nat} {L:List En} (h:DuX w D x0 lo o c L) (hD:w'.cell? ⟨D,x0,none⟩=w.cell? ⟨D,x0,none⟩) (hf:w'.frozen? ⟨D,x0,none⟩=w.frozen? ⟨D,x0,none⟩) (hG:∀G,o=some G→w'.heap[G]?=w.heap[G]?):DuX w' D x0 lo o c L:=by
 refine ⟨hD.trans h.d0,hf.trans h.f0,?_⟩
 cases o with
 | none=>exact h.row
 | some G=>exact ⟨h.row.1,h.row.2.1,h.row.2.2.of_block (hG G rfl)⟩
theorem DuX.of_blocks {w w':World} {D x0 lo c:Nat} {o:Option Nat} {L:List En} (h:DuX w D x0 lo o c L) (hD:w'.heap[D]?=w.heap[D]?) (hG:∀G,o=some G→w'.heap[G]?=w.heap[G]?):DuX w' D x0 lo o c L :=
 h.of_cell (World.cell?_of_block (a:=⟨D,x0,none⟩) hD) (World.frozen?_of_block (a:=⟨D,x0,none⟩) hD) hG
theorem DuX.glt {w:World} {D x0 lo c:Nat} {o:Option Nat} {L:List En} (h:DuX w D x0 lo o c L):∀G,o=some G→G<w.heap.size∧lo≤G∧D≠G:=by
 intro G e;subst e;exact ⟨h.row.2.2.lt,h.row.1,h.row.2.1⟩
theorem DuX.below {w w':World} {D x0 lo c:Nat} {o:Option Nat} {L:List En} (h:DuX w D x0 lo o c L) (hb:Below w.heap.size w w'):DuX w' D x0 lo o c L :=
 h.of_blocks (hb.block _ h.lt) fun G e=>hb.block _ (h.glt G e).1
theorem DuX.at_ {w:World} {D x0 lo c:Nat} {o:Option Nat} {L:List En} (h:DuX w D x0 lo o c L) {i:Nat} {x:En} (hx:L[i]?=some x) :
  ∃G,o=some G∧w.cell? ⟨G,i*2,none⟩=some (.string x.1)∧w.cell? ⟨G,i*2+1,none⟩=some (.int .i64 x.2):=by
 cases o with
 | none=>rw [h.row.1] at hx;simp at hx
 | some G=>exact ⟨G,rfl,h.row.2.2.at_ hx⟩
def LaidX (w:World) (D x0:Nat) (v:Value) (K:List En) (e:Ending) (w':World):Prop :=
 e=.returned v∧∃gg cap w4,Below w.heap.size w w4∧w.heap.size≤gg∧ERow w4 gg cap K∧w'=w4.setCell ⟨D,x0,none⟩ (.slice (some ⟨gg,0,none⟩) K.length cap)
theorem DuX.laid {w w4:World} {D x0 lo c gg cap n:Nat} {o:Option Nat} {L K:List En} {vv:Value} (h:DuX w D x0 lo o c L) (hb:Below w.heap.size w w4) (hg:w.heap.size≤gg) (hr:ERow w4 gg cap K) (hK:n=K.length) :
  w4.cell? ⟨D,x0,none⟩=some (.slice (Ao o) L.length c)∧w4.frozen? ⟨D,x0,none⟩=false∧LaidX w D x0 vv K (.returned vv) (w4.setCell ⟨D,x0,none⟩ (.slice (some ⟨gg,0,none⟩) n cap)):=by
 subst hK
 have h4:=h.below hb
 exact ⟨h4.d0,h4.f0,rfl,gg,cap,w4,hb,hg,hr,rfl⟩
theorem LaidX.dux {w w':World} {D x0 lo c:Nat} {o:Option Nat} {L K:List En} {v:Value} {e:Ending} (hl:LaidX w D x0 v K e w') (h:DuX w D x0 lo o c L) (hlo:lo≤w.heap.size):∃gg cap,w.heap.size≤gg∧DuX w' D x0 lo (some gg) cap K:=by
 obtain ⟨_,gg,cap,w4,hb,hg,hr,rfl⟩:=hl
 have hD:=h.lt
 have h4:=h.below hb
 have ma:D≠gg:=by omega
 refine ⟨gg,cap,hg,?_,by simpa using h4.f0,Nat.le_trans hlo hg,ma,hr.of_block (Below.heap_setCell _ _ _ _ (fun e=>ma (by simpa using e.symm)))⟩
 rw [World.cell?_setCell_same _ _ _ h4.d0];rfl
theorem rgetx_any (D x0 lo c:Nat) (o:Option Nat) (L:List En) (s:ByteArray) (w:World) (hN:L.length≤1000000) (h:DuX w D x0 lo o c L) :
  Calls Tryz.prog 147 #[Px D x0,.string s] w (fun e w'=>e=.returned (getV s L)∧w'=w):=by
 have d0:=h.d0
 have HH:=Qa h
 obtain ⟨r,hr⟩:∃r,getV s L=r:=⟨_,rfl⟩
 rw [hr]
 have Qb:=Qa (fun (k:Nat) (x:En) (hx:L[k]?=some x) (hs:x.1=s) (hb:∀e∈L.take k,decide (e.1=s)=false)=>(by
  rw [←hr];unfold getV lget;rw [find_at hx (decide_eq_true hs) hb];rfl:r=.tuple #[.int .i64 x.2,.int .i64 0]))
 have Qc:=Qa (fun (hb:∀e∈L,decide (e.1=s)=false)=>(by
  rw [←hr];unfold getV lget;rw [List.find?_eq_none.2 fun y hy=>by rw [hb y hy];decide];rfl:r=.tuple #[.int .i64 0,.int .i64 2]))
 generalize hn:L.length=n at *
 have Qd:=Qa hn
 clear hn hr h
 go_enter Tryz.func147,Tryz.ntmps147
 go_wp2_with fail
 go_loopg [6] n (fun g s6 wr=>∃k:Nat,g+k=n∧s6=.int .i64 k∧Hid (∀e∈L.take k,decide (e.1=s)=false)∧wr=w)
 case atStart=>exact ⟨0,by omega,rfl,Qa (by simp),rfl⟩
 case round =>
  obtain ⟨k,hgk,rfl,HB,rfl⟩:=hrel
  by_cases hkn:k<n
  ·have hx:L[k]?=some (L[k]'(by rw [Qd.out];exact hkn)):=List.getElem?_eq_getElem _
   obtain ⟨G,rfl,f0,f1⟩:=HH.out.at_ hx
   generalize L[k]'(by rw [Qd.out];exact hkn)=x at *
   by_cases hs:x.1=s
   ·have HR:=Qa (Qb.out k x hx hs HB.out)
    have hq:(x.1.toList == s.toList)=true:=by rw [beq_names];exact decide_eq_true hs
    obtain ⟨xs,xv⟩:=x
    dsimp only at f0 f1 hq
    clear hx hs Qb Qc
    go_wp2_with fail
    try rw [Exit.noGoto_ret]
    go_ret2
    exact ⟨by rw [HR.out];first|done|rfl,rfl⟩
   ·have Qe:=Qa (before_next hx (decide_eq_false hs) HB.out)
    have hq:(x.1.toList == s.toList)=false:=by rw [beq_names];exact decide_eq_false hs
    obtain ⟨xs,xv⟩:=x
    dsimp only at f0 f1 hq
    clear hx hs Qb Qc
    go_wp2_with fail
    go_roundg (gk - 1)
    case measure=>omega
    case rel=>exact ⟨k+1,by omega,by go_num,Qe,rfl⟩
  ·have HR:=Qa (Qc.out (by have:=HB.out;rwa [List.take_of_length_le (by rw [Qd.out];omega)] at this))
   have ma:¬((k:Int)<(n:Int)):=by omega
   clear Qb Qc hkn
   go_wp2_with fail
   go_ret2
   exact ⟨by rw [HR.out];first|done|rfl,rfl⟩
theorem rsetx_ok (D x0 lo c:Nat) (o:Option Nat) (L:List En) (s:ByteArray) (v:Int) (w:World) (hm:s.size≤9223372036854775807) (hL:∀e∈L,e.1.size≤9223372036854775807) (h:DuX w D x0 lo o c L) (hs:Sorted L) (hN:L.length≤400000) (he:nerr s.data.toList=0) (hd:dotB s=false) (hv:¬v<1) :
  Calls Tryz.prog 98 #[Px D x0,.string s,.int .i64 v] w (LaidX w D x0 (.int .i64 0) (lset s v L)):=by
 obtain ⟨i0,hi,hz0,hz1,hz2⟩:=info_parts info37
 have Qp:=Qa (rname_any s w hm)
 unfold NameE at Qp
 rw [he] at Qp
 have HH:=Qa h
 have Qy:=Qa hL
 have Q6:=Qa hs
 have Qm:=Qa (fun (w4:World) (gg cap m:Nat) hb hg hr (hm:m=(lset s v L).length)=>DuX.laid (w4:=w4) (gg:=gg) (cap:=cap) (K:=lset s v L) (vv:=.int .i64 0) h hb hg hr hm)
 have Qn:=Qa (fun K d (hf:rfold s v L=(K,d))=>rfold_all hs hf)
 have hq:(s.toList == [46])=false∧(s.toList == [46,46])=false:=by simpa [dotB] using hd
 obtain ⟨fa,hq2⟩:=hq
 have Qq:=Qa (fun k x (hx:L[k]?=some x)=>rfold_next (s:=s) (v:=v) hx)
 have H1:=Qa (encL_one [(s,v)])
 generalize hn:L.length=n at *
 generalize hKK:lset s v L=KK at *
 have Qc:=Qa hn
 have Q7:=Qa hKK
 clear hn h hs he hd hL hKK
 go_enter Tryz.func98,Tryz.ntmps98
 go_wp2_with fail
 refine Qp.out.mono ?_
 rintro e w2 ⟨rfl,hb2⟩
 have Q8:=Qa hb2
 have la:=Qa (row_new w2)
 have Qr:=Qa (below_step hb2 (below_alloc w2 (.cells #[] 125)))
 have da:=hb2.size
 have d0:=(HH.out.below Qr.out).d0
 clear hb2 Qp
 go_wp2_with fail
 go_loopg [8,9,10] n (fun g s8 s9 s10 wr=>∃(k m gg cap:Nat) (K:List En) (d:Bool),g+k=n∧s10=.int .i64 k∧s9=.bool d∧s8=.slice (some ⟨gg,0,none⟩) m cap∧m≤2*k∧w.heap.size≤gg∧Hid (rfold s v (L.take k)=(K,d))∧Hid (m=K.length)∧Hid (ERow wr gg cap K)∧Hid (Below w.heap.size w wr))
 case atStart=>exact ⟨0,0,w2.heap.size,0,[],false,by omega,rfl,rfl,rfl,Nat.le_refl _,da,Qa rfl,Qa rfl,la,Qr⟩
 case round =>
  clear la Qr d0
  obtain ⟨k,m,gg,cap,K,d,hgk,rfl,rfl,rfl,hmk,hlg,HR,HM,HE,HB⟩:=hrel
  have Qw:=Qa (HH.out.below HB.out)
  have d0:=Qw.out.d0
  rw [Qc.out] at d0
  by_cases hkn:k<n
  ·have hx:L[k]?=some (L[k]'(by rw [Qc.out];exact hkn)):=List.getElem?_eq_getElem _
   have ga:=Qy.out _ (List.mem_of_getElem? hx)
   obtain ⟨G,rfl,f0,f1⟩:=Qw.out.at_ hx
   generalize L[k]'(by rw [Qc.out];exact hkn)=x at *
   have Qf:=Qa ((Qq.out k x hx).trans (by rw [HR.out]))
   have Qz:=Qa hx
   obtain ⟨xs,xv⟩:=x
   dsimp only at f0 f1 ga
   have Qs:=Qa (encL_one [(xs,xv)])
   have Qd:=Qa (fun W (hb:Below w.heap.size w W)=>(by
    obtain ⟨G4,hG4,q0,q1⟩:=(HH.out.below hb).at_ Qz.out
    obtain rfl:G=G4:=by injection hG4
    exact ⟨q0,q1⟩:W.cell? ⟨G,k*2,none⟩=some (.string xs)∧W.cell? ⟨G,k*2+1,none⟩=some (.int .i64 xv)))
   have HC:=Qa (rless_any xs s wr ga hm)
   obtain ⟨q,hq⟩:∃q,lessB xs s=q:=⟨_,rfl⟩
   rw [hq] at HC
   have HQ:=Qa hq
   clear hx hq ga Qm Qn Qq
   cases d
   ·cases q
    ·by_cases hs:xs=s
     ·have xa:(xs.toList == s.toList)=true:=by rw [beq_names];exact decide_eq_true hs
      have Qi:=Qa (Qf.out.trans (show _=(K++[(s,v)],true) by simp [rstep,hs,less_irrefl]))
      clear hs Qf
      go_wp2_with fail
      refine HC.out.mono ?_
      rintro e w3 ⟨rfl,hb3⟩
      have Qg:=Qa (below_step HB.out hb3)
      have Qo:=Qa (HE.out.of_block (hb3.block gg HE.out.lt))
      have d3:=(HH.out.below Qg.out).d0
      rw [Qc.out] at d3
      clear hb3 HC d0 f0 f1
      have Qj:=Qa (app_owns Qo.out HM.out (below_alloc w3 (.cells #[.string s,.int .i64 v] 125)))
      have Qk:=Qa (cells_of_box (x:=(s,v)) (heap_alloc_new w3 (.cells #[.string s,.int .i64 v] 125)))
      have Qb:=Qa (below_step Qg.out (below_alloc w3 (.cells #[.string s,.int .i64 v] 125)))
      go_upto_region 13 with (at_builtin;refine wpList_append_lies _ (by rfl) _ _ _ (by rfl) 0 125 i0 _ 2 24 Tryz.underlying89 hi hz0 hz1 hz2 (by rfl) (by decide) _ _ _ (by rfl) Qj.out ⟨w3.heap.size,0,none⟩ 1 1 (encL [(s,v)]) (by rfl) (by rfl) Qk.out H1.out (by omega) (by unfold maxLen;omega) (by omega) (Nat.zero_le _) _ rfl ?_;intro g4 cap4 w4 hown4 hgrow4 hat4 hlt4;have dd4:=(HH.out.below (below_grown_far Qb.out hgrow4 hlg)).d0;rw [Qc.out] at dd4;have fa4:=(Qd.out _ (below_grown_far Qb.out hgrow4 hlg)).1;have fb4:=(Qd.out _ (below_grown_far Qb.out hgrow4 hlg)).2)
      have Qh:=Qa (app_row hown4 HM.out)
      have Ql:=Qa (below_grown_far Qb.out hgrow4 hlg)
      have ma:=lo_next hlg Qb.out.size hat4
      clear hown4 hgrow4 hat4 hlt4 d3
      go_wp2_with fail
      go_roundg (gk - 1)
      case measure=>omega
      case rel=>exact ⟨k+1,m+1,g4,cap4,_,true,by omega,by go_num,rfl,rfl,by omega,ma,Qi,Qa (by rw [List.length_append,←HM.out];rfl),Qh,Ql⟩
     ·have xa:(xs.toList == s.toList)=false:=by rw [beq_names];exact decide_eq_false hs
      have Qi:=Qa (Qf.out.trans (show _=(K++[(s,v)]++[(xs,xv)],true) by simp [rstep,HQ.out,hs]))
      clear hs Qf
      go_wp2_with fail
      refine HC.out.mono ?_
      rintro e w3 ⟨rfl,hb3⟩
      have Qg:=Qa (below_step HB.out hb3)
      have Qo:=Qa (HE.out.of_block (hb3.block gg HE.out.lt))
      have d3:=(HH.out.below Qg.out).d0
      rw [Qc.out] at d3
      clear hb3 HC d0 f0 f1
      have Qj:=Qa (app_owns Qo.out HM.out (below_alloc w3 (.cells #[.string s,.int .i64 v] 125)))
      have Qk:=Qa (cells_of_box (x:=(s,v)) (heap_alloc_new w3 (.cells #[.string s,.int .i64 v] 125)))
      have Qb:=Qa (below_step Qg.out (below_alloc w3 (.cells #[.string s,.int .i64 v] 125)))
      go_upto_region 13 with (at_builtin;refine wpList_append_lies _ (by rfl) _ _ _ (by rfl) 0 125 i0 _ 2 24 Tryz.underlying89 hi hz0 hz1 hz2 (by rfl) (by decide) _ _ _ (by rfl) Qj.out ⟨w3.heap.size,0,none⟩ 1 1 (encL [(s,v)]) (by rfl) (by rfl) Qk.out H1.out (by omega) (by unfold maxLen;omega) (by omega) (Nat.zero_le _) _ rfl ?_;intro g4 cap4 w4 hown4 hgrow4 hat4 hlt4;have dd4:=(HH.out.below (below_grown_far Qb.out hgrow4 hlg)).d0;rw [Qc.out] at dd4;have fa4:=(Qd.out _ (below_grown_far Qb.out hgrow4 hlg)).1;have fb4:=(Qd.out _ (below_grown_far Qb.out hgrow4 hlg)).2)
      have Qh:=Qa (app_row hown4 HM.out)
      have Ql:=Qa (below_grown_far Qb.out hgrow4 hlg)
      have ma:=lo_next hlg Qb.out.size hat4
      have Qt:=Qa (show m+1=(K++[(s,v)]).length by rw [List.length_append,←HM.out];rfl)
      clear hown4 hgrow4 hat4 hlt4 d3
      have Q2:=Qa (app_owns Qh.out Qt.out (below_alloc w4 (.cells #[.string xs,.int .i64 xv] 125)))
      have Q3:=Qa (cells_of_box (x:=(xs,xv)) (heap_alloc_new w4 (.cells #[.string xs,.int .i64 xv] 125)))
      have Qe:=Qa (below_step Ql.out (below_alloc w4 (.cells #[.string xs,.int .i64 xv] 125)))
      go_wp2_with (at_builtin;refine wpList_append_lies _ (by rfl) _ _ _ (by rfl) 0 125 i0 _ 2 24 Tryz.underlying89 hi hz0 hz1 hz2 (by rfl) (by decide) _ _ _ (by rfl) Q2.out ⟨w4.heap.size,0,none⟩ 1 1 (encL [(xs,xv)]) (by rfl) (by rfl) Q3.out Qs.out (by omega) (by unfold maxLen;omega) (by omega) (Nat.zero_le _) _ rfl ?_;intro g6 cap6 w6 hown6 hgrow6 hat6 hlt6;have dd6:=(HH.out.below (below_grown_far Qe.out hgrow6 ma)).d0;rw [Qc.out] at dd6;have fa6:=(Qd.out _ (below_grown_far Qe.out hgrow6 ma)).1;have fb6:=(Qd.out _ (below_grown_far Qe.out hgrow6 ma)).2)
      have Q4:=Qa (app_row hown6 Qt.out)
      have Q5:=Qa (below_grown_far Qe.out hgrow6 ma)
      have ba:=lo_next ma Qe.out.size hat6
      clear hown6 hgrow6 hat6 hlt6
      go_wp2_with fail
      go_roundg (gk - 1)
      case measure=>omega
      case rel=>exact ⟨k+1,m+1+1,g6,cap6,_,true,by omega,by go_num,rfl,rfl,by omega,ba,Qi,Qa (by rw [List.length_append,←Qt.out];rfl),Q4,Q5⟩
    ·have hs:xs≠s:=less_ne HQ.out
     have xa:(xs.toList == s.toList)=false:=by rw [beq_names];exact decide_eq_false hs
     have Qi:=Qa (Qf.out.trans (show _=(K++[(xs,xv)],false) by simp [rstep,HQ.out,hs]))
     clear hs Qf
     go_wp2_with fail
     refine HC.out.mono ?_
     rintro e w3 ⟨rfl,hb3⟩
     have Qg:=Qa (below_step HB.out hb3)
     have Qo:=Qa (HE.out.of_block (hb3.block gg HE.out.lt))
     have d3:=(HH.out.below Qg.out).d0
     rw [Qc.out] at d3
     have h0:=(Qd.out _ Qg.out).1
     have h1:=(Qd.out _ Qg.out).2
     clear hb3 HC d0 f0 f1
     have Qj:=Qa (app_owns Qo.out HM.out (below_alloc w3 (.cells #[.string xs,.int .i64 xv] 125)))
     have Qk:=Qa (cells_of_box (x:=(xs,xv)) (heap_alloc_new w3 (.cells #[.string xs,.int .i64 xv] 125)))
     have Qb:=Qa (below_step Qg.out (below_alloc w3 (.cells #[.string xs,.int .i64 xv] 125)))
     go_wp2_with (at_builtin;refine wpList_append_lies _ (by rfl) _ _ _ (by rfl) 0 125 i0 _ 2 24 Tryz.underlying89 hi hz0 hz1 hz2 (by rfl) (by decide) _ _ _ (by rfl) Qj.out ⟨w3.heap.size,0,none⟩ 1 1 (encL [(xs,xv)]) (by rfl) (by rfl) Qk.out Qs.out (by omega) (by unfold maxLen;omega) (by omega) (Nat.zero_le _) _ rfl ?_;intro g4 cap4 w4 hown4 hgrow4 hat4 hlt4;have dd4:=(HH.out.below (below_grown_far Qb.out hgrow4 hlg)).d0;rw [Qc.out] at dd4;have fa4:=(Qd.out _ (below_grown_far Qb.out hgrow4 hlg)).1;have fb4:=(Qd.out _ (below_grown_far Qb.out hgrow4 hlg)).2)
     have Qh:=Qa (app_row hown4 HM.out)
     have Ql:=Qa (below_grown_far Qb.out hgrow4 hlg)
     have ma:=lo_next hlg Qb.out.size hat4
     clear hown4 hgrow4 hat4 hlt4 d3 h0 h1
     go_wp2_with fail
     go_roundg (gk - 1)
     case measure=>omega
     case rel=>exact ⟨k+1,m+1,g4,cap4,_,false,by omega,by go_num,rfl,rfl,by omega,ma,Qi,Qa (by rw [List.length_append,←HM.out];rfl),Qh,Ql⟩
   ·by_cases hs:xs=s
    ·have xa:(xs.toList == s.toList)=true:=by rw [beq_names];exact decide_eq_true hs
     have Qi:=Qa (Qf.out.trans (show _=(K,true) by simp [rstep,hs]))
     clear hs Qf HC
     go_wp2_with fail
     go_roundg (gk - 1)
     case measure=>omega
     case rel=>exact ⟨k+1,m,gg,cap,K,true,by omega,by go_num,rfl,rfl,by omega,hlg,Qi,HM,HE,HB⟩
    ·have xa:(xs.toList == s.toList)=false:=by rw [beq_names];exact decide_eq_false hs
     have Qi:=Qa (Qf.out.trans (show _=(K++[(xs,xv)],true) by simp [rstep,hs]))
     clear hs Qf HC
     have Qj:=Qa (app_owns HE.out HM.out (below_alloc wr (.cells #[.string xs,.int .i64 xv] 125)))
     have Qk:=Qa (cells_of_box (x:=(xs,xv)) (heap_alloc_new wr (.cells #[.string xs,.int .i64 xv] 125)))
     have Qb:=Qa (below_step HB.out (below_alloc wr (.cells #[.string xs,.int .i64 xv] 125)))
     go_wp2_with (at_builtin;refine wpList_append_lies _ (by rfl) _ _ _ (by rfl) 0 125 i0 _ 2 24 Tryz.underlying89 hi hz0 hz1 hz2 (by rfl) (by decide) _ _ _ (by rfl) Qj.out ⟨wr.heap.size,0,none⟩ 1 1 (encL [(xs,xv)]) (by rfl) (by rfl) Qk.out Qs.out (by omega) (by unfold maxLen;omega) (by omega) (Nat.zero_le _) _ rfl ?_;intro g4 cap4 w4 hown4 hgrow4 hat4 hlt4;have dd4:=(HH.out.below (below_grown_far Qb.out hgrow4 hlg)).d0;rw [Qc.out] at dd4;have fa4:=(Qd.out _ (below_grown_far Qb.out hgrow4 hlg)).1;have fb4:=(Qd.out _ (below_grown_far Qb.out hgrow4 hlg)).2)
     have Qh:=Qa (app_row hown4 HM.out)
     have Ql:=Qa (below_grown_far Qb.out hgrow4 hlg)
     have ma:=lo_next hlg Qb.out.size hat4
     clear hown4 hgrow4 hat4 hlt4 d0 f0 f1
     go_wp2_with fail
     go_roundg (gk - 1)
     case measure=>omega
     case rel=>exact ⟨k+1,m+1,g4,cap4,_,true,by omega,by go_num,rfl,rfl,by omega,ma,Qi,Qa (by rw [List.length_append,←HM.out];rfl),Qh,Ql⟩
  ·have sa:L.take k=L:=List.take_of_length_le (by rw [Qc.out];omega)
   have ya:=HR.out
   rw [sa] at ya
   have qa:=Qn.out K d ya
   have kb:¬((k:Int)<(n:Int)):=by omega
   have mb:m≤2*n:=by omega
   cases d
   ·have ja:KK=K++[(s,v)]:=by simpa using qa
    have Qx:=Qa ja
    clear hkn sa ya qa HR ja Qq
    have Qj:=Qa (app_owns HE.out HM.out (below_alloc wr (.cells #[.string s,.int .i64 v] 125)))
    have Qk:=Qa (cells_of_box (x:=(s,v)) (heap_alloc_new wr (.cells #[.string s,.int .i64 v] 125)))
    have Qb:=Qa (below_step HB.out (below_alloc wr (.cells #[.string s,.int .i64 v] 125)))
    go_upto_region 18 with (at_builtin;refine wpList_append_lies _ (by rfl) _ _ _ (by rfl) 0 125 i0 _ 2 24 Tryz.underlying89 hi hz0 hz1 hz2 (by rfl) (by decide) _ _ _ (by rfl) Qj.out ⟨wr.heap.size,0,none⟩ 1 1 (encL [(s,v)]) (by rfl) (by rfl) Qk.out H1.out (by omega) (by unfold maxLen;omega) (by omega) (Nat.zero_le _) _ rfl ?_;intro g4 cap4 w4 hown4 hgrow4 hat4 hlt4;have dd4:=(HH.out.below (below_grown_far Qb.out hgrow4 hlg)).d0;rw [Qc.out] at dd4)
    have Qh:=Qa (app_row hown4 HM.out)
    have Ql:=Qa (below_grown_far Qb.out hgrow4 hlg)
    have ma:=lo_next hlg Qb.out.size hat4
    rw [←Qx.out] at Qh
    obtain ⟨c0,c1,hst⟩:=Qm.out w4 g4 cap4 (m+1) Ql.out ma Qh.out (by rw [Qx.out,List.length_append,←HM.out];rfl)
    have Qv:=Qa hst
    clear hown4 hgrow4 hat4 hlt4 hst Qm d0
    go_wp2_with fail
    go_ret
    exact Qv.out
   ·have ja:KK=K:=by simpa using qa
    rw [←ja] at HE HM
    obtain ⟨c0,c1,hst⟩:=Qm.out wr gg cap m HB.out hlg HE.out HM.out
    have Qv:=Qa hst
    clear hst Qm d0 sa ya qa HR ja Qq hkn
    go_wp2_with fail
    go_ret
    exact Qv.out
end dn
end Go.Proofs.YtgoddboicjfkcaaGreat
