/- Contracts and mathematics, part 23. -/
import Derived.Test.YtgoddboicjfkcaaGreatZ22
set_option linter.unusedVariables false
set_option linter.unusedSimpArgs false
set_option maxRecDepth 100000
set_option maxHeartbeats 8000000
namespace Go.Proofs.YtgoddboicjfkcaaGreat
namespace mg
open Go.RowKit
open dn (En lget lset ldel nerr dotB Sorted lessB encL Ao)
open br (BS Ino Inv fresh)
open cb (BrX RetW RetI No)
open bl (Pq)
theorem app_sl {w:World} {base lo c:Nat} {v:Value} {o:Option Nat} {X L:List En} (hown:w.ownsRow base 125 2 v X.length (encL X)) (h:dn.Sl w lo o c L) (hN:X.length+L.length≤1000000) (hb:base≤w.heap.size) :
  ∃v' w',(Builtin.append_ #[89,89] 89 #[v,.slice (Ao o) L.length c]).run Tryz.prog w=.ok v' w'∧w'.ownsRow base 125 2 v' (X++L).length (encL (X++L))∧w.grownBy w' v.ownBlock:=by
 obtain ⟨i0,hi,hz0,hz1,hz2⟩:=info_parts dn.info37
 cases o with
 | none =>
  obtain ⟨rfl,rfl⟩:=h
  rw [List.append_nil]
  refine ⟨v,w,?_,hown,World.grownBy.refl w _⟩
  obtain ⟨A,c',rfl,hs⟩:=cb.sl_of_owns hown rfl
  have hle:X.length≤c':=by
   cases A with
   | none=>rw [hs.1,hs.2];exact Nat.le_refl _
   | some G=>exact hs.2.1
  simp [hle,Builtin.append_,run_underlying Tryz.underlying89,sizeOf,typeInfo,hi,Builtin.lenOf,Builtin.firstCells,storeCells,Ao]
  cases A <;> rfl
 | some G =>
  have hr:=h.2
  obtain ⟨v',w',h1,h2,h3,_⟩:=run_append_own (P:=Tryz.prog) (w:=w) base 89 89 125 i0 _ 2 24 Tryz.underlying89 hi hz0 hz1 hz2 rfl (by decide) v X.length (encL X) hown ⟨G,0,none⟩ L.length c (encL L) (dn.encL_length L) (fun j u hu=>by
   have:=hr.cells hu
   by_cases hj:j=0
   ·subst hj;simpa [Addr.add] using this
   ·simpa [Addr.add,hj] using this) (dn.encL_one L) (by unfold maxLen;omega) (by omega) hb
  refine ⟨v',w',h1,?_,h3⟩
  rw [List.length_append,dn.encL_append]
  exact h2
def ER (w:World) (B:Nat) (A:Option Addr) (L:List En):Prop:=∀i x,L[i]?=some x→∃G,A=some ⟨G,0,none⟩∧G<B∧w.cell? ⟨G,i*2,none⟩=some (.string x.1)
theorem ER.of {w:World} {lo c:Nat} {o:Option Nat} {L:List En} (h:dn.Sl w lo o c L):ER w w.heap.size (Ao o) L:=fun i x hx=>by
 cases o with
 | none=>rw [h.1] at hx;cases hx
 | some G=>exact ⟨G,rfl,h.2.lt,h.2.cells (dn.encL_at hx).1⟩
theorem all_rows {w:World} {lo lo' c c':Nat} {o o':Option Nat} {L K:List En} (h:dn.Sl w lo o c L) (k:dn.Sl w lo' o' c' K) (hN:L.length+K.length≤1000000) :
  ∃v1 w1 A cc w2,(Builtin.append_ #[89,89] 89 #[.slice (some ⟨w.heap.size,0,none⟩) 0 0,.slice (Ao o) L.length c]).run Tryz.prog (w.alloc (.cells #[] 125))=.ok v1 w1 ∧
   (Builtin.append_ #[89,89] 89 #[v1,.slice (Ao o') K.length c']).run Tryz.prog w1=.ok (.slice A (L++K).length cc) w2∧Below w.heap.size w w2∧ER w2 w2.heap.size A (L++K):=by
 have hb:=bel_alloc w (.cells #[] 125)
 have qa:∀ {w':World} {lo c:Nat} {o:Option Nat} {L:List En},dn.Sl w lo o c L→Below w.heap.size w w'→dn.Sl w' lo o c L:=fun {w' lo c o L} a b=>by
  cases o with
  | none=>exact a
  | some G=>exact ⟨a.1,a.2.of_block (b.block G a.2.lt)⟩
 obtain ⟨v1,w1,r1,o1,g1⟩:=app_sl (X:=[]) ((dn.row_new w).owns (Nat.le_refl _)) (qa h hb) (by simp;omega) (by rw [World.size_alloc];omega)
 have ma:Below w.heap.size w w1:=grown_bel hb g1 (fun k e=>by simp [Value.ownBlock] at e;omega)
 rw [List.nil_append] at o1
 obtain ⟨v2,w2,r2,o2,g2⟩:=app_sl o1 (qa k ma) hN ma.size
 have ja:Below w.heap.size w w2:=grown_bel ma g2 (fun k e=>(World.ownsRow.lt o1 k e).1)
 obtain ⟨oo,cc,rfl,hs⟩:=cb.sl_of_owns o2 rfl
 exact ⟨v1,w1,_,cc,w2,r1,r2,ja,ER.of hs⟩
theorem sl_bel {w w':World} {lo c:Nat} {o:Option Nat} {L:List En} (a:dn.Sl w lo o c L) (b:Below w.heap.size w w'):dn.Sl w' lo o c L:=by
 cases o with
 | none=>exact a
 | some G=>exact ⟨a.1,a.2.of_block (b.block G a.2.lt)⟩
theorem all_short {S:BS} {room:Nat} (hI:Inv S room) (d:Int) {e:En} (he:e∈(S.all d).1):e.1.size≤60:=by
 unfold BS.all at he
 split at he
 ·cases he
 ·exact (cb.nerr_len (hI.good _ _ he).1).2
end mg
namespace mg
open Go.RowKit Go.Deep
open dn (En lget lset ldel nerr dotB Sorted lessB encL Ao)
open br (BS Ino Inv fresh)
open cb (BrX RetW RetI No)
open bl (Pq)
theorem Vd.all1 {w:World} {D1 D2:Nat} {U L:BS} (h:Vd w D1 D2 U L) (i:Int):Calls Tryz.prog 82 #[Pq D1,.int .i64 i] w (cb.AllQ w (U.all i)):=by obtain ⟨_,_,_,_,_,k,g⟩:=h.d1;exact cb.q_all k g i
theorem Vd.all2 {w:World} {D1 D2:Nat} {U L:BS} (h:Vd w D1 D2 U L) (i:Int):Calls Tryz.prog 82 #[Pq D2,.int .i64 i] w (cb.AllQ w (L.all i)):=by obtain ⟨_,_,_,_,_,k,g⟩:=h.d2;exact cb.q_all k g i
theorem rall_any {w:World} {D1 D2:Nat} {u l:Int} {U L:BS} (h:Vd w D1 D2 U L) (n:Nd) (ns:List ByteArray) (hns:AllV U L n ns):Calls Tryz.prog 22 #[Rv D1 D2 u l,Nv n] w (AllE w U L n):=by
 obtain ⟨n1,n2⟩:=n
 have HF:=Qa (show ∀w1,(w.alloc (.cells #[Pq D1,Pq D2,.int .i64 u,.int .i64 l] 36)).alloc (.cells #[.int .i64 n1,.int .i64 n2] 24)=w1→Below w.heap.size w w1∧R4 w1 w.heap.size D1 D2 u l∧Nb w1 (w.heap.size+1) (n1,n2) from fun w1 hw1=>by
  rw [←hw1]
  refine ⟨bel_step (bel_alloc _ _) (bel_alloc _ _),(R4.new w D1 D2 u l).below (bel_alloc _ _),?_⟩
  have:=Nb.new (w.alloc (.cells #[Pq D1,Pq D2,.int .i64 u,.int .i64 l] 36)) n1 n2
  rwa [World.size_alloc] at this)
 have HK:=Qa (fun W (hb:Below w.heap.size w W)=>rkind_any (u:=u) (l:=l) (h.below hb) (n1,n2))
 have HG:=Qa (fun W (hb:Below w.heap.size w W) s=>rget_any (u:=u) (l:=l) (h.below hb) (n1,n2) s)
 have Qx:=Qa (fun W (hb:Below w.heap.size w W)=>(h.below hb).all1 n1)
 have Qy:=Qa (fun W (hb:Below w.heap.size w W)=>(h.below hb).all2 n2)
 have HV:=Qa hns
 have HL:=Qa (show lstV U L (n1,n2)=if kindV U L (n1,n2)=0 then 2 else if kindV U L (n1,n2)=2 then 0 else 20 from rfl)
 obtain ⟨rU,iU⟩:=h.i1
 obtain ⟨rL,iL⟩:=h.i2
 have HI:=Qa (show Inv U rU∧Inv L rL from ⟨iU,iL⟩)
 clear iU iL
 obtain ⟨kv,hkv⟩:∃k,kindV U L (n1,n2)=k:=⟨_,rfl⟩
 rw [hkv] at HK HL
 have X4:=Qa hkv
 unfold RetI at HK
 unfold cb.AllQ at Qx Qy
 unfold AllE
 obtain ⟨g,hg⟩:∃g,w.heap.size=g:=⟨_,rfl⟩
 have X5:=Qa hg
 rw [hg] at HF
 clear h hkv hns
 go_enter Tryz.func22,Tryz.ntmps22
 go_upto_region 1 with fail
 generalize hw1:(w.alloc (.cells #[Pq D1,Pq D2,.int .i64 u,.int .i64 l] 36)).alloc (.cells #[.int .i64 n1,.int .i64 n2] 24)=w1
 obtain ⟨pb,hr1,hn1⟩:=HF.out w1 hw1
 have Qz:=Qa (show Below w.heap.size w w1 by rw [hg];exact pb)
 have Q2:=Qa hr1
 have Q3:=Qa hn1
 clear pb hr1 hn1 HF hw1
 obtain ⟨k0,k1,k2,k3⟩:=Q2.out
 obtain ⟨m0,m1⟩:=Q3.out
 dsimp only at m0 m1
 go_wp2_with fail
 refine (HK.out _ Qz.out).mono ?_
 rintro _ w2 ⟨rfl,hb2⟩
 have Qq:=Qa (bel_step Qz.out hb2)
 have Q4:=Qa (Q2.out.below hb2)
 have Q5:=Qa (Q3.out.below hb2)
 clear k0 k1 k2 k3 m0 m1 hb2 Qz Q2 Q3
 by_cases h0:kv=0
 case pos =>
  subst h0
  have hl:=HL.out
  rw [Jb (by first|rfl|trivial)] at hl
  have da:ns=[]:=HV.out.nil_of (by rw [hl];decide)
  subst da
  go_wp2_with fail
  go_ret2
  exact ⟨none,0,[],by rw [hl];rfl,HV.out,NR.nil _ _ _,Nat.le_refl _,by unfold maxLen;decide,by decide,Qq.out⟩
 have q0:(kv == 0)=false:=by simpa using h0
 obtain ⟨k0,k1,k2,k3⟩:=Q4.out
 obtain ⟨m0,m1⟩:=Q5.out
 dsimp only at m0 m1
 go_wp2_with fail
 refine (HK.out _ Qq.out).mono ?_
 rintro _ w3 ⟨rfl,hb3⟩
 have Qr:=Qa (bel_step Qq.out hb3)
 have Q6:=Qa (Q4.out.below hb3)
 have Q7:=Qa (Q5.out.below hb3)
 clear k0 k1 k2 k3 m0 m1 hb3 Qq Q4 Q5
 by_cases h2:kv=2
 case neg =>
  have q2:(kv != 2)=true:=by simpa using h2
  have hl:=HL.out
  rw [Ja h0,Ja h2] at hl
  have da:ns=[]:=HV.out.nil_of (by rw [hl];decide)
  subst da
  clear h0 h2
  go_wp2_with fail
  go_ret2
  exact ⟨none,0,[],by rw [hl];rfl,HV.out,NR.nil _ _ _,Nat.le_refl _,by unfold maxLen;decide,by decide,Qr.out⟩
 subst h2
 have ba:=HL.out
 rw [Ja (by decide),Jb (by first|rfl|trivial)] at ba
 have Xs:=Qa ba
 clear HL h0 q0 ba HK
 obtain ⟨k0,k1,k2,k3⟩:=Q6.out
 obtain ⟨m0,m1⟩:=Q7.out
 dsimp only at m0 m1
 go_wp2_with fail
 refine (Qx.out _ Qr.out).mono ?_
 rintro _ w4 ⟨oa,ca,rfl,hsa,hb4⟩
 have Q8:=Qa (bel_step Qr.out hb4)
 have Q9:=Qa (Q6.out.below hb4)
 have Xa:=Qa (Q7.out.below hb4)
 have Xg:=Qa hsa
 clear k0 k1 k2 k3 m0 m1 hb4 hsa Qr Q6 Q7
 obtain ⟨k0,k1,k2,k3⟩:=Q9.out
 obtain ⟨m0,m1⟩:=Xa.out
 dsimp only at m0 m1
 go_wp2_with fail
 refine (Qy.out _ Q8.out).mono ?_
 rintro _ w5 ⟨ob,cc,rfl,hsb,hb5⟩
 have Xt:=Qa (bel_step Q8.out hb5)
 have Xh:=Qa (Q9.out.below hb5)
 have Xi:=Qa (Xa.out.below hb5)
 obtain ⟨v1,w6,A,cq,w7,hr1,hr2,hb7,her⟩:=all_rows (sl_bel Xg.out hb5) hsb (by have:=all_len HI.out.1 n1;have:=all_len HI.out.2 n2;omega)
 have Xu:=Qa (Xh.out.below hb7)
 have Xv:=Qa (Xi.out.below hb7)
 have Xj:=Qa (bel_step Xt.out hb7)
 have Xb:=Qa her
 have Xk:=Qa hr1
 have Qs:=Qa hr2
 have Qt:=Qa (show ∀x∈(U.all n1).1++(L.all n2).1,x.1.size≤60 from fun x hx=>by
  rcases List.mem_append.1 hx with hx|hx
  ·exact all_short HI.out.1 n1 hx
  ·exact all_short HI.out.2 n2 hx)
 have Ql:=Qa (show ((U.all n1).1++(L.all n2).1).length≤8000 by have:=all_len HI.out.1 n1;have:=all_len HI.out.2 n2;rw [List.length_append];omega)
 have Xl:=Qa (fun (j:Nat) (hj:j≤ns.length)=>show bestA U L (n1,n2) ns j (((U.all n1).1++(L.all n2).1).map (·.1))=(ns[j]?).getD ⟨#[]⟩ from best_is HI.out.1 HI.out.2 HV.out j hj)
 have Qv:=Qa (show ∀x∈ns,x≠⟨#[]⟩∧x∈((U.all n1).1++(L.all n2).1).map (·.1) from fun x hx=>⟨(name_in HI.out.1 HI.out.2 ((HV.out.mem x).1 hx)).2,(name_in HI.out.1 HI.out.2 ((HV.out.mem x).1 hx)).1⟩)
 clear hb5 hsb hb7 her hr1 hr2 Xg Q8 Q9 Xa Xh Xi k0 k1 k2 k3 m0 m1 Qx Qy
 generalize (U.all n1).1=Lu at *
 generalize (L.all n2).1=Ll at *
 generalize (U.all n1).2=eu at *
 generalize (L.all n2).2=el at *
 obtain ⟨mu,hmu⟩:∃m,Lu.length=m:=⟨_,rfl⟩
 obtain ⟨ml,hml⟩:∃m,Ll.length=m:=⟨_,rfl⟩
 rw [hmu] at Xk ⊢
 rw [hml] at Qs ⊢
 obtain ⟨NN,hNN⟩:∃N,Lu++Ll=N:=⟨_,rfl⟩
 rw [hNN] at Xb Qt Ql Xl Qv Qs
 obtain ⟨nn,hnn⟩:∃m,NN.length=m:=⟨_,rfl⟩
 rw [hnn] at Ql Qs
 have Xc:=Qa hnn
 clear hNN hnn hmu hml
 obtain ⟨p7,hp7⟩:∃p,w7.heap.size=p:=⟨_,rfl⟩
 obtain ⟨w8,hw8⟩:∃w8,w7.alloc (.cells #[] 9)=w8:=⟨_,rfl⟩
 have Qm:=Qa hp7
 have Xw:=Qa (show Ow w8 p7 (.slice (some ⟨p7,0,none⟩) 0 0) (ns.take 0) from ⟨rfl,.inr ⟨p7,0,#[],rfl,Nat.le_refl _,by rw [←hw8,←hp7];exact heap_alloc_new w7 _,Nat.le_refl _,by unfold maxLen;omega,rfl,rfl⟩⟩)
 have Xx:=Qa (show Below p7 w7 w8 by rw [←hw8,←hp7];exact bel_alloc w7 _)
 rw [hp7] at Xb
 go_upto_region 9 with (first|(at_builtin;refine Lib.wpList_append_run _ rfl (.tmp 41) (.tmp 42) 89 89 rfl _ _ rfl rfl _ _ Xk.out ?_)|(at_builtin;refine Lib.wpList_append_run _ rfl (.tmp 43) (.tmp 44) 89 89 rfl _ _ rfl rfl _ _ Qs.out ?_))
 try rw [hp7]
 try rw [hw8]
 clear hw8 hp7
 have Xm:=Qa (show ns.length≤8000 by
  have h1:=nodup_le ns (NN.map (·.1)) (HV.out.rise.imp fun h=>dn.less_ne h) (fun x hx=>(Qv.out x hx).2)
  have h2:=Ql.out
  have h3:=Xc.out
  rw [List.length_map,h3] at h1
  omega)
 have Qn:=Qa (fun (W:World) (hb:Below p7 w7 W)=>show Below w.heap.size w W∧R4 W g D1 D2 u l∧Nb W (g+1) (n1,n2) from by
  rw [←Qm.out] at hb
  exact ⟨bel_step Xj.out hb,Xu.out.below hb,Xv.out.below hb⟩)
 go_loopg [11] ns.length (fun gh sA wr=>∃(j:Nat),gh+j=ns.length∧Hid (Ow wr p7 sA (ns.take j))∧Hid (Below p7 w7 wr))
 case atStart=>exact ⟨0,by omega,Xw,Xx⟩
 case round =>
  obtain ⟨j,hgj,Xn,Xd⟩:=hrel
  obtain ⟨Aj,cj,hAj,hc1,hc2,hnr⟩:=Xn.out.form
  have hlt:(ns.take j).length=j:=by rw [List.length_take];omega
  rw [hlt] at hAj hc1
  subst hAj
  clear hnr
  go_upto_region 11 with fail
  go_loopg [12,13] nn (fun gh sB sI wi=>∃(i:Nat),gh+i=nn∧sI=.int .i64 i∧sB=.string (bestA U L (n1,n2) ns j ((NN.map (·.1)).take i))∧Hid (Ow wi p7 (.slice Aj j cj) (ns.take j))∧Hid (Below p7 w7 wi))
  case atStart=>exact ⟨0,by omega,rfl,rfl,Xn,Xd⟩
  case round =>
   obtain ⟨i,hgi,rfl,rfl,Qw,Qh⟩:=hrel
   have Xe:=Qa (show (bestA U L (n1,n2) ns j ((NN.map (·.1)).take i)).size≤60 from best_short _ _ (by decide) (fun y hy=>by
    obtain ⟨e,he,rfl⟩:=List.mem_map.1 (List.mem_of_mem_take hy)
    exact Qt.out e he))
   by_cases hi:i<nn
   ·obtain ⟨x0,hx0⟩:∃x0,NN[i]?=some x0:=⟨NN[i]'(by rw [Xc.out];exact hi),List.getElem?_eq_getElem _⟩
    obtain ⟨G,hA,hG,c0⟩:=Xb.out i x0 hx0
    have Qf:=Qa (show bestA U L (n1,n2) ns j ((NN.map (·.1)).take (i+1))=stA U L (n1,n2) ns j (bestA U L (n1,n2) ns j ((NN.map (·.1)).take i)) x0.1 from best_next (by rw [List.getElem?_map,hx0];rfl))
    have yb:=Qt.out x0 (List.mem_of_getElem? hx0)
    have rb:=Xe.out
    have fb:=Ql.out
    have hns:=Xm.out
    subst hA
    replace c0:=(World.cell?_of_block (a:=⟨G,i*2,none⟩) (Qh.out.block G hG)).trans c0
    obtain ⟨x,hx⟩:∃x,x0.1=x:=⟨_,rfl⟩
    rw [hx] at Qf yb c0
    obtain ⟨b,hb⟩:∃b,bestA U L (n1,n2) ns j ((NN.map (·.1)).take i)=b:=⟨_,rfl⟩
    rw [hb] at Qf rb ⊢
    clear hx0 hx hG hb Xe
    have Qg:=Qa (fun (W:World) (hb:Below wr.heap.size wr W)=>show Below w.heap.size w W∧R4 W g D1 D2 u l∧Nb W (g+1) (n1,n2)∧Ow W p7 (.slice Aj j cj) (ns.take j)∧Below p7 w7 W from by
     have h1:Below p7 w7 W:=Qh.out.trans (hb.mono (Qm.out▸Qh.out.size))
     obtain ⟨a1,a2,a3⟩:=Qn.out W h1
     exact ⟨a1,a2,a3,Qw.out.below hb,h1⟩)
    have la:Below wr.heap.size wr wr:=Below.refl _ _
    cases j with
    | zero =>
     have Qo:=Qa (bhd_zero ns x)
     by_cases hbe:b=⟨#[]⟩
     ·subst hbe
      obtain ⟨ja,⟨k0,k1,k2,k3⟩,⟨m0,m1⟩,-,-⟩:=Qg.out _ la
      dsimp only at m0 m1
      have qa:=HG.out _ ja x
      have Qi:=Qa la
      have Qd:=Qa (fun e=>st_yes (U:=U) (L:=L) (n:=(n1,n2)) (b:=⟨#[]⟩) Qo.out (.inl rfl) e)
      clear ja la
      obtain ⟨r,hr⟩:∃r,getV U L (n1,n2) x=r:=⟨_,rfl⟩
      rw [hr] at qa Qd
      have Qj:=Qa hr
      clear hr
      obtain ⟨⟨r1,r2⟩,re⟩:=r
      dsimp only at qa Qd
      go_wp2_with fail
      refine qa.mono ?_
      rintro _ wg ⟨rfl,hbg⟩
      have Qk:=Qa (bel_step Qi.out hbg)
      clear k0 k1 k2 k3 m0 m1 hbg qa
      obtain ⟨wh,hwh⟩:∃wh,wg.alloc (.cells #[.int .i64 r1,.int .i64 r2] 24)=wh:=⟨_,rfl⟩
      have xa:Below wr.heap.size wr wh:=by rw [←hwh];exact bel_step Qk.out (bel_alloc wg _)
      obtain ⟨-,-,-,how,hbj⟩:=Qg.out _ xa
      have Qb:=Qa how
      have Qc:=Qa hbj
      clear how hbj xa
      by_cases hre:re=0
      ·subst hre
       have Qe:=Qa (Qf.out.trans (Qd.out rfl))
       go_upto_region 16 with fail
       try rw [hwh]
       clear hwh
       go_wp2_with fail
       go_roundg (gk - 1)
       case measure=>omega
       case rel=>exact ⟨i+1,by omega,by go_num,by rw [Qe.out],Qb,Qc⟩
      ·have Qe:=Qa (Qf.out.trans (st_no3 (by rw [Qj.out];exact hre)))
       have fa:(re == 0)=false:=by simpa using hre
       go_upto_region 16 with fail
       try rw [hwh]
       clear hwh
       go_wp2_with fail
       go_roundg (gk - 1)
       case measure=>omega
       case rel=>exact ⟨i+1,by omega,by go_num,by rw [Qe.out],Qb,Qc⟩
     ·have kb:(b.toList == (⟨#[]⟩:ByteArray).toList)=false:=beq_eq_false_iff_ne.2 fun e=>hbe (dn.toList_inj e)
      have sa:(b.toList == [])=false:=beq_eq_false_iff_ne.2 fun e=>hbe (dn.toList_inj (e.trans (by rw [Lib.toList_data])))
      obtain ⟨c2,hc2x⟩:∃c,lessB x b=c:=⟨_,rfl⟩
      have ga:=dn.rless_any x b (wr) (by omega) (by omega)
      rw [hc2x] at ga
      have Qp:=Qa hc2x
      clear hc2x
      go_wp2_with fail
      refine ga.mono ?_
      rintro _ wk ⟨rfl,hbk⟩
      have ma:=bel_step la hbk
      clear hbk ga 
      cases c2 with
      | false =>
       obtain ⟨-,-,-,how,hbj⟩:=Qg.out _ ma
       have Qb:=Qa how
       have Qc:=Qa hbj
       have Qe:=Qa (Qf.out.trans (st_no2 hbe Qp.out))
       clear how hbj ma
       go_wp2_with fail
       go_roundg (gk - 1)
       case measure=>omega
       case rel=>exact ⟨i+1,by omega,by go_num,by rw [Qe.out],Qb,Qc⟩
      | true =>
       obtain ⟨ja,⟨k0,k1,k2,k3⟩,⟨m0,m1⟩,-,-⟩:=Qg.out _ ma
       dsimp only at m0 m1
       have qa:=HG.out _ ja x
       have Qi:=Qa ma
       have Qd:=Qa (fun e=>st_yes (U:=U) (L:=L) (n:=(n1,n2)) (b:=b) Qo.out (.inr Qp.out) e)
       clear ja ma
       obtain ⟨r,hr⟩:∃r,getV U L (n1,n2) x=r:=⟨_,rfl⟩
       rw [hr] at qa Qd
       have Qj:=Qa hr
       clear hr
       obtain ⟨⟨r1,r2⟩,re⟩:=r
       dsimp only at qa Qd
       go_wp2_with fail
       refine qa.mono ?_
       rintro _ wg ⟨rfl,hbg⟩
       have Qk:=Qa (bel_step Qi.out hbg)
       clear k0 k1 k2 k3 m0 m1 hbg qa
       obtain ⟨wh,hwh⟩:∃wh,wg.alloc (.cells #[.int .i64 r1,.int .i64 r2] 24)=wh:=⟨_,rfl⟩
       have xa:Below wr.heap.size wr wh:=by rw [←hwh];exact bel_step Qk.out (bel_alloc wg _)
       obtain ⟨-,-,-,how,hbj⟩:=Qg.out _ xa
       have Qb:=Qa how
       have Qc:=Qa hbj
       clear how hbj xa
       by_cases hre:re=0
       ·subst hre
        have Qe:=Qa (Qf.out.trans (Qd.out rfl))
        go_upto_region 16 with fail
        try rw [hwh]
        clear hwh
        go_wp2_with fail
        go_roundg (gk - 1)
        case measure=>omega
        case rel=>exact ⟨i+1,by omega,by go_num,by rw [Qe.out],Qb,Qc⟩
       ·have Qe:=Qa (Qf.out.trans (st_no3 (by rw [Qj.out];exact hre)))
        have fa:(re == 0)=false:=by simpa using hre
        go_upto_region 16 with fail
        try rw [hwh]
        clear hwh
        go_wp2_with fail
        go_roundg (gk - 1)
        case measure=>omega
        case rel=>exact ⟨i+1,by omega,by go_num,by rw [Qe.out],Qb,Qc⟩
    | succ j =>
     obtain ⟨o,ho⟩:∃o,ns[j]?=some o:=⟨ns[j]'(by omega),List.getElem?_eq_getElem _⟩
     obtain ⟨_,_,hAA,-,-,hnr⟩:=Qw.out.form
     injection hAA with hAA e1 e2
     clear e1 e2
     subst hAA
     obtain ⟨G2,hA2,-,-,c1,-⟩:=hnr j o (by rw [List.getElem?_take_of_lt (by omega)];exact ho)
     subst hA2
     have mc:o.size≤60:=by
      obtain ⟨e,he,rfl⟩:=List.mem_map.1 (Qv.out o (List.mem_of_getElem? ho)).2
      exact Qt.out e he
     have Xf:=Qa (bhd_succ ho x)
     obtain ⟨c1x,hc1x⟩:∃c,lessB o x=c:=⟨_,rfl⟩
     have mb:=dn.rless_any o x wr (by omega) (by omega)
     rw [hc1x] at mb Xf
     clear hc1x ho hnr hlt
     go_wp2_with fail
     refine mb.mono ?_
     rintro _ wl ⟨rfl,hbl⟩
     clear mb c0 c1
     cases c1x with
     | false =>
      obtain ⟨-,-,-,how,hbj⟩:=Qg.out _ hbl
      have Qb:=Qa how
      have Qc:=Qa hbj
      have Qe:=Qa (Qf.out.trans (st_no1 Xf.out))
      clear how hbj hbl
      go_wp2_with fail
      go_roundg (gk - 1)
      case measure=>omega
      case rel=>exact ⟨i+1,by omega,by go_num,by rw [Qe.out],Qb,Qc⟩
     | true =>
      have Qo:=Xf
      by_cases hbe:b=⟨#[]⟩
      ·subst hbe
       obtain ⟨ja,⟨k0,k1,k2,k3⟩,⟨m0,m1⟩,-,-⟩:=Qg.out _ hbl
       dsimp only at m0 m1
       have qa:=HG.out _ ja x
       have Qi:=Qa hbl
       have Qd:=Qa (fun e=>st_yes (U:=U) (L:=L) (n:=(n1,n2)) (b:=⟨#[]⟩) Qo.out (.inl rfl) e)
       clear ja hbl
       obtain ⟨r,hr⟩:∃r,getV U L (n1,n2) x=r:=⟨_,rfl⟩
       rw [hr] at qa Qd
       have Qj:=Qa hr
       clear hr
       obtain ⟨⟨r1,r2⟩,re⟩:=r
       dsimp only at qa Qd
       go_wp2_with fail
       refine qa.mono ?_
       rintro _ wg ⟨rfl,hbg⟩
       have Qk:=Qa (bel_step Qi.out hbg)
       clear k0 k1 k2 k3 m0 m1 hbg qa
       obtain ⟨wh,hwh⟩:∃wh,wg.alloc (.cells #[.int .i64 r1,.int .i64 r2] 24)=wh:=⟨_,rfl⟩
       have xa:Below wr.heap.size wr wh:=by rw [←hwh];exact bel_step Qk.out (bel_alloc wg _)
       obtain ⟨-,-,-,how,hbj⟩:=Qg.out _ xa
       have Qb:=Qa how
       have Qc:=Qa hbj
       clear how hbj xa
       by_cases hre:re=0
       ·subst hre
        have Qe:=Qa (Qf.out.trans (Qd.out rfl))
        go_upto_region 16 with fail
        try rw [hwh]
        clear hwh
        go_wp2_with fail
        go_roundg (gk - 1)
        case measure=>omega
        case rel=>exact ⟨i+1,by omega,by go_num,by rw [Qe.out],Qb,Qc⟩
       ·have Qe:=Qa (Qf.out.trans (st_no3 (by rw [Qj.out];exact hre)))
        have fa:(re == 0)=false:=by simpa using hre
        go_upto_region 16 with fail
        try rw [hwh]
        clear hwh
        go_wp2_with fail
        go_roundg (gk - 1)
        case measure=>omega
        case rel=>exact ⟨i+1,by omega,by go_num,by rw [Qe.out],Qb,Qc⟩
      ·have kb:(b.toList == (⟨#[]⟩:ByteArray).toList)=false:=beq_eq_false_iff_ne.2 fun e=>hbe (dn.toList_inj e)
       have sa:(b.toList == [])=false:=beq_eq_false_iff_ne.2 fun e=>hbe (dn.toList_inj (e.trans (by rw [Lib.toList_data])))
       obtain ⟨c2,hc2x⟩:∃c,lessB x b=c:=⟨_,rfl⟩
       have ga:=dn.rless_any x b (wl) (by omega) (by omega)
       rw [hc2x] at ga
       have Qp:=Qa hc2x
       clear hc2x
       go_wp2_with fail
       refine ga.mono ?_
       rintro _ wk ⟨rfl,hbk⟩
       have ma:=bel_step hbl hbk
       clear hbk ga hbl
       cases c2 with
       | false =>
        obtain ⟨-,-,-,how,hbj⟩:=Qg.out _ ma
        have Qb:=Qa how
        have Qc:=Qa hbj
        have Qe:=Qa (Qf.out.trans (st_no2 hbe Qp.out))
        clear how hbj ma
        go_wp2_with fail
        go_roundg (gk - 1)
        case measure=>omega
        case rel=>exact ⟨i+1,by omega,by go_num,by rw [Qe.out],Qb,Qc⟩
       | true =>
        obtain ⟨ja,⟨k0,k1,k2,k3⟩,⟨m0,m1⟩,-,-⟩:=Qg.out _ ma
        dsimp only at m0 m1
        have qa:=HG.out _ ja x
        have Qi:=Qa ma
        have Qd:=Qa (fun e=>st_yes (U:=U) (L:=L) (n:=(n1,n2)) (b:=b) Qo.out (.inr Qp.out) e)
        clear ja ma
        obtain ⟨r,hr⟩:∃r,getV U L (n1,n2) x=r:=⟨_,rfl⟩
        rw [hr] at qa Qd
        have Qj:=Qa hr
        clear hr
        obtain ⟨⟨r1,r2⟩,re⟩:=r
        dsimp only at qa Qd
        go_wp2_with fail
        refine qa.mono ?_
        rintro _ wg ⟨rfl,hbg⟩
        have Qk:=Qa (bel_step Qi.out hbg)
        clear k0 k1 k2 k3 m0 m1 hbg qa
        obtain ⟨wh,hwh⟩:∃wh,wg.alloc (.cells #[.int .i64 r1,.int .i64 r2] 24)=wh:=⟨_,rfl⟩
        have xa:Below wr.heap.size wr wh:=by rw [←hwh];exact bel_step Qk.out (bel_alloc wg _)
        obtain ⟨-,-,-,how,hbj⟩:=Qg.out _ xa
        have Qb:=Qa how
        have Qc:=Qa hbj
        clear how hbj xa
        by_cases hre:re=0
        ·subst hre
         have Qe:=Qa (Qf.out.trans (Qd.out rfl))
         go_upto_region 16 with fail
         try rw [hwh]
         clear hwh
         go_wp2_with fail
         go_roundg (gk - 1)
         case measure=>omega
         case rel=>exact ⟨i+1,by omega,by go_num,by rw [Qe.out],Qb,Qc⟩
        ·have Qe:=Qa (Qf.out.trans (st_no3 (by rw [Qj.out];exact hre)))
         have fa:(re == 0)=false:=by simpa using hre
         go_upto_region 16 with fail
         try rw [hwh]
         clear hwh
         go_wp2_with fail
         go_roundg (gk - 1)
         case measure=>omega
         case rel=>exact ⟨i+1,by omega,by go_num,by rw [Qe.out],Qb,Qc⟩
   ·have kc:i=nn:=by omega
    subst kc
    have ya:bestA U L (n1,n2) ns j ((NN.map (·.1)).take i)=(ns[j]?).getD ⟨#[]⟩:=by
     rw [List.take_of_length_le (by rw [List.length_map,Xc.out];exact Nat.le_refl _)]
     exact Xl.out j (by omega)
    rw [ya]
    have fb:=Ql.out
    have hns:=Xm.out
    clear ya Xe
    cases hj:ns[j]? with
    | none =>
     rw [List.getElem?_eq_none_iff] at hj
     have xb:j=ns.length:=by omega
     obtain ⟨_,_,hAA,-,-,hnr⟩:=Qw.out.form
     injection hAA with hAA e1 e2
     clear e1 e2
     subst hAA
     have Xo:=Qa (show AllE w U L (n1,n2) (.returned (.tuple #[.slice Aj j cj,.int .i64 0])) wr from by
      subst xb
      rw [List.take_length] at hnr
      refine ⟨Aj,cj,ns,by rw [Xs.out],HV.out,fun k x hx=>?_,hc1,hc2,hns,(Qn.out _ Qh.out).1⟩
      obtain ⟨G,a,b,c,d⟩:=hnr k x hx
      exact ⟨G,a,Nat.le_trans (by rw [←Qm.out];exact Xj.out.size) b,c,d⟩)
     unfold AllE at Xo
     rw [Option.getD_none]
     have kb:((⟨#[]⟩:ByteArray).toList == (⟨#[]⟩:ByteArray).toList)=true:=by simp
     clear hnr hj hlt xb
     go_wp2_with fail
     go_ret2
     exact Xo.out
    | some s =>
     have jb:=Qv.out s (List.mem_of_getElem? hj)
     rw [Option.getD_some]
     have kb:(s.toList == (⟨#[]⟩:ByteArray).toList)=false:=beq_eq_false_iff_ne.2 fun e=>jb.1 (dn.toList_inj e)
     have sa:(s.toList == [])=false:=beq_eq_false_iff_ne.2 fun e=>jb.1 (dn.toList_inj (e.trans (by rw [Lib.toList_data])))
     obtain ⟨i0,hi,hz0,hz1,hz2⟩:=info_parts9
     have Xp:=Qa (fun ob=>Qw.out.below (bel_alloc wr ob))
     have Xq:=Qa (fun ob=>show p7≤(wr.alloc ob).heap.size from by rw [World.size_alloc,←Qm.out];have:=Qh.out.size;omega)
     have Xy:=Qa (fun ob (W:World) (v:Value) (hg:(wr.alloc ob).grownBy W v.ownBlock) (hv:∀k,v.ownBlock=some k→p7≤k)=>show Below p7 w7 W from
      Below.grown (Qh.out.trans ((bel_alloc wr ob).mono (Qm.out▸Qh.out.size))) hg (Xq.out ob) hv)
     have Xz:=Qa (show ns.take j++[s]=ns.take (j+1) by rw [List.take_add_one,hj];rfl)
     have Xr:=Qa (show j<ns.length from (List.getElem?_eq_some_iff.1 hj).1)
     clear hj jb
     go_wp2_with (first|(at_builtin;go_must (refine wpList_append_own _ rfl (.tmp 93) (.tmp 95) 43 rfl p7 9 i0 _ 1 16 Tryz.underlying43 hi hz0 hz1 hz2 rfl (by decide) (.slice Aj j cj) (ns.take j).length ((ns.take j).map Value.string) rfl (Xp.out _) ⟨wr.heap.size,0,none⟩ 1 1 [.string s] rfl rfl (cell_one_new _ _ _) (by intro u hu;simp at hu;subst hu;rfl) (by rw [hlt];unfold maxLen;omega) (by rw [hlt];omega) (Xq.out _) ?_;intro v' w9 hown9 hg9 _;have X0:=Qa (show Ow w9 p7 v' (ns.take (j+1)) by rw [←Xz.out];exact Ow.of hown9);have X3:=Qa (Xy.out _ w9 _ hg9 (Xp.out (.cells #[] 0)).row);clear hown9 hg9)))
     go_roundg (ns.length - (j+1))
     case measure=>have:=Xr.out;omega
     case rel=>exact ⟨j+1,by have:=Xr.out;omega,X0,X3⟩
end mg
namespace mg
open Go.RowKit Go.Deep
open br (BS Ino Inv fresh)
open cb (BrX RetW RetI No)
open bl (Pq)
theorem Vd.targ1 {w:World} {D1 D2:Nat} {U L:BS} (h:Vd w D1 D2 U L) (i:Int):Calls Tryz.prog 85 #[Pq D1,.int .i64 i] w (fun e w'=>e=.returned (.tuple #[.string (U.targetOf i).1,.int .i64 (U.targetOf i).2])∧Below w.heap.size w w'):=by obtain ⟨_,_,_,_,_,k,g⟩:=h.d1;exact quiet_below (cb.q_target k i)
theorem Vd.targ2 {w:World} {D1 D2:Nat} {U L:BS} (h:Vd w D1 D2 U L) (i:Int):Calls Tryz.prog 85 #[Pq D2,.int .i64 i] w (fun e w'=>e=.returned (.tuple #[.string (L.targetOf i).1,.int .i64 (L.targetOf i).2])∧Below w.heap.size w w'):=by obtain ⟨_,_,_,_,_,k,g⟩:=h.d2;exact quiet_below (cb.q_target k i)
theorem rtarget_any {w:World} {D1 D2:Nat} {u l:Int} {U L:BS} (h:Vd w D1 D2 U L) (n:Nd):Calls Tryz.prog 27 #[Rv D1 D2 u l,Nv n] w (fun e w'=>e=.returned (.tuple #[.string (targN U L n).1,.int .i64 (targN U L n).2])∧Below w.heap.size w w'):=by
 obtain ⟨n1,n2⟩:=n
 have HF:=Qa (show ∀w1,(w.alloc (.cells #[Pq D1,Pq D2,.int .i64 u,.int .i64 l] 36)).alloc (.cells #[.int .i64 n1,.int .i64 n2] 24)=w1→Below w.heap.size w w1∧R4 w1 w.heap.size D1 D2 u l∧Nb w1 (w.heap.size+1) (n1,n2) from fun w1 hw1=>by
  rw [←hw1]
  refine ⟨bel_step (bel_alloc _ _) (bel_alloc _ _),(R4.new w D1 D2 u l).below (bel_alloc _ _),?_⟩
  have:=Nb.new (w.alloc (.cells #[Pq D1,Pq D2,.int .i64 u,.int .i64 l] 36)) n1 n2
  rwa [World.size_alloc] at this)
 have HK:=Qa (fun W (hb:Below w.heap.size w W)=>rkind_any (u:=u) (l:=l) (h.below hb) (n1,n2))
 have Qb:=Qa (fun W (hb:Below w.heap.size w W)=>(h.below hb).targ1 n1)
 have Qc:=Qa (fun W (hb:Below w.heap.size w W)=>(h.below hb).targ2 n2)
 have HV:=Qa (show targN U L (n1,n2)=if kindV U L (n1,n2)=0 then (⟨#[]⟩,2) else if n1≠0 then U.targetOf n1 else L.targetOf n2 from rfl)
 obtain ⟨kv,hkv⟩:∃k,kindV U L (n1,n2)=k:=⟨_,rfl⟩
 rw [hkv] at HK HV
 generalize targN U L (n1,n2)=tv at *
 generalize U.targetOf n1=tu at *
 generalize L.targetOf n2=tl at *
 obtain ⟨tu1,tu2⟩:=tu
 obtain ⟨tl1,tl2⟩:=tl
 dsimp only at Qb Qc
 unfold RetI at HK
 obtain ⟨g,hg⟩:∃g,w.heap.size=g:=⟨_,rfl⟩
 have Qe:=Qa hg
 rw [hg] at HF
 clear h hkv
 go_enter Tryz.func27,Tryz.ntmps27
 go_upto_region 1 with fail
 generalize hw1:(w.alloc (.cells #[Pq D1,Pq D2,.int .i64 u,.int .i64 l] 36)).alloc (.cells #[.int .i64 n1,.int .i64 n2] 24)=w1
 obtain ⟨ma,hr1,hn1⟩:=HF.out w1 hw1
 have Qf:=Qa (show Below w.heap.size w w1 by rw [Qe.out];exact ma)
 have Qg:=Qa hr1
 have Qh:=Qa hn1
 clear ma hr1 hn1 HF hw1
 obtain ⟨k0,k1,k2,k3⟩:=Qg.out
 obtain ⟨m0,m1⟩:=Qh.out
 dsimp only at m0 m1
 go_wp2_with fail
 refine (HK.out _ Qf.out).mono ?_
 rintro _ w2 ⟨rfl,hb2⟩
 have Qd:=Qa (bel_step Qf.out hb2)
 have Qj:=Qa (Qg.out.below hb2)
 have Qk:=Qa (Qh.out.below hb2)
 clear k0 k1 k2 k3 m0 m1 hb2 Qf Qg Qh
 by_cases h0:kv=0
 case pos =>
  subst h0
  have hv:=HV.out
  rw [Jb (by first|rfl|trivial)] at hv
  subst hv
  clear HV Qb Qc
  go_wp2_with fail
  go_ret2
  exact ⟨rfl,Qe.out▸Qd.out⟩
 have q0:(kv == 0)=false:=by simpa using h0
 have hv:=HV.out
 rw [Ja h0] at hv
 obtain ⟨k0,k1,k2,k3⟩:=Qj.out
 obtain ⟨m0,m1⟩:=Qk.out
 dsimp only at m0 m1
 by_cases hn:n1=0
 ·have qn:(n1 != 0)=false:=by simpa using hn
  rw [Ja (by simpa using hn)] at hv
  subst hv
  have ht:=Qc.out _ Qd.out
  clear HV Qb Qc h0 hn
  go_wp2_with fail
  refine ht.mono ?_
  rintro _ w3 ⟨rfl,hb3⟩
  have Qi:=Qa (bel_step Qd.out hb3)
  clear hb3 ht k0 k1 k2 k3 m0 m1
  go_wp2_with fail
  go_ret2
  exact ⟨rfl,Qe.out▸Qi.out⟩
 ·have qn:(n1 != 0)=true:=by simpa using hn
  rw [Jb hn] at hv
  subst hv
  have ht:=Qb.out _ Qd.out
  clear HV Qb Qc h0 hn
  go_wp2_with fail
  refine ht.mono ?_
  rintro _ w3 ⟨rfl,hb3⟩
  have Qi:=Qa (bel_step Qd.out hb3)
  clear hb3 ht k0 k1 k2 k3 m0 m1
  go_wp2_with fail
  go_ret2
  exact ⟨rfl,Qe.out▸Qi.out⟩
def QRead (w:World) (S:BS) (i off n:Int) (e:Ending) (w':World):Prop:=∃v,e=.returned (.tuple #[v,.int .i64 (cb.readI S i off n).1])∧w'.ownsRow w.heap.size 5 1 v (cb.readI S i off n).2 (bl.rowF (cb.readI S i off n).2 (fun j=>(S.at i).body.dat (off.toNat+j)))∧Below w.heap.size w w'
theorem Vd.read1 {w:World} {D1 D2:Nat} {U L:BS} (h:Vd w D1 D2 U L) (i off sz:Int):Calls Tryz.prog 86 #[Pq D1,.int .i64 i,.int .i64 off,.int .i64 sz] w (QRead w U i off sz):=by obtain ⟨_,_,_,_,_,k,g⟩:=h.d1;exact cb.q_read k g i off sz
theorem Vd.read2 {w:World} {D1 D2:Nat} {U L:BS} (h:Vd w D1 D2 U L) (i off sz:Int):Calls Tryz.prog 86 #[Pq D2,.int .i64 i,.int .i64 off,.int .i64 sz] w (QRead w L i off sz):=by obtain ⟨_,_,_,_,_,k,g⟩:=h.d2;exact cb.q_read k g i off sz
def QReadN (w:World) (U L:BS) (n:Nd) (off sz:Int) (e:Ending) (w':World):Prop :=
 (kindV U L n=0∧e=.returned (.tuple #[.slice none 0 0,.int .i64 2])∧Below w.heap.size w w')∨(kindV U L n≠0∧QRead w (readN U L n).1 (readN U L n).2 off sz e w')
theorem qread_lo {w w0 w':World} {S:BS} {i off n:Int} {e:Ending} (hb:Below w0.heap.size w0 w) (h:QRead w S i off n e w'):QRead w0 S i off n e w':=by
 obtain ⟨v,e1,h1,h2⟩:=h
 exact ⟨v,e1,⟨h1.1,h1.2.imp id fun ⟨g,cap,cur,a,b,c⟩=>⟨g,cap,cur,a,Nat.le_trans hb.size b,c⟩⟩,bel_step hb h2⟩
theorem rread_any {w:World} {D1 D2:Nat} {u l:Int} {U L:BS} (h:Vd w D1 D2 U L) (n:Nd) (off sz:Int):Calls Tryz.prog 29 #[Rv D1 D2 u l,Nv n,.int .i64 off,.int .i64 sz] w (QReadN w U L n off sz):=by
 obtain ⟨n1,n2⟩:=n
 have HF:=Qa (show ∀w1,(w.alloc (.cells #[Pq D1,Pq D2,.int .i64 u,.int .i64 l] 36)).alloc (.cells #[.int .i64 n1,.int .i64 n2] 24)=w1→Below w.heap.size w w1∧R4 w1 w.heap.size D1 D2 u l∧Nb w1 (w.heap.size+1) (n1,n2) from fun w1 hw1=>by
  rw [←hw1]
  refine ⟨bel_step (bel_alloc _ _) (bel_alloc _ _),(R4.new w D1 D2 u l).below (bel_alloc _ _),?_⟩
  have:=Nb.new (w.alloc (.cells #[Pq D1,Pq D2,.int .i64 u,.int .i64 l] 36)) n1 n2
  rwa [World.size_alloc] at this)
 have HK:=Qa (fun W (hb:Below w.heap.size w W)=>rkind_any (u:=u) (l:=l) (h.below hb) (n1,n2))
 have Qf:=Qa (fun W (hb:Below w.heap.size w W)=>(h.below hb).read1 n1 off sz)
 have Qg:=Qa (fun W (hb:Below w.heap.size w W)=>(h.below hb).read2 n2 off sz)
 have Qd:=Qa (show ∀W,kindV U L (n1,n2)=0→Below w.heap.size w W→QReadN w U L (n1,n2) off sz (.returned (.tuple #[.slice none 0 0,.int .i64 2])) W from fun W a b=>.inl ⟨a,rfl,b⟩)
 have Qb:=Qa (show ∀W e W',kindV U L (n1,n2)≠0→n1≠0→Below w.heap.size w W→QRead W U n1 off sz e W'→QReadN w U L (n1,n2) off sz e W' from fun W e W' a b c d=>.inr ⟨a,by have:=qread_lo c d;unfold readN;dsimp only;rw [Jb b];exact this⟩)
 have Qc:=Qa (show ∀W e W',kindV U L (n1,n2)≠0→n1=0→Below w.heap.size w W→QRead W L n2 off sz e W'→QReadN w U L (n1,n2) off sz e W' from fun W e W' a b c d=>.inr ⟨a,by have:=qread_lo c d;unfold readN;dsimp only;rw [Ja (by simpa using b)];exact this⟩)
 obtain ⟨kv,hkv⟩:∃k,kindV U L (n1,n2)=k:=⟨_,rfl⟩
 rw [hkv] at HK Qd Qb Qc
 obtain ⟨PQ,hPQ⟩:∃P,QReadN w U L (n1,n2) off sz=P:=⟨_,rfl⟩
 rw [hPQ] at Qd Qb Qc ⊢
 unfold RetI at HK
 obtain ⟨g,hg⟩:∃g,w.heap.size=g:=⟨_,rfl⟩
 have Qk:=Qa hg
 rw [hg] at HF
 clear h hkv hPQ
 go_enter Tryz.func29,Tryz.ntmps29
 go_upto_region 1 with fail
 generalize hw1:(w.alloc (.cells #[Pq D1,Pq D2,.int .i64 u,.int .i64 l] 36)).alloc (.cells #[.int .i64 n1,.int .i64 n2] 24)=w1
 obtain ⟨ma,hr1,hn1⟩:=HF.out w1 hw1
 have Qh:=Qa (show Below w.heap.size w w1 by rw [Qk.out];exact ma)
 have Qi:=Qa hr1
 have Qj:=Qa hn1
 clear ma hr1 hn1 HF hw1
 obtain ⟨k0,k1,k2,k3⟩:=Qi.out
 obtain ⟨m0,m1⟩:=Qj.out
 dsimp only at m0 m1
 go_wp2_with fail
 refine (HK.out _ Qh.out).mono ?_
 rintro _ w2 ⟨rfl,hb2⟩
 have Qe:=Qa (bel_step Qh.out hb2)
 have Ql:=Qa (Qi.out.below hb2)
 have Qm:=Qa (Qj.out.below hb2)
 clear k0 k1 k2 k3 m0 m1 hb2 Qh Qi Qj
 by_cases h0:kv=0
 case pos =>
  subst h0
  have hq:=Qd.out w2 rfl Qe.out
  clear Qf Qg Qb Qc
  go_wp2_with fail
  exact hq
 have q0:(kv == 0)=false:=by simpa using h0
 obtain ⟨k0,k1,k2,k3⟩:=Ql.out
 obtain ⟨m0,m1⟩:=Qm.out
 dsimp only at m0 m1
 by_cases hn:n1=0
 ·have qn:(n1 != 0)=false:=by simpa using hn
  have HQ:=Qa (fun e W'=>Qc.out w2 e W' h0 hn Qe.out)
  have ht:=Qg.out _ Qe.out
  clear Qf Qg Qd Qb Qc h0 hn
  go_wp2_with fail
  refine ht.mono ?_
  intro e w3 he
  have hq:=HQ.out _ _ he
  obtain ⟨v,rfl,-,-⟩:=he
  clear HQ ht k0 k1 k2 k3 m0 m1
  go_wp2_with fail
  exact hq
 ·have qn:(n1 != 0)=true:=by simpa using hn
  have HQ:=Qa (fun e W'=>Qb.out w2 e W' h0 hn Qe.out)
  have ht:=Qf.out _ Qe.out
  clear Qf Qg Qd Qb Qc h0 hn
  go_wp2_with fail
  refine ht.mono ?_
  intro e w3 he
  have hq:=HQ.out _ _ he
  obtain ⟨v,rfl,-,-⟩:=he
  clear HQ ht k0 k1 k2 k3 m0 m1
  go_wp2_with fail
  exact hq
end mg
namespace mg
open Go.RowKit Go.Deep
open br (BS Ino Inv fresh)
open cb (BrX RetW RetI No statV)
open bl (Pq)
theorem R4.lo {w w':World} {g D1 D2 X:Nat} {u l:Int} (h:R4 w g D1 D2 u l) (hb:Below X w w') (hx:g<X):R4 w' g D1 D2 u l :=
 ⟨(hb.cell (p:=⟨g,0,none⟩) hx).trans h.c0,(hb.cell (p:=⟨g,1,none⟩) hx).trans h.c1,(hb.cell (p:=⟨g,2,none⟩) hx).trans h.c2,(hb.cell (p:=⟨g,3,none⟩) hx).trans h.c3⟩
theorem Nb.lo {w w':World} {g X:Nat} {n:Nd} (h:Nb w g n) (hb:Below X w w') (hx:g<X):Nb w' g n:=⟨(hb.cell (p:=⟨g,0,none⟩) hx).trans h.c0,(hb.cell (p:=⟨g,1,none⟩) hx).trans h.c1⟩
end mg
namespace mg
open Go.RowKit Go.Deep
open br (BS Ino Inv fresh)
open cb (BrX RetW RetI No statV)
open bl (Pq strF rowF)
theorem own_convF {w:World} {base n c:Nat} {A:Option Addr} {f:Nat→UInt8} (h:w.ownsRow base 5 1 (.slice A n c) n (rowF n f)):(convert 53 9 (.slice A n c)).run Tryz.prog w=.ok (.string (strF n f)) w:=by
 rcases h.2 with ⟨h0,h1⟩|⟨g,cap,cur,hv,_⟩
 ·injection h0 with a1 a2 a3
  subst a1 h1
  exact Lib.run_convert_nil_bytes w 53 9 5 c Tryz.underlying53 Tryz.underlying5 Tryz.underlying9
 ·injection hv with a1 a2 a3
  subst a1
  refine bl.conv_cells fun i hi=>?_
  refine h.cells (g:=g) rfl i _ ?_
  exact bl.rowF_get f hi
theorem own_ofslice {w:World} {lo n:Nat} {v:Value} {L:List Value} (h:w.ownsRow lo 5 1 v n L):∃A c,v=.slice A n c:=by
 rcases h.2 with ⟨h1,h2⟩|⟨g,cap,cur,h1,_⟩
 ·exact ⟨none,0,by rw [h1,h2]⟩
 ·exact ⟨_,cap,h1⟩
theorem ownr_below {w w':World} {lo t k n:Nat} {v:Value} {L:List Value} (h:w.ownsRow lo t k v n L) (hb:Below w.heap.size w w'):w'.ownsRow lo t k v n L:=by
 refine ⟨h.1,h.2.imp id fun ⟨g,cap,cur,a,b,c,d⟩=>⟨g,cap,cur,a,b,(hb.block g (h.lt g (by rw [a];rfl)).2).trans c,d⟩⟩
def rdN (U L:BS) (n:Nd) (off sz:Int):Int×ByteArray :=
 if kindV U L n=0 then (2,⟨#[]⟩) else ((cb.readI (readN U L n).1 (readN U L n).2 off sz).1,strF (cb.readI (readN U L n).1 (readN U L n).2 off sz).2 (fun j=>((readN U L n).1.at (readN U L n).2).body.dat (off.toNat+j)))
def RdE (w:World) (r:Int×ByteArray) (e:Ending) (w':World):Prop :=
 ∃A m c,e=.returned (.tuple #[.slice A m c,.int .i64 r.1])∧(∀W,Below w'.heap.size w' W→(convert 53 9 (.slice A m c)).run Tryz.prog W=.ok (.string r.2) W)∧Below w.heap.size w w'
theorem rd_nil (W:World):(convert 53 9 (.slice none 0 0)).run Tryz.prog W=.ok (.string ⟨#[]⟩) W:=Lib.run_convert_nil_bytes W 53 9 5 0 Tryz.underlying53 Tryz.underlying5 Tryz.underlying9
theorem rd_doc {w:World} {U L:BS} {n:Nd} {off sz:Int} {e:Ending} {w':World} (h:QReadN w U L n off sz e w'):RdE w (rdN U L n off sz) e w':=by
 unfold rdN
 rcases h with ⟨h0,h1,h2⟩|⟨h0,v,h1,h2,h3⟩
 ·rw [Jb h0];exact ⟨none,0,0,h1,fun W _=>rd_nil W,h2⟩
 ·rw [Ja h0]
  obtain ⟨A,c,rfl⟩:=own_ofslice h2
  exact ⟨A,_,c,h1,fun W hb=>own_convF (ownr_below h2 hb),h3⟩
end mg
end Go.Proofs.YtgoddboicjfkcaaGreat
