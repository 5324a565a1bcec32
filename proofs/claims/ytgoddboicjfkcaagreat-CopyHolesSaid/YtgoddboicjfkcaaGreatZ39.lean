/- Part 39 of what is known of the program's functions and of the document's words: contracts, and the mathematics beneath them. -/
import Derived.Test.YtgoddboicjfkcaaGreatProg
import Derived.Test.YtgoddboicjfkcaaGreatZ25
import Derived.Test.YtgoddboicjfkcaaGreatZ31
import Derived.Test.YtgoddboicjfkcaaGreatZ38
import Derived.Test.YtgoddboicjfkcaaGreatZ04
import Derived.Deep.LoopGhost
import Derived.Deep.AppendLies
import Derived.Test.YtgoddboicjfkcaaGreatZ23
import Derived.Test.YtgoddboicjfkcaaGreatZ32
import Derived.Test.YtgoddboicjfkcaaGreatZ37
set_option linter.unusedVariables false
set_option linter.unusedSimpArgs false
set_option maxRecDepth 100000
set_option maxHeartbeats 8000000
namespace Go.Proofs.YtgoddboicjfkcaaGreat.mg
open Go.RowKit
open dn (En lget lset ldel nerr dotB Sorted lessB encL Ao)
open br (BS Ino Inv fresh)
open cb (BrX RetW RetI No)
open bl (Pq)
theorem app_sl {w:World} {base lo c:Nat} {v:Value} {o:Option Nat} {X L:List En} (hown:w.ownsRow base 125 2 v X.length (encL X)) (h:dn.Sl w lo o c L) (hN:X.length+L.length≤1000000) (hb:base≤w.heap.size) :
  ∃ v' w',(Builtin.append_ #[89,89] 89 #[v,.slice (Ao o) L.length c]).run Tryz.prog w=.ok v' w'∧w'.ownsRow base 125 2 v' (X++L).length (encL (X++L))∧w.grownBy w' v.ownBlock:=by
 obtain ⟨i0,hi,hz0,hz1,hz2⟩:=info_parts dn.info37
 cases o with
 | none =>
  obtain ⟨rfl,rfl⟩:=h
  rw [List.append_nil]
  refine ⟨v,w,?_,hown,World.grownBy.refl w _⟩
  obtain ⟨A,c',rfl,hs⟩:=cb.sl_of_owns hown rfl
  have hle:X.length≤c':=by
   cases A with
   | none=>rw [hs.1,hs.2];exact Nat.le_refl _
   | some G=>exact hs.2.1
  simp [hle,Builtin.append_,run_underlying Tryz.underlying89,sizeOf,typeInfo,hi,Builtin.lenOf,Builtin.firstCells,storeCells,Ao]
  cases A <;> rfl
 | some G =>
  have hr:=h.2
  obtain ⟨v',w',h1,h2,h3,_⟩:=run_append_own (P:=Tryz.prog) (w:=w) base 89 89 125 i0 _ 2 24 Tryz.underlying89 hi hz0 hz1 hz2 rfl (by decide) v X.length (encL X) hown ⟨G,0,none⟩ L.length c (encL L) (dn.encL_length L) (fun j u hu=>by
   have:=hr.cells hu
   by_cases hj:j=0
   ·subst hj;simpa [Addr.add] using this
   ·simpa [Addr.add,hj] using this) (dn.encL_one L) (by unfold maxLen;omega) (by omega) hb
  refine ⟨v',w',h1,?_,h3⟩
  rw [List.length_append,dn.encL_append]
  exact h2
def ER (w:World) (B:Nat) (A:Option Addr) (L:List En):Prop:=∀ i x,L[i]?=some x→∃ G,A=some ⟨G,0,none⟩∧G<B∧w.cell? ⟨G,i*2,none⟩=some (.string x.1)
theorem ER.of {w:World} {lo c:Nat} {o:Option Nat} {L:List En} (h:dn.Sl w lo o c L):ER w w.heap.size (Ao o) L:=fun i x hx=>by
 cases o with
 | none=>rw [h.1] at hx;cases hx
 | some G=>exact ⟨G,rfl,h.2.lt,h.2.cells (dn.encL_at hx).1⟩
theorem all_rows {w:World} {lo lo' c c':Nat} {o o':Option Nat} {L K:List En} (h:dn.Sl w lo o c L) (k:dn.Sl w lo' o' c' K) (hN:L.length+K.length≤1000000) :
  ∃ v1 w1 A cc w2,(Builtin.append_ #[89,89] 89 #[.slice (some ⟨w.heap.size,0,none⟩) 0 0,.slice (Ao o) L.length c]).run Tryz.prog (w.alloc (.cells #[] 125))=.ok v1 w1 ∧
   (Builtin.append_ #[89,89] 89 #[v1,.slice (Ao o') K.length c']).run Tryz.prog w1=.ok (.slice A (L++K).length cc) w2∧Below w.heap.size w w2∧ER w2 w2.heap.size A (L++K):=by
 have hb:=bel_alloc w (.cells #[] 125)
 have hsl:∀ {w':World} {lo c:Nat} {o:Option Nat} {L:List En},dn.Sl w lo o c L→Below w.heap.size w w'→dn.Sl w' lo o c L:=fun {w' lo c o L} a b=>by
  cases o with
  | none=>exact a
  | some G=>exact ⟨a.1,a.2.of_block (b.block G a.2.lt)⟩
 obtain ⟨v1,w1,r1,o1,g1⟩:=app_sl (X:=[]) ((dn.row_new w).owns (Nat.le_refl _)) (hsl h hb) (by simp;omega) (by rw [World.size_alloc];omega)
 have hb1:Below w.heap.size w w1:=grown_bel hb g1 (fun k e=>by simp [Value.ownBlock] at e;omega)
 rw [List.nil_append] at o1
 obtain ⟨v2,w2,r2,o2,g2⟩:=app_sl o1 (hsl k hb1) hN hb1.size
 have hb2:Below w.heap.size w w2:=grown_bel hb1 g2 (fun k e=>(World.ownsRow.lt o1 k e).1)
 obtain ⟨oo,cc,rfl,hs⟩:=cb.sl_of_owns o2 rfl
 exact ⟨v1,w1,_,cc,w2,r1,r2,hb2,ER.of hs⟩
theorem sl_bel {w w':World} {lo c:Nat} {o:Option Nat} {L:List En} (a:dn.Sl w lo o c L) (b:Below w.heap.size w w'):dn.Sl w' lo o c L:=by
 cases o with
 | none=>exact a
 | some G=>exact ⟨a.1,a.2.of_block (b.block G a.2.lt)⟩
theorem all_short {S:BS} {room:Nat} (hI:Inv S room) (d:Int) {e:En} (he:e∈(S.all d).1):e.1.size≤60:=by
 unfold BS.all at he
 split at he
 ·cases he
 ·exact (cb.nerr_len (hI.good _ _ he).1).2
end Go.Proofs.YtgoddboicjfkcaaGreat.mg
namespace Go.Proofs.YtgoddboicjfkcaaGreat.mg
open Go.RowKit Go.Deep
open dn (En lget lset ldel nerr dotB Sorted lessB encL Ao)
open br (BS Ino Inv fresh)
open cb (BrX RetW RetI No)
open bl (Pq)
theorem Vd.all1 {w:World} {D1 D2:Nat} {U L:BS} (h:Vd w D1 D2 U L) (i:Int):Calls Tryz.prog 82 #[Pq D1,.int .i64 i] w (cb.AllQ w (U.all i)):=by obtain ⟨_,_,_,_,_,k,g⟩:=h.d1;exact cb.q_all k g i
theorem Vd.all2 {w:World} {D1 D2:Nat} {U L:BS} (h:Vd w D1 D2 U L) (i:Int):Calls Tryz.prog 82 #[Pq D2,.int .i64 i] w (cb.AllQ w (L.all i)):=by obtain ⟨_,_,_,_,_,k,g⟩:=h.d2;exact cb.q_all k g i
theorem rall_any {w:World} {D1 D2:Nat} {u l:Int} {U L:BS} (h:Vd w D1 D2 U L) (n:Nd) (ns:List ByteArray) (hns:AllV U L n ns):Calls Tryz.prog 22 #[Rv D1 D2 u l,Nv n] w (AllE w U L n):=by
 obtain ⟨n1,n2⟩:=n
 have HF:=Lib.hid (show ∀ w1,(w.alloc (.cells #[Pq D1,Pq D2,.int .i64 u,.int .i64 l] 36)).alloc (.cells #[.int .i64 n1,.int .i64 n2] 24)=w1→Below w.heap.size w w1∧R4 w1 w.heap.size D1 D2 u l∧Nb w1 (w.heap.size+1) (n1,n2) from fun w1 hw1=>by
  rw [← hw1]
  refine ⟨bel_step (bel_alloc _ _) (bel_alloc _ _),(R4.new w D1 D2 u l).below (bel_alloc _ _),?_⟩
  have:=Nb.new (w.alloc (.cells #[Pq D1,Pq D2,.int .i64 u,.int .i64 l] 36)) n1 n2
  rwa [World.size_alloc] at this)
 have HK:=Lib.hid (fun W (hb:Below w.heap.size w W)=>rkind_any (u:=u) (l:=l) (h.below hb) (n1,n2))
 have HG:=Lib.hid (fun W (hb:Below w.heap.size w W) s=>rget_any (u:=u) (l:=l) (h.below hb) (n1,n2) s)
 have HA1:=Lib.hid (fun W (hb:Below w.heap.size w W)=>(h.below hb).all1 n1)
 have HA2:=Lib.hid (fun W (hb:Below w.heap.size w W)=>(h.below hb).all2 n2)
 have HV:=Lib.hid hns
 have HL:=Lib.hid (show lstV U L (n1,n2)=if kindV U L (n1,n2)=0 then 2 else if kindV U L (n1,n2)=2 then 0 else 20 from rfl)
 obtain ⟨rU,iU⟩:=h.i1
 obtain ⟨rL,iL⟩:=h.i2
 have HI:=Lib.hid (show Inv U rU∧Inv L rL from ⟨iU,iL⟩)
 clear iU iL
 obtain ⟨kv,hkv⟩:∃ k,kindV U L (n1,n2)=k:=⟨_,rfl⟩
 rw [hkv] at HK HL
 have HKV:=Lib.hid hkv
 unfold RetI at HK
 unfold cb.AllQ at HA1 HA2
 unfold AllE
 obtain ⟨g,hg⟩:∃ g,w.heap.size=g:=⟨_,rfl⟩
 have HGB:=Lib.hid hg
 rw [hg] at HF
 clear h hkv hns
 go_enter Tryz.func22,Tryz.ntmps22
 go_upto_region 1 with fail
 generalize hw1:(w.alloc (.cells #[Pq D1,Pq D2,.int .i64 u,.int .i64 l] 36)).alloc (.cells #[.int .i64 n1,.int .i64 n2] 24)=w1
 obtain ⟨hb1,hr1,hn1⟩:=HF.out w1 hw1
 have HB1:=Lib.hid (show Below w.heap.size w w1 by rw [hg];exact hb1)
 have HR1:=Lib.hid hr1
 have HN1:=Lib.hid hn1
 clear hb1 hr1 hn1 HF hw1
 obtain ⟨k0,k1,k2,k3⟩:=HR1.out
 obtain ⟨m0,m1⟩:=HN1.out
 dsimp only at m0 m1
 go_wp2_with fail
 refine (HK.out _ HB1.out).mono ?_
 rintro _ w2 ⟨rfl,hb2⟩
 have HB2:=Lib.hid (bel_step HB1.out hb2)
 have HR2:=Lib.hid (HR1.out.below hb2)
 have HN2:=Lib.hid (HN1.out.below hb2)
 clear k0 k1 k2 k3 m0 m1 hb2 HB1 HR1 HN1
 by_cases h0:kv=0
 case pos =>
  subst h0
  have hl:=HL.out
  rw [if_pos (by first|rfl|trivial)] at hl
  have hnil:ns=[]:=HV.out.nil_of (by rw [hl];decide)
  subst hnil
  go_wp2_with fail
  go_ret2
  exact ⟨none,0,[],by rw [hl];rfl,HV.out,NR.nil _ _ _,Nat.le_refl _,by unfold maxLen;decide,by decide,HB2.out⟩
 have q0:(kv == 0)=false:=by simpa using h0
 obtain ⟨k0,k1,k2,k3⟩:=HR2.out
 obtain ⟨m0,m1⟩:=HN2.out
 dsimp only at m0 m1
 go_wp2_with fail
 refine (HK.out _ HB2.out).mono ?_
 rintro _ w3 ⟨rfl,hb3⟩
 have HB3:=Lib.hid (bel_step HB2.out hb3)
 have HR3:=Lib.hid (HR2.out.below hb3)
 have HN3:=Lib.hid (HN2.out.below hb3)
 clear k0 k1 k2 k3 m0 m1 hb3 HB2 HR2 HN2
 by_cases h2:kv=2
 case neg =>
  have q2:(kv != 2)=true:=by simpa using h2
  have hl:=HL.out
  rw [if_neg h0,if_neg h2] at hl
  have hnil:ns=[]:=HV.out.nil_of (by rw [hl];decide)
  subst hnil
  clear h0 h2
  go_wp2_with fail
  go_ret2
  exact ⟨none,0,[],by rw [hl];rfl,HV.out,NR.nil _ _ _,Nat.le_refl _,by unfold maxLen;decide,by decide,HB3.out⟩
 subst h2
 have hl0:=HL.out
 rw [if_neg (by decide),if_pos (by first|rfl|trivial)] at hl0
 have HLZ:=Lib.hid hl0
 clear HL h0 q0 hl0 HK
 obtain ⟨k0,k1,k2,k3⟩:=HR3.out
 obtain ⟨m0,m1⟩:=HN3.out
 dsimp only at m0 m1
 go_wp2_with fail
 refine (HA1.out _ HB3.out).mono ?_
 rintro _ w4 ⟨oa,ca,rfl,hsa,hb4⟩
 have HB4:=Lib.hid (bel_step HB3.out hb4)
 have HR4:=Lib.hid (HR3.out.below hb4)
 have HN4:=Lib.hid (HN3.out.below hb4)
 have HSA:=Lib.hid hsa
 clear k0 k1 k2 k3 m0 m1 hb4 hsa HB3 HR3 HN3
 obtain ⟨k0,k1,k2,k3⟩:=HR4.out
 obtain ⟨m0,m1⟩:=HN4.out
 dsimp only at m0 m1
 go_wp2_with fail
 refine (HA2.out _ HB4.out).mono ?_
 rintro _ w5 ⟨ob,cc,rfl,hsb,hb5⟩
 have HB5:=Lib.hid (bel_step HB4.out hb5)
 have HR5:=Lib.hid (HR4.out.below hb5)
 have HN5:=Lib.hid (HN4.out.below hb5)
 obtain ⟨v1,w6,A,cq,w7,hr1,hr2,hb7,her⟩:=all_rows (sl_bel HSA.out hb5) hsb (by have:=all_len HI.out.1 n1;have:=all_len HI.out.2 n2;omega)
 have HR7:=Lib.hid (HR5.out.below hb7)
 have HN7:=Lib.hid (HN5.out.below hb7)
 have HB7:=Lib.hid (bel_step HB5.out hb7)
 have HER:=Lib.hid her
 have HQ1:=Lib.hid hr1
 have HQ2:=Lib.hid hr2
 have HSH:=Lib.hid (show ∀ x∈(U.all n1).1++(L.all n2).1,x.1.size≤60 from fun x hx=>by
  rcases List.mem_append.1 hx with hx|hx
  ·exact all_short HI.out.1 n1 hx
  ·exact all_short HI.out.2 n2 hx)
 have HNL:=Lib.hid (show ((U.all n1).1++(L.all n2).1).length≤8000 by have:=all_len HI.out.1 n1;have:=all_len HI.out.2 n2;rw [List.length_append];omega)
 have HBI:=Lib.hid (fun (j:Nat) (hj:j≤ns.length)=>show bestA U L (n1,n2) ns j (((U.all n1).1++(L.all n2).1).map (·.1))=(ns[j]?).getD ⟨#[]⟩ from best_is HI.out.1 HI.out.2 HV.out j hj)
 have HNE:=Lib.hid (show ∀ x∈ns,x≠⟨#[]⟩∧x∈((U.all n1).1++(L.all n2).1).map (·.1) from fun x hx=>⟨(name_in HI.out.1 HI.out.2 ((HV.out.mem x).1 hx)).2,(name_in HI.out.1 HI.out.2 ((HV.out.mem x).1 hx)).1⟩)
 clear hb5 hsb hb7 her hr1 hr2 HSA HB4 HR4 HN4 HR5 HN5 k0 k1 k2 k3 m0 m1 HA1 HA2
 generalize (U.all n1).1=Lu at *
 generalize (L.all n2).1=Ll at *
 generalize (U.all n1).2=eu at *
 generalize (L.all n2).2=el at *
 obtain ⟨mu,hmu⟩:∃ m,Lu.length=m:=⟨_,rfl⟩
 obtain ⟨ml,hml⟩:∃ m,Ll.length=m:=⟨_,rfl⟩
 rw [hmu] at HQ1 ⊢
 rw [hml] at HQ2 ⊢
 obtain ⟨NN,hNN⟩:∃ N,Lu++Ll=N:=⟨_,rfl⟩
 rw [hNN] at HER HSH HNL HBI HNE HQ2
 obtain ⟨nn,hnn⟩:∃ m,NN.length=m:=⟨_,rfl⟩
 rw [hnn] at HNL HQ2
 have HNN:=Lib.hid hnn
 clear hNN hnn hmu hml
 obtain ⟨p7,hp7⟩:∃ p,w7.heap.size=p:=⟨_,rfl⟩
 obtain ⟨w8,hw8⟩:∃ w8,w7.alloc (.cells #[] 9)=w8:=⟨_,rfl⟩
 have HP7:=Lib.hid hp7
 have HW8:=Lib.hid (show Ow w8 p7 (.slice (some ⟨p7,0,none⟩) 0 0) (ns.take 0) from ⟨rfl,.inr ⟨p7,0,#[],rfl,Nat.le_refl _,by rw [← hw8,← hp7];exact heap_alloc_new w7 _,Nat.le_refl _,by unfold maxLen;omega,rfl,rfl⟩⟩)
 have HB8:=Lib.hid (show Below p7 w7 w8 by rw [← hw8,← hp7];exact bel_alloc w7 _)
 rw [hp7] at HER
 go_upto_region 9 with (first|(at_builtin;refine Lib.wpList_append_run _ rfl (.tmp 41) (.tmp 42) 89 89 rfl _ _ rfl rfl _ _ HQ1.out ?_)|(at_builtin;refine Lib.wpList_append_run _ rfl (.tmp 43) (.tmp 44) 89 89 rfl _ _ rfl rfl _ _ HQ2.out ?_))
 try rw [hp7]
 try rw [hw8]
 clear hw8 hp7
 have HNS:=Lib.hid (show ns.length≤8000 by
  have h1:=nodup_le ns (NN.map (·.1)) (HV.out.rise.imp fun h=>dn.less_ne h) (fun x hx=>(HNE.out x hx).2)
  have h2:=HNL.out
  have h3:=HNN.out
  rw [List.length_map,h3] at h1
  omega)
 have HUP0:=Lib.hid (fun (W:World) (hb:Below p7 w7 W)=>show Below w.heap.size w W∧R4 W g D1 D2 u l∧Nb W (g+1) (n1,n2) from by
  rw [← HP7.out] at hb
  exact ⟨bel_step HB7.out hb,HR7.out.below hb,HN7.out.below hb⟩)
 go_loopg [11] ns.length (fun gh sA wr=>∃ (j:Nat),gh+j=ns.length∧Hid (Ow wr p7 sA (ns.take j))∧Hid (Below p7 w7 wr))
 case atStart=>exact ⟨0,by omega,HW8,HB8⟩
 case round =>
  obtain ⟨j,hgj,HOW,HBJ0⟩:=hrel
  obtain ⟨Aj,cj,hAj,hc1,hc2,hnr⟩:=HOW.out.form
  have hlt:(ns.take j).length=j:=by rw [List.length_take];omega
  rw [hlt] at hAj hc1
  subst hAj
  clear hnr
  go_upto_region 11 with fail
  go_loopg [12,13] nn (fun gh sB sI wi=>∃ (i:Nat),gh+i=nn∧sI=.int .i64 i∧sB=.string (bestA U L (n1,n2) ns j ((NN.map (·.1)).take i))∧Hid (Ow wi p7 (.slice Aj j cj) (ns.take j))∧Hid (Below p7 w7 wi))
  case atStart=>exact ⟨0,by omega,rfl,rfl,HOW,HBJ0⟩
  case round =>
   obtain ⟨i,hgi,rfl,rfl,HOI,HBJ⟩:=hrel
   have HBS:=Lib.hid (show (bestA U L (n1,n2) ns j ((NN.map (·.1)).take i)).size≤60 from best_short _ _ (by decide) (fun y hy=>by
    obtain ⟨e,he,rfl⟩:=List.mem_map.1 (List.mem_of_mem_take hy)
    exact HSH.out e he))
   by_cases hi:i<nn
   ·obtain ⟨x0,hx0⟩:∃ x0,NN[i]?=some x0:=⟨NN[i]'(by rw [HNN.out];exact hi),List.getElem?_eq_getElem _⟩
    obtain ⟨G,hA,hG,c0⟩:=HER.out i x0 hx0
    have HST:=Lib.hid (show bestA U L (n1,n2) ns j ((NN.map (·.1)).take (i+1))=stA U L (n1,n2) ns j (bestA U L (n1,n2) ns j ((NN.map (·.1)).take i)) x0.1 from best_next (by rw [List.getElem?_map,hx0];rfl))
    have hxs:=HSH.out x0 (List.mem_of_getElem? hx0)
    have hbs:=HBS.out
    have hnl:=HNL.out
    have hns:=HNS.out
    subst hA
    replace c0:=(World.cell?_of_block (a:=⟨G,i*2,none⟩) (HBJ.out.block G hG)).trans c0
    obtain ⟨x,hx⟩:∃ x,x0.1=x:=⟨_,rfl⟩
    rw [hx] at HST hxs c0
    obtain ⟨b,hb⟩:∃ b,bestA U L (n1,n2) ns j ((NN.map (·.1)).take i)=b:=⟨_,rfl⟩
    rw [hb] at HST hbs ⊢
    clear hx0 hx hG hb HBS
    have HUP:=Lib.hid (fun (W:World) (hb:Below wr.heap.size wr W)=>show Below w.heap.size w W∧R4 W g D1 D2 u l∧Nb W (g+1) (n1,n2)∧Ow W p7 (.slice Aj j cj) (ns.take j)∧Below p7 w7 W from by
     have h1:Below p7 w7 W:=HBJ.out.trans (hb.mono (HP7.out▸HBJ.out.size))
     obtain ⟨a1,a2,a3⟩:=HUP0.out W h1
     exact ⟨a1,a2,a3,HOI.out.below hb,h1⟩)
    have hbr:Below wr.heap.size wr wr:=Below.refl _ _
    cases j with
    | zero =>
     have HBH:=Lib.hid (bhd_zero ns x)
     by_cases hbe:b=⟨#[]⟩
     ·subst hbe
      obtain ⟨hbw,⟨k0,k1,k2,k3⟩,⟨m0,m1⟩,-,-⟩:=HUP.out _ hbr
      dsimp only at m0 m1
      have hgx:=HG.out _ hbw x
      have HBW:=Lib.hid hbr
      have HYES:=Lib.hid (fun e=>st_yes (U:=U) (L:=L) (n:=(n1,n2)) (b:=⟨#[]⟩) HBH.out (.inl rfl) e)
      clear hbw hbr
      obtain ⟨r,hr⟩:∃ r,getV U L (n1,n2) x=r:=⟨_,rfl⟩
      rw [hr] at hgx HYES
      have HGR:=Lib.hid hr
      clear hr
      obtain ⟨⟨r1,r2⟩,re⟩:=r
      dsimp only at hgx HYES
      go_wp2_with fail
      refine hgx.mono ?_
      rintro _ wg ⟨rfl,hbg⟩
      have HBG:=Lib.hid (bel_step HBW.out hbg)
      clear k0 k1 k2 k3 m0 m1 hbg hgx
      obtain ⟨wh,hwh⟩:∃ wh,wg.alloc (.cells #[.int .i64 r1,.int .i64 r2] 24)=wh:=⟨_,rfl⟩
      have hbh:Below wr.heap.size wr wh:=by rw [← hwh];exact bel_step HBG.out (bel_alloc wg _)
      obtain ⟨-,-,-,how,hbj⟩:=HUP.out _ hbh
      have HOW2:=Lib.hid how
      have HBJ2:=Lib.hid hbj
      clear how hbj hbh
      by_cases hre:re=0
      ·subst hre
       have HSN:=Lib.hid (HST.out.trans (HYES.out rfl))
       go_upto_region 16 with fail
       try rw [hwh]
       clear hwh
       go_wp2_with fail
       go_roundg (gk - 1)
       case measure=>omega
       case rel=>exact ⟨i+1,by omega,by go_num,by rw [HSN.out],HOW2,HBJ2⟩
      ·have HSN:=Lib.hid (HST.out.trans (st_no3 (by rw [HGR.out];exact hre)))
       have hrf:(re == 0)=false:=by simpa using hre
       go_upto_region 16 with fail
       try rw [hwh]
       clear hwh
       go_wp2_with fail
       go_roundg (gk - 1)
       case measure=>omega
       case rel=>exact ⟨i+1,by omega,by go_num,by rw [HSN.out],HOW2,HBJ2⟩
     ·have hbq:(b.toList == (⟨#[]⟩:ByteArray).toList)=false:=beq_eq_false_iff_ne.2 fun e=>hbe (dn.toList_inj e)
      have hbq2:(b.toList == [])=false:=beq_eq_false_iff_ne.2 fun e=>hbe (dn.toList_inj (e.trans (by rw [Lib.toList_data])))
      obtain ⟨c2,hc2x⟩:∃ c,lessB x b=c:=⟨_,rfl⟩
      have hlx:=dn.rless_any x b (wr) (by omega) (by omega)
      rw [hc2x] at hlx
      have HC2:=Lib.hid hc2x
      clear hc2x
      go_wp2_with fail
      refine hlx.mono ?_
      rintro _ wk ⟨rfl,hbk⟩
      have hbk2:=bel_step hbr hbk
      clear hbk hlx 
      cases c2 with
      | false =>
       obtain ⟨-,-,-,how,hbj⟩:=HUP.out _ hbk2
       have HOW2:=Lib.hid how
       have HBJ2:=Lib.hid hbj
       have HSN:=Lib.hid (HST.out.trans (st_no2 hbe HC2.out))
       clear how hbj hbk2
       go_wp2_with fail
       go_roundg (gk - 1)
       case measure=>omega
       case rel=>exact ⟨i+1,by omega,by go_num,by rw [HSN.out],HOW2,HBJ2⟩
      | true =>
       obtain ⟨hbw,⟨k0,k1,k2,k3⟩,⟨m0,m1⟩,-,-⟩:=HUP.out _ hbk2
       dsimp only at m0 m1
       have hgx:=HG.out _ hbw x
       have HBW:=Lib.hid hbk2
       have HYES:=Lib.hid (fun e=>st_yes (U:=U) (L:=L) (n:=(n1,n2)) (b:=b) HBH.out (.inr HC2.out) e)
       clear hbw hbk2
       obtain ⟨r,hr⟩:∃ r,getV U L (n1,n2) x=r:=⟨_,rfl⟩
       rw [hr] at hgx HYES
       have HGR:=Lib.hid hr
       clear hr
       obtain ⟨⟨r1,r2⟩,re⟩:=r
       dsimp only at hgx HYES
       go_wp2_with fail
       refine hgx.mono ?_
       rintro _ wg ⟨rfl,hbg⟩
       have HBG:=Lib.hid (bel_step HBW.out hbg)
       clear k0 k1 k2 k3 m0 m1 hbg hgx
       obtain ⟨wh,hwh⟩:∃ wh,wg.alloc (.cells #[.int .i64 r1,.int .i64 r2] 24)=wh:=⟨_,rfl⟩
       have hbh:Below wr.heap.size wr wh:=by rw [← hwh];exact bel_step HBG.out (bel_alloc wg _)
       obtain ⟨-,-,-,how,hbj⟩:=HUP.out _ hbh
       have HOW2:=Lib.hid how
       have HBJ2:=Lib.hid hbj
       clear how hbj hbh
       by_cases hre:re=0
       ·subst hre
        have HSN:=Lib.hid (HST.out.trans (HYES.out rfl))
        go_upto_region 16 with fail
        try rw [hwh]
        clear hwh
        go_wp2_with fail
        go_roundg (gk - 1)
        case measure=>omega
        case rel=>exact ⟨i+1,by omega,by go_num,by rw [HSN.out],HOW2,HBJ2⟩
       ·have HSN:=Lib.hid (HST.out.trans (st_no3 (by rw [HGR.out];exact hre)))
        have hrf:(re == 0)=false:=by simpa using hre
        go_upto_region 16 with fail
        try rw [hwh]
        clear hwh
        go_wp2_with fail
        go_roundg (gk - 1)
        case measure=>omega
        case rel=>exact ⟨i+1,by omega,by go_num,by rw [HSN.out],HOW2,HBJ2⟩
    | succ j =>
     obtain ⟨o,ho⟩:∃ o,ns[j]?=some o:=⟨ns[j]'(by omega),List.getElem?_eq_getElem _⟩
     obtain ⟨_,_,hAA,-,-,hnr⟩:=HOI.out.form
     injection hAA with hAA e1 e2
     clear e1 e2
     subst hAA
     obtain ⟨G2,hA2,-,-,c1,-⟩:=hnr j o (by rw [List.getElem?_take_of_lt (by omega)];exact ho)
     subst hA2
     have hos:o.size≤60:=by
      obtain ⟨e,he,rfl⟩:=List.mem_map.1 (HNE.out o (List.mem_of_getElem? ho)).2
      exact HSH.out e he
     have HBE:=Lib.hid (bhd_succ ho x)
     obtain ⟨c1x,hc1x⟩:∃ c,lessB o x=c:=⟨_,rfl⟩
     have hlo:=dn.rless_any o x wr (by omega) (by omega)
     rw [hc1x] at hlo HBE
     clear hc1x ho hnr hlt
     go_wp2_with fail
     refine hlo.mono ?_
     rintro _ wl ⟨rfl,hbl⟩
     clear hlo c0 c1
     cases c1x with
     | false =>
      obtain ⟨-,-,-,how,hbj⟩:=HUP.out _ hbl
      have HOW2:=Lib.hid how
      have HBJ2:=Lib.hid hbj
      have HSN:=Lib.hid (HST.out.trans (st_no1 HBE.out))
      clear how hbj hbl
      go_wp2_with fail
      go_roundg (gk - 1)
      case measure=>omega
      case rel=>exact ⟨i+1,by omega,by go_num,by rw [HSN.out],HOW2,HBJ2⟩
     | true =>
      have HBH:=HBE
      by_cases hbe:b=⟨#[]⟩
      ·subst hbe
       obtain ⟨hbw,⟨k0,k1,k2,k3⟩,⟨m0,m1⟩,-,-⟩:=HUP.out _ hbl
       dsimp only at m0 m1
       have hgx:=HG.out _ hbw x
       have HBW:=Lib.hid hbl
       have HYES:=Lib.hid (fun e=>st_yes (U:=U) (L:=L) (n:=(n1,n2)) (b:=⟨#[]⟩) HBH.out (.inl rfl) e)
       clear hbw hbl
       obtain ⟨r,hr⟩:∃ r,getV U L (n1,n2) x=r:=⟨_,rfl⟩
       rw [hr] at hgx HYES
       have HGR:=Lib.hid hr
       clear hr
       obtain ⟨⟨r1,r2⟩,re⟩:=r
       dsimp only at hgx HYES
       go_wp2_with fail
       refine hgx.mono ?_
       rintro _ wg ⟨rfl,hbg⟩
       have HBG:=Lib.hid (bel_step HBW.out hbg)
       clear k0 k1 k2 k3 m0 m1 hbg hgx
       obtain ⟨wh,hwh⟩:∃ wh,wg.alloc (.cells #[.int .i64 r1,.int .i64 r2] 24)=wh:=⟨_,rfl⟩
       have hbh:Below wr.heap.size wr wh:=by rw [← hwh];exact bel_step HBG.out (bel_alloc wg _)
       obtain ⟨-,-,-,how,hbj⟩:=HUP.out _ hbh
       have HOW2:=Lib.hid how
       have HBJ2:=Lib.hid hbj
       clear how hbj hbh
       by_cases hre:re=0
       ·subst hre
        have HSN:=Lib.hid (HST.out.trans (HYES.out rfl))
        go_upto_region 16 with fail
        try rw [hwh]
        clear hwh
        go_wp2_with fail
        go_roundg (gk - 1)
        case measure=>omega
        case rel=>exact ⟨i+1,by omega,by go_num,by rw [HSN.out],HOW2,HBJ2⟩
       ·have HSN:=Lib.hid (HST.out.trans (st_no3 (by rw [HGR.out];exact hre)))
        have hrf:(re == 0)=false:=by simpa using hre
        go_upto_region 16 with fail
        try rw [hwh]
        clear hwh
        go_wp2_with fail
        go_roundg (gk - 1)
        case measure=>omega
        case rel=>exact ⟨i+1,by omega,by go_num,by rw [HSN.out],HOW2,HBJ2⟩
      ·have hbq:(b.toList == (⟨#[]⟩:ByteArray).toList)=false:=beq_eq_false_iff_ne.2 fun e=>hbe (dn.toList_inj e)
       have hbq2:(b.toList == [])=false:=beq_eq_false_iff_ne.2 fun e=>hbe (dn.toList_inj (e.trans (by rw [Lib.toList_data])))
       obtain ⟨c2,hc2x⟩:∃ c,lessB x b=c:=⟨_,rfl⟩
       have hlx:=dn.rless_any x b (wl) (by omega) (by omega)
       rw [hc2x] at hlx
       have HC2:=Lib.hid hc2x
       clear hc2x
       go_wp2_with fail
       refine hlx.mono ?_
       rintro _ wk ⟨rfl,hbk⟩
       have hbk2:=bel_step hbl hbk
       clear hbk hlx hbl
       cases c2 with
       | false =>
        obtain ⟨-,-,-,how,hbj⟩:=HUP.out _ hbk2
        have HOW2:=Lib.hid how
        have HBJ2:=Lib.hid hbj
        have HSN:=Lib.hid (HST.out.trans (st_no2 hbe HC2.out))
        clear how hbj hbk2
        go_wp2_with fail
        go_roundg (gk - 1)
        case measure=>omega
        case rel=>exact ⟨i+1,by omega,by go_num,by rw [HSN.out],HOW2,HBJ2⟩
       | true =>
        obtain ⟨hbw,⟨k0,k1,k2,k3⟩,⟨m0,m1⟩,-,-⟩:=HUP.out _ hbk2
        dsimp only at m0 m1
        have hgx:=HG.out _ hbw x
        have HBW:=Lib.hid hbk2
        have HYES:=Lib.hid (fun e=>st_yes (U:=U) (L:=L) (n:=(n1,n2)) (b:=b) HBH.out (.inr HC2.out) e)
        clear hbw hbk2
        obtain ⟨r,hr⟩:∃ r,getV U L (n1,n2) x=r:=⟨_,rfl⟩
        rw [hr] at hgx HYES
        have HGR:=Lib.hid hr
        clear hr
        obtain ⟨⟨r1,r2⟩,re⟩:=r
        dsimp only at hgx HYES
        go_wp2_with fail
        refine hgx.mono ?_
        rintro _ wg ⟨rfl,hbg⟩
        have HBG:=Lib.hid (bel_step HBW.out hbg)
        clear k0 k1 k2 k3 m0 m1 hbg hgx
        obtain ⟨wh,hwh⟩:∃ wh,wg.alloc (.cells #[.int .i64 r1,.int .i64 r2] 24)=wh:=⟨_,rfl⟩
        have hbh:Below wr.heap.size wr wh:=by rw [← hwh];exact bel_step HBG.out (bel_alloc wg _)
        obtain ⟨-,-,-,how,hbj⟩:=HUP.out _ hbh
        have HOW2:=Lib.hid how
        have HBJ2:=Lib.hid hbj
        clear how hbj hbh
        by_cases hre:re=0
        ·subst hre
         have HSN:=Lib.hid (HST.out.trans (HYES.out rfl))
         go_upto_region 16 with fail
         try rw [hwh]
         clear hwh
         go_wp2_with fail
         go_roundg (gk - 1)
         case measure=>omega
         case rel=>exact ⟨i+1,by omega,by go_num,by rw [HSN.out],HOW2,HBJ2⟩
        ·have HSN:=Lib.hid (HST.out.trans (st_no3 (by rw [HGR.out];exact hre)))
         have hrf:(re == 0)=false:=by simpa using hre
         go_upto_region 16 with fail
         try rw [hwh]
         clear hwh
         go_wp2_with fail
         go_roundg (gk - 1)
         case measure=>omega
         case rel=>exact ⟨i+1,by omega,by go_num,by rw [HSN.out],HOW2,HBJ2⟩
   ·have hii:i=nn:=by omega
    subst hii
    have hbest:bestA U L (n1,n2) ns j ((NN.map (·.1)).take i)=(ns[j]?).getD ⟨#[]⟩:=by
     rw [List.take_of_length_le (by rw [List.length_map,HNN.out];exact Nat.le_refl _)]
     exact HBI.out j (by omega)
    rw [hbest]
    have hnl:=HNL.out
    have hns:=HNS.out
    clear hbest HBS
    cases hj:ns[j]? with
    | none =>
     rw [List.getElem?_eq_none_iff] at hj
     have hjl:j=ns.length:=by omega
     obtain ⟨_,_,hAA,-,-,hnr⟩:=HOI.out.form
     injection hAA with hAA e1 e2
     clear e1 e2
     subst hAA
     have HFI:=Lib.hid (show AllE w U L (n1,n2) (.returned (.tuple #[.slice Aj j cj,.int .i64 0])) wr from by
      subst hjl
      rw [List.take_length] at hnr
      refine ⟨Aj,cj,ns,by rw [HLZ.out],HV.out,fun k x hx=>?_,hc1,hc2,hns,(HUP0.out _ HBJ.out).1⟩
      obtain ⟨G,a,b,c,d⟩:=hnr k x hx
      exact ⟨G,a,Nat.le_trans (by rw [← HP7.out];exact HB7.out.size) b,c,d⟩)
     unfold AllE at HFI
     rw [Option.getD_none]
     have hbq:((⟨#[]⟩:ByteArray).toList == (⟨#[]⟩:ByteArray).toList)=true:=by simp
     clear hnr hj hlt hjl
     go_wp2_with fail
     go_ret2
     exact HFI.out
    | some s =>
     have hsn:=HNE.out s (List.mem_of_getElem? hj)
     rw [Option.getD_some]
     have hbq:(s.toList == (⟨#[]⟩:ByteArray).toList)=false:=beq_eq_false_iff_ne.2 fun e=>hsn.1 (dn.toList_inj e)
     have hbq2:(s.toList == [])=false:=beq_eq_false_iff_ne.2 fun e=>hsn.1 (dn.toList_inj (e.trans (by rw [Lib.toList_data])))
     obtain ⟨i0,hi,hz0,hz1,hz2⟩:=info_parts9
     have HOX:=Lib.hid (fun ob=>HOI.out.below (bel_alloc wr ob))
     have HSZ:=Lib.hid (fun ob=>show p7≤(wr.alloc ob).heap.size from by rw [World.size_alloc,← HP7.out];have:=HBJ.out.size;omega)
     have HBX:=Lib.hid (fun ob (W:World) (v:Value) (hg:(wr.alloc ob).grownBy W v.ownBlock) (hv:∀ k,v.ownBlock=some k→p7≤k)=>show Below p7 w7 W from
      Below.grown (HBJ.out.trans ((bel_alloc wr ob).mono (HP7.out▸HBJ.out.size))) hg (HSZ.out ob) hv)
     have HTK:=Lib.hid (show ns.take j++[s]=ns.take (j+1) by rw [List.take_add_one,hj];rfl)
     have HJL:=Lib.hid (show j<ns.length from (List.getElem?_eq_some_iff.1 hj).1)
     clear hj hsn
     go_wp2_with (first|(at_builtin;go_must (refine wpList_append_own _ rfl (.tmp 93) (.tmp 95) 43 rfl p7 9 i0 _ 1 16 Tryz.underlying43 hi hz0 hz1 hz2 rfl (by decide) (.slice Aj j cj) (ns.take j).length ((ns.take j).map Value.string) rfl (HOX.out _) ⟨wr.heap.size,0,none⟩ 1 1 [.string s] rfl rfl (cell_one_new _ _ _) (by intro u hu;simp at hu;subst hu;rfl) (by rw [hlt];unfold maxLen;omega) (by rw [hlt];omega) (HSZ.out _) ?_;intro v' w9 hown9 hg9 _;have HO9:=Lib.hid (show Ow w9 p7 v' (ns.take (j+1)) by rw [← HTK.out];exact Ow.of hown9);have HB9:=Lib.hid (HBX.out _ w9 _ hg9 (HOX.out (.cells #[] 0)).row);clear hown9 hg9)))
     go_roundg (ns.length - (j+1))
     case measure=>have:=HJL.out;omega
     case rel=>exact ⟨j+1,by have:=HJL.out;omega,HO9,HB9⟩
end Go.Proofs.YtgoddboicjfkcaaGreat.mg
namespace Go.Proofs.YtgoddboicjfkcaaGreat.mg
open Go.RowKit Go.Deep
open br (BS Ino Inv fresh)
open cb (BrX RetW RetI No)
open bl (Pq)
theorem Vd.targ1 {w:World} {D1 D2:Nat} {U L:BS} (h:Vd w D1 D2 U L) (i:Int):Calls Tryz.prog 85 #[Pq D1,.int .i64 i] w (fun e w'=>e=.returned (.tuple #[.string (U.targetOf i).1,.int .i64 (U.targetOf i).2])∧Below w.heap.size w w'):=by obtain ⟨_,_,_,_,_,k,g⟩:=h.d1;exact quiet_below (cb.q_target k i)
theorem Vd.targ2 {w:World} {D1 D2:Nat} {U L:BS} (h:Vd w D1 D2 U L) (i:Int):Calls Tryz.prog 85 #[Pq D2,.int .i64 i] w (fun e w'=>e=.returned (.tuple #[.string (L.targetOf i).1,.int .i64 (L.targetOf i).2])∧Below w.heap.size w w'):=by obtain ⟨_,_,_,_,_,k,g⟩:=h.d2;exact quiet_below (cb.q_target k i)
theorem rtarget_any {w:World} {D1 D2:Nat} {u l:Int} {U L:BS} (h:Vd w D1 D2 U L) (n:Nd):Calls Tryz.prog 27 #[Rv D1 D2 u l,Nv n] w (fun e w'=>e=.returned (.tuple #[.string (targN U L n).1,.int .i64 (targN U L n).2])∧Below w.heap.size w w'):=by
 obtain ⟨n1,n2⟩:=n
 have HF:=Lib.hid (show ∀ w1,(w.alloc (.cells #[Pq D1,Pq D2,.int .i64 u,.int .i64 l] 36)).alloc (.cells #[.int .i64 n1,.int .i64 n2] 24)=w1→Below w.heap.size w w1∧R4 w1 w.heap.size D1 D2 u l∧Nb w1 (w.heap.size+1) (n1,n2) from fun w1 hw1=>by
  rw [← hw1]
  refine ⟨bel_step (bel_alloc _ _) (bel_alloc _ _),(R4.new w D1 D2 u l).below (bel_alloc _ _),?_⟩
  have:=Nb.new (w.alloc (.cells #[Pq D1,Pq D2,.int .i64 u,.int .i64 l] 36)) n1 n2
  rwa [World.size_alloc] at this)
 have HK:=Lib.hid (fun W (hb:Below w.heap.size w W)=>rkind_any (u:=u) (l:=l) (h.below hb) (n1,n2))
 have HT1:=Lib.hid (fun W (hb:Below w.heap.size w W)=>(h.below hb).targ1 n1)
 have HT2:=Lib.hid (fun W (hb:Below w.heap.size w W)=>(h.below hb).targ2 n2)
 have HV:=Lib.hid (show targN U L (n1,n2)=if kindV U L (n1,n2)=0 then (⟨#[]⟩,2) else if n1≠0 then U.targetOf n1 else L.targetOf n2 from rfl)
 obtain ⟨kv,hkv⟩:∃ k,kindV U L (n1,n2)=k:=⟨_,rfl⟩
 rw [hkv] at HK HV
 generalize targN U L (n1,n2)=tv at *
 generalize U.targetOf n1=tu at *
 generalize L.targetOf n2=tl at *
 obtain ⟨tu1,tu2⟩:=tu
 obtain ⟨tl1,tl2⟩:=tl
 dsimp only at HT1 HT2
 unfold RetI at HK
 obtain ⟨g,hg⟩:∃ g,w.heap.size=g:=⟨_,rfl⟩
 have HGB:=Lib.hid hg
 rw [hg] at HF
 clear h hkv
 go_enter Tryz.func27,Tryz.ntmps27
 go_upto_region 1 with fail
 generalize hw1:(w.alloc (.cells #[Pq D1,Pq D2,.int .i64 u,.int .i64 l] 36)).alloc (.cells #[.int .i64 n1,.int .i64 n2] 24)=w1
 obtain ⟨hb1,hr1,hn1⟩:=HF.out w1 hw1
 have HB1:=Lib.hid (show Below w.heap.size w w1 by rw [HGB.out];exact hb1)
 have HR1:=Lib.hid hr1
 have HN1:=Lib.hid hn1
 clear hb1 hr1 hn1 HF hw1
 obtain ⟨k0,k1,k2,k3⟩:=HR1.out
 obtain ⟨m0,m1⟩:=HN1.out
 dsimp only at m0 m1
 go_wp2_with fail
 refine (HK.out _ HB1.out).mono ?_
 rintro _ w2 ⟨rfl,hb2⟩
 have HB2:=Lib.hid (bel_step HB1.out hb2)
 have HR2:=Lib.hid (HR1.out.below hb2)
 have HN2:=Lib.hid (HN1.out.below hb2)
 clear k0 k1 k2 k3 m0 m1 hb2 HB1 HR1 HN1
 by_cases h0:kv=0
 case pos =>
  subst h0
  have hv:=HV.out
  rw [if_pos (by first|rfl|trivial)] at hv
  subst hv
  clear HV HT1 HT2
  go_wp2_with fail
  go_ret2
  exact ⟨rfl,HGB.out▸HB2.out⟩
 have q0:(kv == 0)=false:=by simpa using h0
 have hv:=HV.out
 rw [if_neg h0] at hv
 obtain ⟨k0,k1,k2,k3⟩:=HR2.out
 obtain ⟨m0,m1⟩:=HN2.out
 dsimp only at m0 m1
 by_cases hn:n1=0
 ·have qn:(n1 != 0)=false:=by simpa using hn
  rw [if_neg (by simpa using hn)] at hv
  subst hv
  have ht:=HT2.out _ HB2.out
  clear HV HT1 HT2 h0 hn
  go_wp2_with fail
  refine ht.mono ?_
  rintro _ w3 ⟨rfl,hb3⟩
  have HB3:=Lib.hid (bel_step HB2.out hb3)
  clear hb3 ht k0 k1 k2 k3 m0 m1
  go_wp2_with fail
  go_ret2
  exact ⟨rfl,HGB.out▸HB3.out⟩
 ·have qn:(n1 != 0)=true:=by simpa using hn
  rw [if_pos hn] at hv
  subst hv
  have ht:=HT1.out _ HB2.out
  clear HV HT1 HT2 h0 hn
  go_wp2_with fail
  refine ht.mono ?_
  rintro _ w3 ⟨rfl,hb3⟩
  have HB3:=Lib.hid (bel_step HB2.out hb3)
  clear hb3 ht k0 k1 k2 k3 m0 m1
  go_wp2_with fail
  go_ret2
  exact ⟨rfl,HGB.out▸HB3.out⟩
end Go.Proofs.YtgoddboicjfkcaaGreat.mg
