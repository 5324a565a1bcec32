/- Contracts and mathematics, part 6. -/
import Derived.Test.YtgoddboicjfkcaaGreatZ05
set_option linter.unusedVariables false
set_option linter.unusedSimpArgs false
set_option maxRecDepth 100000
set_option maxHeartbeats 8000000
namespace Go.Proofs.YtgoddboicjfkcaaGreat
namespace bl.rx
open Go.RowKit bl
abbrev Px (D x0:Nat):Value:=.pointer (some ⟨D,x0,none⟩)
def Kp (C x0:Nat) (w w':World):Prop:=∀i,i≠x0→i≠x0+1→w'.cell? ⟨C,i,none⟩=w.cell? ⟨C,i,none⟩∧w'.frozen? ⟨C,i,none⟩=w.frozen? ⟨C,i,none⟩
theorem Kp.refl (C x0:Nat) (w:World):Kp C x0 w w:=fun _ _ _=>⟨rfl,rfl⟩
theorem Kp.trans {C x0:Nat} {a b c:World} (h:Kp C x0 a b) (k:Kp C x0 b c):Kp C x0 a c:=fun i h0 h1=>⟨(k i h0 h1).1.trans (h i h0 h1).1,(k i h0 h1).2.trans (h i h0 h1).2⟩
theorem Kp.of_only {C x0:Nat} {w w':World} {F:Nat→Prop} (h:Only F w w') (hC:C<w.heap.size) (hF:¬F C):Kp C x0 w w':=fun i _ _ =>
 ⟨World.cell?_of_block (a:=⟨C,i,none⟩) (h.block C hC hF),World.frozen?_of_block (a:=⟨C,i,none⟩) (h.block C hC hF)⟩
theorem Kp.set0 (w:World) (C x0:Nat) (v:Value):Kp C x0 w (w.setCell ⟨C,x0,none⟩ v):=fun i h0 _ =>
 ⟨World.cell?_setCell_other _ _ _ _ (by intro e;injection e with _ e;omega),World.frozen?_setCell _ _ _ _⟩
theorem Kp.set1 (w:World) (C x0:Nat) (v:Value):Kp C x0 w (w.setCell ⟨C,x0+1,none⟩ v):=fun i _ h1 =>
 ⟨World.cell?_setCell_other _ _ _ _ (by intro e;injection e with _ e;omega),World.frozen?_setCell _ _ _ _⟩
theorem Kp.drew (C x0:Nat) (w:World):Kp C x0 w w.drew:=fun _ _ _=>⟨rfl,rfl⟩
structure RB (w:World) (lo C x0:Nat) (vB vT:Value) (b:AB) (T:Nat):Prop where
 c0:w.cell? ⟨C,x0,none⟩=some vB
 c1:w.cell? ⟨C,x0+1,none⟩=some vT
 f0:w.frozen? ⟨C,x0,none⟩=false
 f1:w.frozen? ⟨C,x0+1,none⟩=false
 rB:w.ownsRow lo 5 1 vB b.size (rowF b.size b.dat)
 rT:w.ownsRow lo 4 1 vT T (tL T b.th)
 tT:∀k,b.th k=true→k<T
 le:T≤4096
 nB:vB.ownBlock≠some C
 nT:vT.ownBlock≠some C
 sep:∀g,vB.ownBlock=some g→vT.ownBlock≠some g
theorem there_any {w:World} {lo C x0 T:Nat} {vB vT:Value} {b:AB} (h:RB w lo C x0 vB vT b T) (k:Nat):Calls Tryz.prog 168 #[Px C x0,.int .i64 (k:Int)] w (fun e w'=>e=.returned (.bool (b.th k))∧w=w'):=by
 have c1:=h.c1
 have hT:=h.le
 by_cases hk:k<T
 ·obtain ⟨g,c,rfl,_,hgl,hc⟩:=own_val h.rT (tL_get b.th hk) hk
  have ma:(k:Int)<(T:Int):=by omega
  generalize b.th k=r at *
  have H:=Qa h
  clear h hT
  go_enter Tryz.func168,Tryz.ntmps168
  go_wp2
  go_ret
  exact ⟨rfl,rfl⟩
 ·have hf:b.th k=false:=by
   cases e:b.th k
   ·rfl
   ·exact absurd (h.tT k e) hk
  rw [hf]
  obtain ⟨A,c,rfl⟩:=own_slice h.rT
  have ma:¬((k:Int)<(T:Int)):=by omega
  have H:=Qa h
  clear h hT hf
  go_enter Tryz.func168,Tryz.ntmps168
  go_wp2
  go_ret
  exact ⟨rfl,rfl⟩
theorem RB.below {w w':World} {lo C x0 T:Nat} {vB vT:Value} {b:AB} (h:RB w lo C x0 vB vT b T) (hb:Below w.heap.size w w'):RB w' lo C x0 vB vT b T:=by
 have hC:C<w.heap.size:=World.block_lt_of_cell? w _ h.c0
 have hg:w.grownBy w' none:=⟨hb.os,hb.tape,hb.output,hb.size,fun k hk _=>hb.block k hk⟩
 exact ⟨(hb.cell (p:=⟨C,x0,none⟩) hC).trans h.c0,(hb.cell (p:=⟨C,x0+1,none⟩) hC).trans h.c1,(hb.frozen (p:=⟨C,x0,none⟩) hC).trans h.f0,(hb.frozen (p:=⟨C,x0+1,none⟩) hC).trans h.f1,
  h.rB.kept hg (Classical.em _),h.rT.kept hg (Classical.em _),h.tT,h.le,h.nB,h.nT,h.sep⟩
theorem rread_any {w:World} {lo RS C x0 T:Nat} {vB vT:Value} {b:AB} (h:RB w lo C x0 vB vT b T) (hsz:b.size≤65536) (off n:Int):Calls Tryz.prog 153 #[Pq RS,Px C x0,.int .i64 off,.int .i64 n] w (RReadE w b off n):=by
 by_cases h0:off<0∨n<0
 ·have HP:=Qa (show RReadE w b off n (.returned (.tuple #[.slice none 0 0,.int .i64 22])) w from by
   have:readR b off n=(22,0):=by unfold readR;rw [Jb h0]
   refine ⟨.slice none 0 0,?_,?_,Below.refl _ _⟩
   ·rw [this]
   ·rw [this];exact World.ownsRow_nil _ _ _ _)
  have H:=Qa h
  clear h hsz
  by_cases h1:off<0
  ·go_enter Tryz.func153,Tryz.ntmps153
   go_wp2
   go_ret2
   exact HP.out
  ·have h2:n<0:=by omega
   clear h0
   go_enter Tryz.func153,Tryz.ntmps153
   go_wp2
   go_ret2
   exact HP.out
 have da:¬off<0:=by omega
 have ga:¬n<0:=by omega
 clear h0
 obtain ⟨s,hs⟩:∃s:Nat,off=(s:Int):=⟨off.toNat,by omega⟩
 obtain ⟨m,hm⟩:∃m,m=min n.toNat (b.size - s):=⟨_,rfl⟩
 have hR:readR b off n=(0,m):=by unfold readR;rw [Ja (by omega),hm,hs,Int.toNat_natCast]
 have sa:(m:Int)≤65536:=by omega
 have HR:=Qa hR
 have HM:=Qa hm
 have HS:=Qa hs
 obtain ⟨i0,hi,qa,hz1,hz2⟩:=info_parts (P:=Tryz.prog) (e:=5) (z:=.int .u8 0) (size:=1) (bytes:=1) (by kernel_rfl)
 have HI:=Qa hi
 have HZ:=Qa (show i0.zero=some (.int .u8 0)∧i0.size=1∧i0.bytes=1 from ⟨qa,hz1,hz2⟩)
 have xa:(b.size:Int)≤65536:=by omega
 have HB:=Qa h
 have HL:=Qa (lit_empty w w.heap.size 5 (Nat.le_refl _))
 have Qd:=Qa (below_one w (.cells #[] 5))
 clear hi qa hz1 hz2 hsz h hR hm hs
 go_enter Tryz.func153,Tryz.ntmps153
 go_wp2_with fail
 go_loopg [10,11] m (fun g s10 s11 wr=>∃k:Nat,g+k=m∧s11=.int .i64 (off+(k:Int))∧Hid (wr.ownsRow w.heap.size 5 1 s10 k (rowF k (fun j=>b.dat (off.toNat+j))))∧Hid (Below w.heap.size w wr))
 case atStart=>exact ⟨0,by omega,by simp,HL,Qd⟩
 case round =>
  clear HL Qd
  obtain ⟨k,hg,rfl,HO,Qb⟩:=hrel
  have Qc:=Qa (HB.out.below Qb.out)
  have c0:=Qc.out.c0
  have HW:=Qa Qb.out.size
  by_cases hlt:k<m
  ·have la:(k:Int)<n:=by have:=HM.out;omega
   have ba:off+(k:Int)<(b.size:Int):=by have:=HM.out;have:=HS.out;omega
   obtain ⟨g',c',hvb,_,hgl,hc⟩:=own_val Qc.out.rB (rowF_get b.dat (L:=b.size) (j:=s+k) (by have:=HM.out;omega)) (by have:=HM.out;omega)
   rw [hvb] at c0
   have hq:(off+(k:Int)).toNat=s+k:=by have:=HS.out;omega
   have HQ:=Qa (show b.dat (off.toNat+k)=b.dat (s+k) by rw [HS.out,Int.toNat_natCast])
   have Qe:=Qa hvb
   obtain ⟨A,cc,rfl⟩:=own_slice HO.out
   have ma:(k:Int)≤65536:=by omega
   generalize b.dat (s+k)=x at *
   unfold U8 at hc
   clear hvb
   go_wp2_with (at_builtin;refine wpList_append_own _ rfl (.tmp 35) (.tmp 43) 53 rfl w.heap.size 5 i0 _ 1 1 Tryz.underlying53 HI.out HZ.out.1 HZ.out.2.1 HZ.out.2.2 rfl (by decide) (.slice A k cc) k (rowF k (fun j=>b.dat (off.toNat+j))) rfl (HO.out.alloc _) ⟨wr.heap.size,0,none⟩ 1 1 [U8 x] rfl rfl (cell_new1 _ _ _) (by intro u hu;simp at hu;subst hu;rfl) (by unfold maxLen;omega) (by omega) (by have:=HW.out;simp;omega) ?_;intro v1 w3 hown1 hgrow1 _)
   go_roundg (gk - 1)
   case measure=>omega
   case rel =>
    have ya:Below w.heap.size w w3:=(Qb.out.alloc HW.out _).grown hgrow1 (by have:=HW.out;simp;omega) (fun g h=>(HO.out.lt g h).1)
    refine ⟨k+1,by omega,by simp;omega,?_,Qa ya⟩
    rw [rowF_snoc,HQ.out]
    exact Qa hown1
  ·have ja:k=m:=by omega
   obtain ⟨A,cc,rfl⟩:=own_slice HO.out
   obtain ⟨Ab,cb,hvb⟩:=own_slice Qc.out.rB
   rw [hvb] at c0
   have Qe:=Qa hvb
   have hF:RReadE w b off n (.returned (.tuple #[.slice A k cc,.int .i64 0])) wr:=by
    refine ⟨.slice A k cc,?_,?_,Qb.out⟩
    ·rw [HR.out]
    ·rw [HR.out,←ja];exact HO.out
   have HF:=Qa hF
   have ma:(k:Int)≤65536:=by omega
   have key:¬(off+(k:Int)<(b.size:Int))∨(off+(k:Int)<(b.size:Int)∧¬((k:Int)<n)):=by have:=HM.out;have:=HS.out;omega
   clear ja hF hvb hlt
   rcases key with hq|⟨hq,hq2⟩
   ·go_wp2_with fail
    go_ret2
    exact HF.out
   ·go_wp2_with fail
    go_ret2
    exact HF.out
structure RStep (w w':World) (lo C x0:Nat) (G:Nat→Prop) (vB vT:Value) (b:AB) (T:Nat):Prop where
 r:RB w' lo C x0 vB vT b T
 o:Only G w w'
 f:∀x,RF C vB vT x→G x∨w.heap.size≤x
 kp:Kp C x0 w w'
theorem RStep.refl {w:World} {lo C x0 T:Nat} {vB vT:Value} {b:AB} (h:RB w lo C x0 vB vT b T):RStep w w lo C x0 (RF C vB vT) vB vT b T:=⟨h,Only.refl _ _,fun x hx=>Or.inl hx,Kp.refl C x0 w⟩
theorem RStep.trans {w w1 w2:World} {lo C x0 T T':Nat} {G:Nat→Prop} {vB vT vB' vT':Value} {b b':AB} (h:RStep w w1 lo C x0 G vB vT b T) (k:RStep w1 w2 lo C x0 (RF C vB vT) vB' vT' b' T'):RStep w w2 lo C x0 G vB' vT' b' T':=by
 refine ⟨k.r,?_,fun x hx=>?_,h.kp.trans k.kp⟩
 ·refine ⟨k.o.os.trans h.o.os,k.o.tape.trans h.o.tape,k.o.output.trans h.o.output,Nat.le_trans h.o.size k.o.size,fun x hx hg=>?_⟩
  exact (k.o.block x (Nat.lt_of_lt_of_le hx h.o.size) (fun hf=>by rcases h.f x hf with h1|h1;exact hg h1;omega)).trans (h.o.block x hx hg)
 ·rcases k.f x hx with h1|h1
  ·exact h.f x h1
  ·exact Or.inr (Nat.le_trans h.o.size h1)
theorem RB.only {w w':World} {lo C x0 T:Nat} {vB vT:Value} {b:AB} {F:Nat→Prop} (h:RB w lo C x0 vB vT b T) (ho:Only F w w') (hF:∀x,RF C vB vT x→¬F x):RB w' lo C x0 vB vT b T:=by
 have hC:C<w.heap.size:=World.block_lt_of_cell? w _ h.c0
 have hb:=ho.block C hC (hF C (Or.inl rfl))
 have ma:∀ {e n:Nat} {v:Value} {L:List Value},w.ownsRow lo e 1 v n L→(∀g,v.ownBlock=some g→¬F g)→w'.ownsRow lo e 1 v n L:=by
  intro e n v L h hv
  refine ⟨h.1,?_⟩
  rcases h.2 with h1|⟨g,cap,cur,h1,h2,h3,h4⟩
  ·exact Or.inl h1
  ·refine Or.inr ⟨g,cap,cur,h1,h2,?_,h4⟩
   rw [ho.block g (Array.getElem?_eq_some_iff.1 h3).1 (hv g (by rw [h1];rfl))]
   exact h3
 exact ⟨(World.cell?_of_block (a:=⟨C,x0,none⟩) hb).trans h.c0,(World.cell?_of_block (a:=⟨C,x0+1,none⟩) hb).trans h.c1,(World.frozen?_of_block (a:=⟨C,x0,none⟩) hb).trans h.f0,(World.frozen?_of_block (a:=⟨C,x0+1,none⟩) hb).trans h.f1,
  ma h.rB (fun g hg=>hF g (Or.inr (Or.inl hg))),ma h.rT (fun g hg=>hF g (Or.inr (Or.inr hg))),h.tT,h.le,h.nB,h.nT,h.sep⟩
theorem RB.growT {w w3:World} {lo C x0 T g cap:Nat} {vB vT:Value} {b:AB} {o:Obj} (h:RB w lo C x0 vB vT b T) (hT:T<4096) (hlo:lo≤w.heap.size)
  (hown:w3.ownsRow lo 4 1 (.slice (some ⟨g,0,none⟩) (T+1) cap) (T+1) (tL T b.th++[.bool false])) (hgr:(w.alloc o).grownBy w3 vT.ownBlock) (hg:vT.ownBlock=some g∨g=w.heap.size+1) :
  RStep w (w3.setCell ⟨C,x0+1,none⟩ (.slice (some ⟨g,0,none⟩) (T+1) cap)) lo C x0 (RF C vB vT) vB (.slice (some ⟨g,0,none⟩) (T+1) cap) b (T+1):=by
 have hC:C<w.heap.size:=World.block_lt_of_cell? w _ h.c0
 have hB:=h.rB.lt
 have da:=h.rT.lt
 have xa:b.th T=false:=by
  cases e:b.th T
  ·rfl
  ·have:=h.tT T e;omega
 have ya:g≠C:=by
  rcases hg with e|e
  ·intro h1;exact h.nT (h1▸e)
  ·omega
 have ma:Only (fun x=>vT.ownBlock=some x) w w3:=(Only.of_below (below_one w o)).trans (grown_only hgr)
 have h3:w3.heap[C]?=w.heap[C]?:=ma.block C hC h.nT
 have qa:=set_only' w3 C (x0+1) (.slice (some ⟨g,0,none⟩) (T+1) cap)
 have e1:=(World.cell?_of_block (a:=⟨C,x0+1,none⟩) h3).trans h.c1
 refine ⟨⟨?_,World.cell?_setCell_same _ _ _ e1,(World.frozen?_setCell _ _ _ _).trans ((World.frozen?_of_block (a:=⟨C,x0,none⟩) h3).trans h.f0),(World.frozen?_setCell _ _ _ _).trans ((World.frozen?_of_block (a:=⟨C,x0+1,none⟩) h3).trans h.f1),?_,?_,fun k hk=>by have:=h.tT k hk;omega,by omega,h.nB,?_,?_⟩,?_,?_,(Kp.of_only ma hC h.nT).trans (Kp.set1 w3 C x0 _)⟩
 ·exact (World.cell?_setCell_other _ _ _ _ (by intro e;injection e with _ e;simp at e)).trans ((World.cell?_of_block (a:=⟨C,x0,none⟩) h3).trans h.c0)
 ·exact own_only (own_only h.rB ma (fun x hx e=>h.sep x hx e)) qa (fun x hx e=>by subst e;exact h.nB hx)
 ·rw [tL_snoc xa]
  exact own_only hown qa (fun x hx e=>by
   have:g=x:=by simpa [Value.ownBlock] using hx
   omega)
 ·intro e
  have:g=C:=by simpa [Value.ownBlock] using e
  exact ya this
 ·intro x hx e
  have ja:g=x:=by simpa [Value.ownBlock] using e
  rcases hg with e1|e1
  ·exact h.sep x hx (ja▸e1)
  ·have:=(hB x hx).2;omega
 ·exact (ma.mono (G:=RF C vB vT) fun x hx=>Or.inr (Or.inr hx)).trans (qa.mono fun x hx=>Or.inl hx)
 ·rintro x (hx|hx|hx)
  ·exact Or.inl (Or.inl hx)
  ·exact Or.inl (Or.inr (Or.inl hx))
  ·have ja:g=x:=by simpa [Value.ownBlock] using hx
   rcases hg with e1|e1
   ·exact Or.inl (Or.inr (Or.inr (ja▸e1)))
   ·exact Or.inr (by omega)
theorem RB.setT {w:World} {lo C x0 T g cap k:Nat} {vB:Value} {b:AB} (h:RB w lo C x0 vB (.slice (some ⟨g,0,none⟩) T cap) b T) (hk:k<T) :
  RStep w (w.setCell ⟨g,k,none⟩ (.bool true)) lo C x0 (RF C vB (.slice (some ⟨g,0,none⟩) T cap)) vB (.slice (some ⟨g,0,none⟩) T cap) ⟨b.size,updB b.th k true,b.dat⟩ T:=by
 have ma:=set_only' w g k (.bool true)
 have qa:g≠C:=fun e=>h.nT (by rw [←e];rfl)
 have hb:(w.setCell ⟨g,k,none⟩ (.bool true)).heap[C]?=w.heap[C]?:=set_block (fun e=>qa e.symm)
 refine ⟨⟨(World.cell?_of_block (a:=⟨C,x0,none⟩) hb).trans h.c0,(World.cell?_of_block (a:=⟨C,x0+1,none⟩) hb).trans h.c1,(World.frozen?_of_block (a:=⟨C,x0,none⟩) hb).trans h.f0,(World.frozen?_of_block (a:=⟨C,x0+1,none⟩) hb).trans h.f1,?_,?_,fun x hx=>?_,h.le,h.nB,h.nT,h.sep⟩,?_,fun x hx=>Or.inl hx,Kp.of_only ma (World.block_lt_of_cell? w _ h.c0) (fun e=>qa e.symm)⟩
 ·exact own_only h.rB ma (fun x hx e=>by subst e;exact h.sep x hx rfl)
 ·have:=own_set h.rT hk (u:=.bool true) rfl
  rw [tL_set hk] at this
  exact this
 ·unfold updB at hx
  by_cases e:x=k
  ·omega
  ·simp only [Ja e] at hx;exact h.tT x hx
 ·exact ma.mono fun x hx=>Or.inr (Or.inr (by rw [hx];rfl))
def LayE (w:World) (lo C x0:Nat) (vB vT:Value) (b:AB) (k:Nat) (e:Ending) (w':World):Prop :=
 e=.returned (.tuple #[])∧∃vT' T',RStep w w' lo C x0 (RF C vB vT) vB vT' ⟨b.size,updB b.th k true,b.dat⟩ T'
theorem lay_any {w:World} {lo C x0 T k:Nat} {vB vT:Value} {b:AB} (h:RB w lo C x0 vB vT b T) (hk:k<4096) (hlo:lo≤w.heap.size):Calls Tryz.prog 169 #[Px C x0,.int .i64 (k:Int)] w (LayE w lo C x0 vB vT b k):=by
 obtain ⟨i0,hi,qa,hz1,hz2⟩:=info_parts (P:=Tryz.prog) (e:=4) (z:=.bool false) (size:=1) (bytes:=1) (by kernel_rfl)
 have HI:=Qa hi
 have HZ:=Qa (show i0.zero=some (.bool false)∧i0.size=1∧i0.bytes=1 from ⟨qa,hz1,hz2⟩)
 have ya:(k:Int)<4096:=by omega
 have HK:=Qa hk
 have Qe:=Qa hlo
 have HR:=Qa (RStep.refl h)
 clear hi qa hz1 hz2 h hk hlo
 go_enter Tryz.func169,Tryz.ntmps169
 go_wp2_with fail
 go_loopg [8] (k+1) (fun g s8 wr=>∃(T:Nat) (v:Value),k+1≤g+T∧Hid (RStep w wr lo C x0 (RF C vB vT) vB v b T))
 case atStart=>exact ⟨T,vT,by omega,HR⟩
 case round =>
  clear HR
  obtain ⟨T,v,hg,HS⟩:=hrel
  obtain ⟨A,c,rfl⟩:=own_slice HS.out.r.rT
  have c1:=HS.out.r.c1
  have f1:=HS.out.r.f1
  have hC:C<wr.heap.size:=World.block_lt_of_cell? wr _ c1
  have ja:=HS.out.r.le
  have da:(T:Int)≤4096:=by omega
  by_cases hlt:T≤k
  ·have ma:(T:Int)≤(k:Int):=by omega
   have Qd:=Qa (show ∀w3,(wr.alloc (.cells #[.bool false] 4)).grownBy w3 (Value.slice A T c).ownBlock→w3.cell? ⟨C,x0+1,none⟩=some (.slice A T c)∧w3.frozen? ⟨C,x0+1,none⟩=false from fun w3 hgr=>by
    have xa:Only (fun x=>(Value.slice A T c).ownBlock=some x) wr w3:=(Only.of_below (below_one wr _)).trans (grown_only hgr)
    have h3:w3.heap[C]?=wr.heap[C]?:=xa.block C hC HS.out.r.nT
    exact ⟨(World.cell?_of_block (a:=⟨C,x0+1,none⟩) h3).trans c1,(World.frozen?_of_block (a:=⟨C,x0+1,none⟩) h3).trans f1⟩)
   have Qb:=Qa (Nat.le_trans Qe.out HS.out.o.size)
   clear ja
   go_wp2_with (at_builtin;refine wpList_append_lies _ rfl (.tmp 15) (.tmp 16) 140 rfl lo 4 i0 _ 1 1 Tryz.underlying140 HI.out HZ.out.1 HZ.out.2.1 HZ.out.2.2 rfl (by decide) (.slice A T c) T (tL T b.th) rfl (HS.out.r.rT.alloc _) ⟨wr.heap.size,0,none⟩ 1 1 [.bool false] rfl rfl (cell_new1 _ _ _) (by intro u hu;simp at hu;subst hu;rfl) (by decide) (by unfold maxLen;omega) (by omega) (by have:=Qb.out;simp;omega) (wr.heap.size+1) (by simp) ?_;intro gg cap w3 hown1 hgrow1 hat1 hlt1;have d1:=(Qd.out w3 hgrow1).1;have d2:=(Qd.out w3 hgrow1).2)
   have Qc:=Qa (HS.out.trans (HS.out.r.growT (by have:=HK.out;omega) Qb.out hown1 hgrow1 hat1))
   clear hown1 hgrow1 hat1 hlt1
   go_wp2_with fail
   go_roundg (gk - 1)
   case measure=>omega
   case rel=>exact ⟨T+1,_,by omega,Qc⟩
  ·have ma:¬((T:Int)≤(k:Int)):=by omega
   obtain ⟨g',c',he,_,hgl,hc⟩:=own_val HS.out.r.rT (tL_get b.th (k:=k) (T:=T) (by omega)) (by omega)
   injection he with he1 he2
   subst he1
   have ga:=own_fro HS.out.r.rT k
   have sa:(k:Int)<(T:Int):=by omega
   have Qc:=Qa (HS.out.trans (HS.out.r.setT (k:=k) (by omega)))
   clear ja
   go_wp2_with fail
   go_end0
   exact ⟨rfl,_,_,Qc.out⟩
theorem RB.growB {w w3:World} {lo C x0 T g cap:Nat} {vB vT:Value} {b:AB} {o:Obj} (h:RB w lo C x0 vB vT b T) (hd:b.dat b.size=0)
  (hown:w3.ownsRow lo 5 1 (.slice (some ⟨g,0,none⟩) (b.size+1) cap) (b.size+1) (rowF b.size b.dat++[U8 0])) (hgr:(w.alloc o).grownBy w3 vB.ownBlock) (hg:vB.ownBlock=some g∨g=w.heap.size+1) :
  RStep w (w3.setCell ⟨C,x0,none⟩ (.slice (some ⟨g,0,none⟩) (b.size+1) cap)) lo C x0 (RF C vB vT) (.slice (some ⟨g,0,none⟩) (b.size+1) cap) vT ⟨b.size+1,b.th,b.dat⟩ T:=by
 have hC:C<w.heap.size:=World.block_lt_of_cell? w _ h.c0
 have hB:=h.rB.lt
 have xa:=h.rT.lt
 have ya:g≠C:=by
  rcases hg with e|e
  ·intro h1;exact h.nB (h1▸e)
  ·omega
 have ma:Only (fun x=>vB.ownBlock=some x) w w3:=(Only.of_below (below_one w o)).trans (grown_only hgr)
 have h3:w3.heap[C]?=w.heap[C]?:=ma.block C hC h.nB
 have qa:=set_only' w3 C x0 (.slice (some ⟨g,0,none⟩) (b.size+1) cap)
 have e0:=(World.cell?_of_block (a:=⟨C,x0,none⟩) h3).trans h.c0
 refine ⟨⟨World.cell?_setCell_same _ _ _ e0,?_,(World.frozen?_setCell _ _ _ _).trans ((World.frozen?_of_block (a:=⟨C,x0,none⟩) h3).trans h.f0),(World.frozen?_setCell _ _ _ _).trans ((World.frozen?_of_block (a:=⟨C,x0+1,none⟩) h3).trans h.f1),?_,?_,h.tT,h.le,?_,h.nT,?_⟩,?_,?_,(Kp.of_only ma hC h.nB).trans (Kp.set0 w3 C x0 _)⟩
 ·exact (World.cell?_setCell_other _ _ _ _ (by intro e;injection e with _ e;simp at e)).trans ((World.cell?_of_block (a:=⟨C,x0+1,none⟩) h3).trans h.c1)
 ·rw [rowF_snoc,hd]
  exact own_only hown qa (fun x hx e=>by
   have:g=x:=by simpa [Value.ownBlock] using hx
   omega)
 ·exact own_only (own_only h.rT ma (fun x hx e=>h.sep x e hx)) qa (fun x hx e=>by subst e;exact h.nT hx)
 ·intro e
  have:g=C:=by simpa [Value.ownBlock] using e
  exact ya this
 ·intro x hx e
  have ja:g=x:=by simpa [Value.ownBlock] using hx
  rcases hg with e1|e1
  ·exact h.sep x (ja▸e1) e
  ·have:=(xa x e).2;omega
 ·exact (ma.mono (G:=RF C vB vT) fun x hx=>Or.inr (Or.inl hx)).trans (qa.mono fun x hx=>Or.inl hx)
 ·rintro x (hx|hx|hx)
  ·exact Or.inl (Or.inl hx)
  ·have ja:g=x:=by simpa [Value.ownBlock] using hx
   rcases hg with e1|e1
   ·exact Or.inl (Or.inr (Or.inl (ja▸e1)))
   ·exact Or.inr (by omega)
  ·exact Or.inl (Or.inr (Or.inr hx))
theorem RB.setB {w:World} {lo C x0 T g cap k n:Nat} {vT:Value} {b:AB} (h:RB w lo C x0 (.slice (some ⟨g,0,none⟩) n cap) vT b T) (hn:n=b.size) (hk:k<n) (x:UInt8) :
  RStep w (w.setCell ⟨g,k,none⟩ (U8 x)) lo C x0 (RF C (.slice (some ⟨g,0,none⟩) n cap) vT) (.slice (some ⟨g,0,none⟩) n cap) vT ⟨b.size,b.th,updD b.dat k x⟩ T:=by
 subst hn
 have ma:=set_only' w g k (U8 x)
 have qa:g≠C:=fun e=>h.nB (by rw [←e];rfl)
 have hb:(w.setCell ⟨g,k,none⟩ (U8 x)).heap[C]?=w.heap[C]?:=set_block (fun e=>qa e.symm)
 refine ⟨⟨(World.cell?_of_block (a:=⟨C,x0,none⟩) hb).trans h.c0,(World.cell?_of_block (a:=⟨C,x0+1,none⟩) hb).trans h.c1,(World.frozen?_of_block (a:=⟨C,x0,none⟩) hb).trans h.f0,(World.frozen?_of_block (a:=⟨C,x0+1,none⟩) hb).trans h.f1,?_,?_,h.tT,h.le,h.nB,h.nT,h.sep⟩,?_,fun x hx=>Or.inl hx,Kp.of_only ma (World.block_lt_of_cell? w _ h.c0) (fun e=>qa e.symm)⟩
 ·have:=own_set h.rB hk (u:=U8 x) rfl
  rw [rowF_set hk] at this
  exact this
 ·exact own_only h.rT ma (fun y hy e=>by subst e;exact h.sep y rfl hy)
 ·exact ma.mono fun y hy=>Or.inr (Or.inl (by rw [hy];rfl))
structure RS2 (w w':World) (lo C x0 RS room used:Nat) (G:Nat→Prop) (vB vT:Value) (b:AB) (T:Nat):Prop where
 r:RB w' lo C x0 vB vT b T
 s:StoC w' RS room used
 o:Only (fun x=>G x∨x=RS) w w'
 f:∀x,RF C vB vT x→G x∨w.heap.size≤x
 kp:Kp C x0 w w'
 n:RS<w.heap.size∧¬G RS
theorem RS2.notF {w w':World} {lo C x0 RS room used T:Nat} {G:Nat→Prop} {vB vT:Value} {b:AB} (h:RS2 w w' lo C x0 RS room used G vB vT b T):¬RF C vB vT RS:=fun hf=>by
 rcases h.f RS hf with h1|h1
 ·exact h.n.2 h1
 ·have:=h.n.1;omega
theorem RS2.start {w:World} {lo C x0 RS room used T:Nat} {vB vT:Value} {b:AB} (h:RB w lo C x0 vB vT b T) (hs:StoC w RS room used) (hn:¬RF C vB vT RS):RS2 w w lo C x0 RS room used (RF C vB vT) vB vT b T :=
 ⟨h,hs,Only.refl _ _,fun x hx=>Or.inl hx,Kp.refl C x0 w,World.block_lt_of_cell? w _ hs.c0,hn⟩
theorem RS2.body {w w1 w2:World} {lo C x0 RS room used T T':Nat} {G:Nat→Prop} {vB vT vB' vT':Value} {b b':AB} (h:RS2 w w1 lo C x0 RS room used G vB vT b T) (k:RStep w1 w2 lo C x0 (RF C vB vT) vB' vT' b' T'):RS2 w w2 lo C x0 RS room used G vB' vT' b' T':=by
 have ma:RS<w1.heap.size:=Nat.lt_of_lt_of_le h.n.1 h.o.size
 refine ⟨k.r,h.s.below (k.o.block RS ma h.notF),?_,fun x hx=>?_,h.kp.trans k.kp,h.n⟩
 ·refine ⟨k.o.os.trans h.o.os,k.o.tape.trans h.o.tape,k.o.output.trans h.o.output,Nat.le_trans h.o.size k.o.size,fun x hx hg=>?_⟩
  exact (k.o.block x (Nat.lt_of_lt_of_le hx h.o.size) (fun hf=>by rcases h.f x hf with h1|h1;exact hg (Or.inl h1);omega)).trans (h.o.block x hx hg)
 ·rcases k.f x hx with h1|h1
  ·exact h.f x h1
  ·exact Or.inr (Nat.le_trans h.o.size h1)
theorem RS2.use {w w1:World} {lo C x0 RS room used T:Nat} {G:Nat→Prop} {vB vT:Value} {b:AB} (h:RS2 w w1 lo C x0 RS room used G vB vT b T) (u:Nat):RS2 w (w1.setCell ⟨RS,1,none⟩ (.int .i64 (u:Int))) lo C x0 RS room u G vB vT b T :=
 ⟨h.r.only (set_only' w1 RS 1 _) (fun x hx e=>h.notF (e▸hx)),h.s.set u,h.o.trans ((set_only' w1 RS 1 _).mono fun x hx=>Or.inr hx),h.f,h.kp.trans (Kp.of_only (set_only' w1 RS 1 _) (World.block_lt_of_cell? w1 _ h.r.c0) (fun e=>h.notF (Or.inl e.symm))),h.n⟩
theorem RS2.drew {w w1:World} {lo C x0 RS room used T:Nat} {G:Nat→Prop} {vB vT:Value} {b:AB} (h:RS2 w w1 lo C x0 RS room used G vB vT b T):RS2 w w1.drew lo C x0 RS room used G vB vT b T :=
 ⟨h.r.below (Below.refl _ _).drew,h.s.drew,h.o.drew,h.f,h.kp.trans (Kp.drew C x0 w1),h.n⟩
def RWriteE (w:World) (lo C x0 RS room used:Nat) (G:Nat→Prop) (b:AB) (off:Int) (len:Nat) (f:Nat→UInt8) (e:Ending) (w':World):Prop :=
 ∃(p:Nat) (err:Int) (vB vT:Value) (T:Nat),e=.returned (.tuple #[.int .i64 (p:Int),.int .i64 err])∧WR b used room off len p err∧RS2 w w' lo C x0 RS room (used+(wr b off p f).n - b.n) G vB vT (wr b off p f) T
structure RMid (w wr:World) (lo C x0 RS room used s p N:Nat) (G:Nat→Prop) (vB vT:Value) (b:AB) (f:Nat→UInt8) (T:Nat):Prop where
 r:RS2 w wr lo C x0 RS room (used+N - b.n) G vB vT (wrB b s p f) T
 n:N=cnt 4096 (thW b s (s+p))
 le:b.n≤N
 ok:∀q,q<p→okW b used room s q
 rm:used+N - b.n≤room
theorem RMid.fin {w wr:World} {lo C x0 RS room used s p N len TT:Nat} {G:Nat→Prop} {vB vT:Value} {b:AB} {off:Int} {f:Nat→UInt8} {T:Nat} (h:RMid w wr lo C x0 RS room used s p N G vB vT b f T)
  (ho:off=(s:Int)) (hs:off<65536) (hl:0<len) (hT:TT=min len (65536 - s)) (hst:IsStop b used room s TT p):RWriteE w lo C x0 RS room used G b off len f (.returned (.tuple #[.int .i64 (p:Int),.int .i64 (if p=0 then 28 else 0)])) wr:=by
 have hw:Go.Proofs.YtgoddboicjfkcaaGreat.bl.wr b off p f=wrB b s p f:=by unfold Go.Proofs.YtgoddboicjfkcaaGreat.bl.wr;rw [ho,Int.toNat_natCast]
 refine ⟨p,_,vB,vT,T,rfl,Or.inr (Or.inr (Or.inr ⟨by omega,hs,hl,?_,rfl⟩)),?_⟩
 ·rw [ho,Int.toNat_natCast,←hT];exact hst
 ·rw [hw,show (wrB b s p f).n=N from h.n.symm];exact h.r
theorem rwrite_any {w:World} {lo C x0 RS room used T0 len dc:Nat} {vB vT:Value} {b:AB} {A:Option Addr} {off:Int} {f:Nat→UInt8} (h:RB w lo C x0 vB vT b T0) (hok:b.Ok) (hs0:StoC w RS room used) (hRS:¬RF C vB vT RS) (hu:b.n≤used) (hur:used≤room) (hr:room≤65536)
  (hA:BytesIn w (fun x=>RF C vB vT x∨x=RS) A len f) (hlc:len≤dc) (hdc:dc≤maxLen) (hlo:lo≤w.heap.size) :
  Calls Tryz.prog 109 #[Pq RS,Px C x0,.int .i64 off,.slice A len dc] w (RWriteE w lo C x0 RS room used (RF C vB vT) b off len f):=by
 obtain ⟨i0,hi,ba,hz1,hz2⟩:=info_parts (P:=Tryz.prog) (e:=5) (z:=.int .u8 0) (size:=1) (bytes:=1) (by kernel_rfl)
 have HI:=Qa hi
 have HZ:=Qa (show i0.zero=some (.int .u8 0)∧i0.size=1∧i0.bytes=1 from ⟨ba,hz1,hz2⟩)
 clear hi ba hz1 hz2
 have qa:=RS2.start h hs0 hRS
 have Qc:=Qa (show ∀e v,WR b used room off len 0 v→e=.returned (.tuple #[.int .i64 0,.int .i64 v])→RWriteE w lo C x0 RS room used (RF C vB vT) b off len f e w from fun e v h1 he=>by
  have hw:wr b off 0 f=b:=wrB_zero _ _ _
  refine ⟨0,v,vB,vT,T0,he,h1,?_⟩
  rw [hw,Nat.add_sub_cancel]
  exact qa)
 have fa:(len:Int)≤9223372036854775807:=by unfold maxLen at hdc;omega
 by_cases h0:off<0
 ·have HP:=Qa (Qc.out _ 22 (Or.inl ⟨h0,rfl,rfl⟩) rfl)
  clear h hok hs0 hRS hu hur hr hA hlc hdc hlo qa
  go_enter Tryz.func109,Tryz.ntmps109
  go_wp2
  go_ret2
  exact HP.out
 by_cases hl0:len=0
 ·have HP:=Qa (Qc.out _ 0 (Or.inr (Or.inl ⟨by omega,hl0,rfl,rfl⟩)) rfl)
  subst hl0
  clear h hok hs0 hRS hu hur hr hA hlc hdc hlo qa
  go_enter Tryz.func109,Tryz.ntmps109
  go_wp2
  go_ret2
  exact HP.out
 have jc:((len:Int) == 0)=false:=by simpa using hl0
 by_cases yb:65536≤off
 ·have HP:=Qa (Qc.out _ 27 (Or.inr (Or.inr (Or.inl ⟨yb,by omega,rfl,rfl⟩))) rfl)
  have Q5:=Qa hl0
  clear h hok hs0 hRS hu hur hr hA hlc hdc hlo qa hl0
  go_enter Tryz.func109,Tryz.ntmps109
  go_wp2
  go_ret2
  exact HP.out
 obtain ⟨s,hs⟩:∃s:Nat,off=(s:Int):=⟨off.toNat,by omega⟩
 obtain ⟨TT,hT⟩:∃TT,TT=min len (65536 - s):=⟨_,rfl⟩
 have HT:=Qa (show 0<len∧TT=min len (65536 - s)∧TT≤len∧s+TT≤65536∧0<TT from ⟨by omega,hT,by omega,by omega,by omega⟩)
 have Qb:=Qa hs
 have HA:=Qa hA
 have Qw:=Qa hok
 have HR:=Qa (show used≤room∧room≤65536∧lo≤w.heap.size from ⟨hur,hr,hlo⟩)
 have ga:(room:Int)≤65536:=by omega
 have Qx:=Qa (show RMid w w lo C x0 RS room used s 0 b.n (RF C vB vT) vB vT b f T0 from ⟨by rw [wrB_zero,Nat.add_sub_cancel];exact qa,cnt_congr fun k=>(thW_self b s k).symm,Nat.le_refl _,fun q hq=>absurd hq (Nat.not_lt_zero _),by omega⟩)
 have kb:off<65536:=by omega
 have pc:0≤off:=by omega
 have xc:(TT:Int)≤(len:Int):=by omega
 generalize hG:RF C vB vT=G at *
 have Q6:=Qa hG
 clear h hok hs0 hRS hu hur hr hA hlc hdc hlo qa hs hT Qc hl0 hG
 go_enter Tryz.func109,Tryz.ntmps109
 go_wp2_with fail
 go_loopg [10] TT (fun g s10 wr=>∃(p N T:Nat) (vB vT:Value),g+p=TT∧s10=.int .i64 (p:Int)∧Hid (RMid w wr lo C x0 RS room used s p N G vB vT b f T))
 case atStart=>exact ⟨0,b.n,T0,vB,vT,by omega,rfl,Qx⟩
 case round =>
  clear Qx
  obtain ⟨p,N,T,vB,vT,hg,rfl,HM⟩:=hrel
  have yc:(p:Int)≤65536:=by have:=HT.out;omega
  by_cases hpT:p<TT
  ·obtain ⟨k,hk⟩:∃k,k=(s+p) / 16:=⟨_,rfl⟩
   have bc:(off+(p:Int)) / 16=(k:Int):=by have:=Qb.out;omega
   have fc:(p:Int)<(len:Int):=by omega
   have qd:off+(p:Int)<65536:=by have:=HT.out;have:=Qb.out;omega
   have mb:k<4096:=by have:=HT.out;omega
   have Qh:=Qa hk
   have Qf:=Qa (there_any HM.out.r.r k)
   have Qy:=Qa mb
   clear hk mb
   cases ht:(wrB b s p f).th k
   ·rw [ht] at Qf
    have Qi:=Qa (show thW b s (s+p) k=false from ht)
    clear ht
    have s0:wr.drew.cell? ⟨RS,0,none⟩=some (.int .i64 (room:Int)):=HM.out.r.s.c0
    obtain ⟨U,hU⟩:∃U,U=used+N - b.n:=⟨_,rfl⟩
    have s1:wr.drew.cell? ⟨RS,1,none⟩=some (.int .i64 (U:Int)):=by rw [hU];exact HM.out.r.s.c1
    have f1:wr.drew.frozen? ⟨RS,1,none⟩=false:=HM.out.r.s.f1
    have jb:U≤room:=by rw [hU];exact HM.out.rm
    have jd:(U:Int)≤65536:=by omega
    have HU:=Qa hU
    have Qz:=Qa jb
    clear hU jb
    by_cases hfull:U=room
    ·have rb:((U:Int) == (room:Int))=true:=by simp;omega
     have ja:IsStop b used room s TT p:=⟨by omega,HM.out.ok,Or.inr (by
      unfold okW usedW
      rw [←Qh.out,Qi.out,←HM.out.n,←HU.out]
      rintro (h|h)
      ·cases h
      ·omega)⟩
     have HF:=Qa (RMid.fin (w:=w) (wr:=wr.drew) ⟨HM.out.r.drew,HM.out.n,HM.out.le,HM.out.ok,HM.out.rm⟩ Qb.out kb HT.out.1 HT.out.2.1 ja)
     have Qm:=Qa hfull
     clear ja hfull
     by_cases hp0:p=0
     ·have Q3:=Qa (show RWriteE w lo C x0 RS room used G b off len f (.returned (.tuple #[.int .i64 0,.int .i64 28])) wr.drew from by
       have h:=HF.out
       rw [hp0] at h
       exact h)
      have pb:((p:Int) == 0)=true:=by simpa using hp0
      have Q4:=Qa hp0
      clear hp0 HF
      go_wp2_with fail
      refine Qf.out.mono ?_
      rintro e wx ⟨rfl,rfl⟩
      clear Qf
      go_wp2_with fail
      go_region
      go_wp2_with fail
      go_ret2
      exact Q3.out
     ·rw [Ja hp0] at HF
      have pb:((p:Int) == 0)=false:=by simpa using hp0
      have Q4:=Qa hp0
      clear hp0
      go_wp2_with fail
      refine Qf.out.mono ?_
      rintro e wx ⟨rfl,rfl⟩
      clear Qf
      go_wp2_with fail
      go_region
      go_wp2_with fail
      go_ret2
      exact HF.out
    ·have rb:((U:Int) == (room:Int))=false:=by simp;omega
     have Qm:=Qa hfull
     clear hfull
     go_wp2_with fail
     refine Qf.out.mono ?_
     rintro e wx ⟨rfl,rfl⟩
     clear Qf
     go_wp2_with fail
     go_region
     -- REST
     have Qj:=HM.out.r.drew.use (U+1)
     rw [show ((U+1:Nat):Int)=(U:Int)+1 from by omega] at Qj
     have Q2:=Qa Qj
     have Qk:=Qa (lay_any Qj.r (k:=k) Qy.out (Nat.le_trans HR.out.2.2 Qj.o.size))
     clear Qj
     go_wp2_with fail
     refine Qk.out.mono ?_
     rintro e w3 ⟨rfl,vT1,T1,hst⟩
     have hx:=Q2.out.body hst
     obtain ⟨th1,hth1⟩:∃th1,th1=thW b s (s+(p+1)):=⟨_,rfl⟩
     obtain ⟨Z,hZ⟩:∃Z,Z=(wrB b s p f).size:=⟨_,rfl⟩
     obtain ⟨D,hD⟩:∃D,D=(wrB b s p f).dat:=⟨_,rfl⟩
     have ma:=wrB_ok Qw.out (s:=s) (p:=p) (by have:=HT.out;omega) f
     have Qn:=Qa (show Z≤65536∧s+p+1≤65536 from ⟨by rw [hZ];exact ma.size,by have:=HT.out;omega⟩)
     have Qo:=Qa (show ∀i,Z≤i→D i=0 from fun i hi=>by rw [hD];exact ma.dat i (by rw [←hZ];exact hi))
     have Qp:=Qa hZ
     have Qq:=Qa hD
     have Qr:=Qa hth1
     have xa:updB (wrB b s p f).th k true=th1:=by
      rw [hth1]
      funext x
      exact (thW_step Qh.out.symm (by omega) (by have:=Qh.out;omega) x).symm
     obtain ⟨U1,hU1⟩:∃U1,U1=U+1:=⟨_,rfl⟩
     obtain ⟨N1,hN1⟩:∃N1,N1=N+1:=⟨_,rfl⟩
     have Qd:=Qa (show N1=cnt 4096 (thW b s (s+(p+1)))∧b.n≤N1∧U1=used+N1 - b.n∧U1≤room from ⟨by
      rw [←hth1,←xa,hN1,HM.out.n];exact (cnt_add Qy.out Qi.out).symm,by have:=HM.out.le;omega,by have:=HM.out.le;have:=HU.out;omega,by have:=Qz.out;have:=Qm.out;omega⟩)
     have Qs:=Qa (show ∀q,q<p+1→okW b used room s q from fun q hq=>by
      by_cases h1:q<p
      ·exact HM.out.ok q h1
      ·obtain rfl:q=p:=by omega
       refine Or.inr ?_
       unfold usedW
       rw [←HM.out.n,←HU.out]
       have:=Qz.out;have:=Qm.out;omega)
     rw [xa,←hZ,←hD,←hU1] at hx
     have HX:=Qa hx
     clear hx hst Qk Q2 xa ma hth1 hZ hD hU1 hN1 s0 s1 f1
     go_wp2_with fail
     go_loopg [57] (s+p+1) (fun g s57 wr=>∃(m:Nat) (v:Value),s+p+1≤g+m∧Z≤m∧m≤max Z (s+p+1)∧Hid (RS2 w wr lo C x0 RS room U1 G v vT1 ⟨m,th1,D⟩ T1))
     case atStart=>exact ⟨Z,_,by omega,by omega,by omega,HX⟩
     case round =>
      clear HX
      obtain ⟨m,v,hgm,hmZ,hmM,HS⟩:=hrel
      obtain ⟨Ab,cb,rfl⟩:=own_slice HS.out.r.rB
      have c0:wr.cell? ⟨C,x0,none⟩=some (.slice Ab m cb):=HS.out.r.c0
      have g0:=HS.out.r.f0
      have hC:C<wr.heap.size:=World.block_lt_of_cell? wr _ c0
      have fb:(m:Int)≤65536:=by have:=Qn.out;omega
      by_cases hlt:m≤s+p
      ·have ya:(m:Int)≤off+(p:Int):=by have:=Qb.out;omega
       have Ql:=Qa (show ∀w3,(wr.alloc (.cells #[.int .u8 0] 5)).grownBy w3 (Value.slice Ab m cb).ownBlock→w3.cell? ⟨C,x0,none⟩=some (.slice Ab m cb)∧w3.frozen? ⟨C,x0,none⟩=false from fun w3 hgr=>by
        have sa:Only (fun x=>(Value.slice Ab m cb).ownBlock=some x) wr w3:=(Only.of_below (below_one wr _)).trans (grown_only hgr)
        have h3:w3.heap[C]?=wr.heap[C]?:=sa.block C hC HS.out.r.nB
        exact ⟨(World.cell?_of_block (a:=⟨C,x0,none⟩) h3).trans c0,(World.frozen?_of_block (a:=⟨C,x0,none⟩) h3).trans g0⟩)
       have Qg:=Qa (Nat.le_trans HR.out.2.2 HS.out.o.size)
       have Qt:=Qa (Qo.out m hmZ)
       go_wp2_with (at_builtin;refine wpList_append_lies _ rfl (.tmp 68) (.tmp 69) 53 rfl lo 5 i0 _ 1 1 Tryz.underlying53 HI.out HZ.out.1 HZ.out.2.1 HZ.out.2.2 rfl (by decide) (.slice Ab m cb) m (rowF m D) rfl (HS.out.r.rB.alloc _) ⟨wr.heap.size,0,none⟩ 1 1 [U8 0] rfl rfl (cell_new1 _ _ _) (by intro u hu;simp at hu;subst hu;rfl) (by decide) (by unfold maxLen;omega) (by omega) (by have:=Qg.out;simp;omega) (wr.heap.size+1) (by simp) ?_;intro gg cap w3 hown1 hgrow1 hat1 hlt1;have d1:=(Ql.out w3 hgrow1).1;have d2:=(Ql.out w3 hgrow1).2)
       have Qv:=Qa (HS.out.body (HS.out.r.growB (b:=⟨m,th1,D⟩) Qt.out hown1 hgrow1 hat1))
       clear hown1 hgrow1 hat1 hlt1
       go_roundg (gk - 1)
       case measure=>omega
       case rel=>exact ⟨m+1,_,by omega,by omega,by omega,Qv⟩
      ·have ya:¬((m:Int)≤off+(p:Int)):=by have:=Qb.out;omega
       have da:m=max Z (s+p+1):=by omega
       have Qe:=Qa HS.out.drew
       obtain ⟨db,dof,rfl,_,hdl,hdc⟩:=(HA.out.only Qe.out.o) p (by have:=HT.out;omega)
       obtain ⟨g',c',he,_,hgl,hc⟩:=own_val Qe.out.r.rB (rowF_get D (L:=m) (j:=s+p) (by omega)) (by show s+p<m;omega)
       injection he with he1 he2
       subst he1
       have kc:=own_fro Qe.out.r.rB (s+p)
       have c0d:wr.drew.cell? ⟨C,x0,none⟩=some (.slice (some ⟨g',0,none⟩) m cb):=c0
       have hq:(off+(p:Int)).toNat=s+p:=by have:=Qb.out;omega
       have mc:off+(p:Int)<(m:Int):=by omega
       have HW:=Qa (show ∀W,W=wr.drew.setCell ⟨g',s+p,none⟩ (U8 (f p))→RMid w W lo C x0 RS room used s (p+1) N1 G (.slice (some ⟨g',0,none⟩) m cb) vT1 b f T1 from fun W hW=>by
        subst hW
        have h1:=Qe.out.body (Qe.out.r.setB (b:=⟨m,th1,D⟩) (n:=m) (k:=s+p) rfl (by omega) (f p))
        have hE:(⟨m,th1,updD D (s+p) (f p)⟩:AB)=wrB b s (p+1) f:=by
         apply AB_ext
         ·show m=_
          rw [da,Qp.out]
          unfold wrB
          dsimp only
          split <;> (try split) <;> omega
         ·intro x;rw [Qr.out];rfl
         ·intro i
          show updD D (s+p) (f p) i=over b.dat s (p+1) f i
          rw [Qq.out]
          unfold updD wrB over
          dsimp only
          by_cases e:i=s+p
          ·subst e;rw [Jb rfl,Jb (by omega)];congr 1;omega
          ·rw [Ja e]
           by_cases h2:s≤i∧i<s+p
           ·rw [Jb h2,Jb (by omega)]
           ·rw [Ja h2,Ja (by omega)]
        rw [hE,Qd.out.2.2.1] at h1
        exact ⟨h1,Qd.out.1,Qd.out.2.1,Qs.out,by rw [←Qd.out.2.2.1];exact Qd.out.2.2.2⟩)
       unfold U8 at hdc hc HW
       generalize f p=fp at *
       generalize D (s+p)=dp at *
       clear da
       go_wp2_with fail
       go_region
       go_wp2_with fail
       go_roundg (TT - (p+1))
       case measure=>omega
       case rel=>exact ⟨p+1,N1,T1,_,_,by omega,by go_num,Qa (HW.out _ rfl)⟩
   ·rw [ht] at Qf
    have Qi:=Qa (show thW b s (s+p) k=true from ht)
    clear ht
    go_wp2_with fail
    refine Qf.out.mono ?_
    rintro e wx ⟨rfl,rfl⟩
    clear Qf
    have hx:=HM.out.r
    obtain ⟨th1,hth1⟩:∃th1,th1=thW b s (s+(p+1)):=⟨_,rfl⟩
    obtain ⟨Z,hZ⟩:∃Z,Z=(wrB b s p f).size:=⟨_,rfl⟩
    obtain ⟨D,hD⟩:∃D,D=(wrB b s p f).dat:=⟨_,rfl⟩
    have ma:=wrB_ok Qw.out (s:=s) (p:=p) (by have:=HT.out;omega) f
    have Qn:=Qa (show Z≤65536∧s+p+1≤65536 from ⟨by rw [hZ];exact ma.size,by have:=HT.out;omega⟩)
    have Qo:=Qa (show ∀i,Z≤i→D i=0 from fun i hi=>by rw [hD];exact ma.dat i (by rw [←hZ];exact hi))
    have Qp:=Qa hZ
    have Qq:=Qa hD
    have Qr:=Qa hth1
    have xa:(wrB b s p f).th=th1:=by
     rw [hth1]
     funext x
     rw [thW_step Qh.out.symm (by omega) (by have:=Qh.out;omega) x]
     unfold updB
     by_cases e:x=k
     ·rw [Jb e,e];exact Qi.out
     ·rw [Ja e];rfl
    obtain ⟨U1,hU1⟩:∃U1,U1=used+N - b.n:=⟨_,rfl⟩
    obtain ⟨N1,hN1⟩:∃N1,N1=N:=⟨_,rfl⟩
    obtain ⟨T1,hT1⟩:∃T1,T1=T:=⟨_,rfl⟩
    obtain ⟨vT1,hvT1⟩:∃vT1,vT1=vT:=⟨_,rfl⟩
    have Qd:=Qa (show N1=cnt 4096 (thW b s (s+(p+1)))∧b.n≤N1∧U1=used+N1 - b.n∧U1≤room from ⟨by
     rw [←hth1,←xa,hN1];exact HM.out.n,by rw [hN1];exact HM.out.le,by rw [hN1];exact hU1,by rw [hU1];exact HM.out.rm⟩)
    have Qs:=Qa (show ∀q,q<p+1→okW b used room s q from fun q hq=>by
     by_cases h1:q<p
     ·exact HM.out.ok q h1
     ·obtain rfl:q=p:=by omega
      refine Or.inl ?_
      rw [←Qh.out];exact Qi.out)
    have xb:RS2 w wr lo C x0 RS room U1 G vB vT1 ⟨Z,th1,D⟩ T1:=by
     rw [hU1,hvT1,hT1,hZ,hD,←xa];exact hx
    have HX:=Qa xb
    clear hx xb xa ma hth1 hZ hD hU1 hN1 hT1 hvT1
    go_wp2_with fail
    go_loopg [57] (s+p+1) (fun g s57 wr=>∃(m:Nat) (v:Value),s+p+1≤g+m∧Z≤m∧m≤max Z (s+p+1)∧Hid (RS2 w wr lo C x0 RS room U1 G v vT1 ⟨m,th1,D⟩ T1))
    case atStart=>exact ⟨Z,_,by omega,by omega,by omega,HX⟩
    case round =>
     clear HX
     obtain ⟨m,v,hgm,hmZ,hmM,HS⟩:=hrel
     obtain ⟨Ab,cb,rfl⟩:=own_slice HS.out.r.rB
     have c0:wr.cell? ⟨C,x0,none⟩=some (.slice Ab m cb):=HS.out.r.c0
     have g0:=HS.out.r.f0
     have hC:C<wr.heap.size:=World.block_lt_of_cell? wr _ c0
     have fb:(m:Int)≤65536:=by have:=Qn.out;omega
     by_cases hlt:m≤s+p
     ·have ya:(m:Int)≤off+(p:Int):=by have:=Qb.out;omega
      have Ql:=Qa (show ∀w3,(wr.alloc (.cells #[.int .u8 0] 5)).grownBy w3 (Value.slice Ab m cb).ownBlock→w3.cell? ⟨C,x0,none⟩=some (.slice Ab m cb)∧w3.frozen? ⟨C,x0,none⟩=false from fun w3 hgr=>by
       have sa:Only (fun x=>(Value.slice Ab m cb).ownBlock=some x) wr w3:=(Only.of_below (below_one wr _)).trans (grown_only hgr)
       have h3:w3.heap[C]?=wr.heap[C]?:=sa.block C hC HS.out.r.nB
       exact ⟨(World.cell?_of_block (a:=⟨C,x0,none⟩) h3).trans c0,(World.frozen?_of_block (a:=⟨C,x0,none⟩) h3).trans g0⟩)
      have Qg:=Qa (Nat.le_trans HR.out.2.2 HS.out.o.size)
      have Qt:=Qa (Qo.out m hmZ)
      go_wp2_with (at_builtin;refine wpList_append_lies _ rfl (.tmp 68) (.tmp 69) 53 rfl lo 5 i0 _ 1 1 Tryz.underlying53 HI.out HZ.out.1 HZ.out.2.1 HZ.out.2.2 rfl (by decide) (.slice Ab m cb) m (rowF m D) rfl (HS.out.r.rB.alloc _) ⟨wr.heap.size,0,none⟩ 1 1 [U8 0] rfl rfl (cell_new1 _ _ _) (by intro u hu;simp at hu;subst hu;rfl) (by decide) (by unfold maxLen;omega) (by omega) (by have:=Qg.out;simp;omega) (wr.heap.size+1) (by simp) ?_;intro gg cap w3 hown1 hgrow1 hat1 hlt1;have d1:=(Ql.out w3 hgrow1).1;have d2:=(Ql.out w3 hgrow1).2)
      have Qv:=Qa (HS.out.body (HS.out.r.growB (b:=⟨m,th1,D⟩) Qt.out hown1 hgrow1 hat1))
      clear hown1 hgrow1 hat1 hlt1
      go_roundg (gk - 1)
      case measure=>omega
      case rel=>exact ⟨m+1,_,by omega,by omega,by omega,Qv⟩
     ·have ya:¬((m:Int)≤off+(p:Int)):=by have:=Qb.out;omega
      have da:m=max Z (s+p+1):=by omega
      have Qe:=Qa HS.out.drew
      obtain ⟨db,dof,rfl,_,hdl,hdc⟩:=(HA.out.only Qe.out.o) p (by have:=HT.out;omega)
      obtain ⟨g',c',he,_,hgl,hc⟩:=own_val Qe.out.r.rB (rowF_get D (L:=m) (j:=s+p) (by omega)) (by show s+p<m;omega)
      injection he with he1 he2
      subst he1
      have kc:=own_fro Qe.out.r.rB (s+p)
      have c0d:wr.drew.cell? ⟨C,x0,none⟩=some (.slice (some ⟨g',0,none⟩) m cb):=c0
      have hq:(off+(p:Int)).toNat=s+p:=by have:=Qb.out;omega
      have mc:off+(p:Int)<(m:Int):=by omega
      have HW:=Qa (show ∀W,W=wr.drew.setCell ⟨g',s+p,none⟩ (U8 (f p))→RMid w W lo C x0 RS room used s (p+1) N1 G (.slice (some ⟨g',0,none⟩) m cb) vT1 b f T1 from fun W hW=>by
       subst hW
       have h1:=Qe.out.body (Qe.out.r.setB (b:=⟨m,th1,D⟩) (n:=m) (k:=s+p) rfl (by omega) (f p))
       have hE:(⟨m,th1,updD D (s+p) (f p)⟩:AB)=wrB b s (p+1) f:=by
        apply AB_ext
        ·show m=_
         rw [da,Qp.out]
         unfold wrB
         dsimp only
         split <;> (try split) <;> omega
        ·intro x;rw [Qr.out];rfl
        ·intro i
         show updD D (s+p) (f p) i=over b.dat s (p+1) f i
         rw [Qq.out]
         unfold updD wrB over
         dsimp only
         by_cases e:i=s+p
         ·subst e;rw [Jb rfl,Jb (by omega)];congr 1;omega
         ·rw [Ja e]
          by_cases h2:s≤i∧i<s+p
          ·rw [Jb h2,Jb (by omega)]
          ·rw [Ja h2,Ja (by omega)]
       rw [hE,Qd.out.2.2.1] at h1
       exact ⟨h1,Qd.out.1,Qd.out.2.1,Qs.out,by rw [←Qd.out.2.2.1];exact Qd.out.2.2.2⟩)
      unfold U8 at hdc hc HW
      generalize f p=fp at *
      generalize D (s+p)=dp at *
      clear da
      go_wp2_with fail
      go_region
      go_wp2_with fail
      go_roundg (TT - (p+1))
      case measure=>omega
      case rel=>exact ⟨p+1,N1,T1,_,_,by omega,by go_num,Qa (HW.out _ rfl)⟩
  ·have la:p=TT:=by omega
   have HF:=Qa (RMid.fin HM.out Qb.out kb HT.out.1 HT.out.2.1 ⟨by omega,HM.out.ok,Or.inl la⟩)
   rw [Ja (by have:=HT.out;omega)] at HF
   have pb:((p:Int) == 0)=false:=by have:=HT.out;simp;omega
   have key:¬((p:Int)<(len:Int))∨((p:Int)<(len:Int)∧¬(off+(p:Int)<65536)):=by have:=HT.out;have:=Qb.out;omega
   have Q7:=Qa la
   clear la hpT
   rcases key with hk|⟨hk,hk2⟩
   ·go_wp2_with fail
    go_ret2
    exact HF.out
   ·go_wp2_with fail
    go_ret2
    exact HF.out
end bl.rx
end Go.Proofs.YtgoddboicjfkcaaGreat
