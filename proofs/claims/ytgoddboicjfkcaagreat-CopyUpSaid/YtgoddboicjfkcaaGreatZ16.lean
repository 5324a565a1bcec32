/- Contracts and mathematics, part 16. -/
import Derived.Test.YtgoddboicjfkcaaGreatZ15
set_option linter.unusedVariables false
set_option linter.unusedSimpArgs false
set_option maxRecDepth 100000
set_option maxHeartbeats 8000000
namespace Go.Proofs.YtgoddboicjfkcaaGreat
namespace mg
open Go.RowKit
open br (BS Ino Inv fresh)
open cb (BrX RetW RetI No)
open bl (Pq)
def bit (f:Int) (k:Nat):Bool:=decide (f / (2:Int) ^ k % 2=1)
theorem lsb (f:Int) (k:Nat) (hk:k<64):(BitVec.ofInt 64 f).getLsbD k=bit f k:=by
 unfold bit
 rw [BitVec.getLsbD,BitVec.toNat_ofInt,Nat.testBit_eq_decide_div_mod_eq]
 have e:(((f % ((2 ^ 64:Nat):Int)).toNat / 2 ^ k % 2:Nat):Int)=f / (2:Int) ^ k % 2:=by
  have h0:0≤f % ((2 ^ 64:Nat):Int):=Int.emod_nonneg _ (by decide)
  rw [Int.natCast_emod,Int.natCast_ediv,Int.toNat_of_nonneg h0]
  have hd:((2 ^ 64:Nat):Int)=(2:Int) ^ k*((2:Int)*(2:Int) ^ (63 - k)):=by
   rw [show (2:Int)*(2:Int) ^ (63 - k)=(2:Int) ^ (64 - k) from by rw [show 64 - k=(63 - k)+1 from by omega,Int.pow_succ,Int.mul_comm]]
   rw [←Int.pow_add,show k+(64 - k)=64 from by omega];rfl
  have hp:(0:Int)<(2:Int) ^ k:=Int.pow_pos (by decide)
  have hc:(((2 ^ k:Nat)):Int)=(2:Int) ^ k:=by simp
  rw [hc]
  have e1:f % ((2 ^ 64:Nat):Int)=f - (2:Int) ^ k*(((2:Int)*(2:Int) ^ (63 - k))*(f / ((2 ^ 64:Nat):Int))):=by
   have:=Int.emod_def f ((2 ^ 64:Nat):Int)
   rw [this]
   conv=>lhs;rw [hd]
   rw [Int.mul_assoc,←hd]
  rw [e1,Int.sub_mul_ediv_left _ _ (by omega),Int.mul_assoc]
  show (f / 2 ^ k - 2*_) % 2=_
  rw [Int.sub_mul_emod_self_left]
 have e2:((f % ((2 ^ 64:Nat):Int)).toNat / 2 ^ k % 2=1)↔(f / (2:Int) ^ k % 2=1):=by omega
 exact decide_eq_decide.2 e2
theorem small_wrap {n:Nat} (h:n≤1000):IntKind.i64.wrap (n:Int)=(n:Int):=by
 exact IntWalk.i64_in _ (by omega)
theorem and_le (f:Int) (m:Nat) (hm:m≤1000):(BitVec.ofInt 64 f &&& BitVec.ofInt 64 (m:Int)).toNat≤m:=by
 rw [BitVec.toNat_and]
 refine Nat.le_trans Nat.and_le_right ?_
 rw [BitVec.toNat_ofInt];omega
theorem bits_and (f:Int) (m:Nat) (hm:m≤1000):bits BinOp.and IntKind.i64 f (m:Int)=((BitVec.ofInt 64 f &&& BitVec.ofInt 64 (m:Int)).toNat:Int) :=
 small_wrap (Nat.le_trans (and_le f m hm) hm)
theorem and_zero (f:Int) (m:Nat):(BitVec.ofInt 64 f &&& BitVec.ofInt 64 (m:Int)).toNat=0↔∀k,k<64→(BitVec.ofInt 64 (m:Int)).getLsbD k=true→bit f k=false:=by
 constructor
 ·intro h k hk hb
  have:(BitVec.ofInt 64 f &&& BitVec.ofInt 64 (m:Int))=0#64:=BitVec.eq_of_toNat_eq (by rw [h];rfl)
  have h2:=congrArg (fun b=>b.getLsbD k) this
  simp only [BitVec.getLsbD_and,hb,Bool.and_true] at h2
  rw [←lsb f k hk,h2];simp
 ·intro h
  have:(BitVec.ofInt 64 f &&& BitVec.ofInt 64 (m:Int))=0#64:=by
   apply BitVec.eq_of_getLsbD_eq
   intro k hk
   rw [BitVec.getLsbD_and,lsb f k hk]
   by_cases hb:(BitVec.ofInt 64 (m:Int)).getLsbD k=true
   ·rw [h k hk hb];simp
   ·simp only [Bool.not_eq_true] at hb;rw [hb];simp
  rw [this];rfl
theorem one_and {f:Int} {m k:Nat} (hm:m≤1000) (hk:k<64) (h:∀j,j<64→((BitVec.ofInt 64 (m:Int)).getLsbD j=true↔j=k)):(bits BinOp.and IntKind.i64 f (m:Int) != 0)=bit f k:=by
 rw [bits_and f m hm,Bool.eq_iff_iff]
 have h0:=and_zero f m
 rw [bne_iff_ne]
 constructor
 ·intro e
  refine Classical.byContradiction fun e2=>e ?_
  have:(BitVec.ofInt 64 f &&& BitVec.ofInt 64 (m:Int)).toNat=0:=h0.2 fun j hj hb=>by rw [(h j hj).1 hb];simpa using e2
  rw [this];rfl
 ·intro e e2
  have e3:(BitVec.ofInt 64 f &&& BitVec.ofInt 64 (m:Int)).toNat=0:=by omega
  have:=h0.1 e3 k hk ((h k hk).2 rfl)
  rw [this] at e;cases e
theorem opq_bit (U:BS) (u:Int):(bits BinOp.and IntKind.i64 (U.marksOf u) 1 != 0)=opq U u:=by
 rw [show bits BinOp.and IntKind.i64 (U.marksOf u) 1=bits BinOp.and IntKind.i64 (U.marksOf u) ((1:Nat):Int) from rfl,one_and (m:=1) (k:=0) (by decide) (by decide) (by decide)]
 unfold bit opq
 simp
structure Vx (w:World) (V P1 P2:Nat) (u l:Int) (U L:BS):Prop where
 c0:w.cell? ⟨V,0,none⟩=some (Pq P1)
 c1:w.cell? ⟨V,1,none⟩=some (Pq P2)
 c2:w.cell? ⟨V,2,none⟩=some (.int .i64 u)
 c3:w.cell? ⟨V,3,none⟩=some (.int .i64 l)
 b1:∃w0 room T,BrX w0 w P1 No U room T
 b2:∃w0 room T,BrX w0 w P2 No L room T
structure Nb (w:World) (g:Nat) (n:Nd):Prop where
 c0:w.cell? ⟨g,0,none⟩=some (.int .i64 n.1)
 c1:w.cell? ⟨g,1,none⟩=some (.int .i64 n.2)
abbrev Nv (n:Nd):Value:=.agg #[.int .i64 n.1,.int .i64 n.2]
section
variable {w w':World} {V P1 P2 g:Nat} {u l:Int} {U L:BS} {n:Nd}
theorem Vx.lt (h:Vx w V P1 P2 u l U L):V<w.heap.size:=World.block_lt_of_cell? _ _ h.c0
theorem Vx.below (h:Vx w V P1 P2 u l U L) (hb:Below w.heap.size w w'):Vx w' V P1 P2 u l U L :=
 ⟨(hb.cell (p:=⟨V,0,none⟩) h.lt).trans h.c0,(hb.cell (p:=⟨V,1,none⟩) h.lt).trans h.c1,(hb.cell (p:=⟨V,2,none⟩) h.lt).trans h.c2,(hb.cell (p:=⟨V,3,none⟩) h.lt).trans h.c3,
  by obtain ⟨a,b,c,h1⟩:=h.b1;exact ⟨a,b,c,h1.below hb⟩,by obtain ⟨a,b,c,h1⟩:=h.b2;exact ⟨a,b,c,h1.below hb⟩⟩
theorem Nb.lt (h:Nb w g n):g<w.heap.size:=World.block_lt_of_cell? _ _ h.c0
theorem Nb.below (h:Nb w g n) (hb:Below w.heap.size w w'):Nb w' g n :=
 ⟨(hb.cell (p:=⟨g,0,none⟩) h.lt).trans h.c0,(hb.cell (p:=⟨g,1,none⟩) h.lt).trans h.c1⟩
theorem Nb.new (w:World) (x y:Int):Nb (w.alloc (.cells #[.int .i64 x,.int .i64 y] 24)) w.heap.size (x,y):=⟨by simp,by simp⟩
theorem bel_step {w2:World} (h:Below w.heap.size w w') (k:Below w'.heap.size w' w2):Below w.heap.size w w2:=h.trans (k.mono h.size)
theorem bel_alloc (w:World) (o:Obj):Below w.heap.size w (w.alloc o):=dn.below_alloc w o
theorem bel_drewN (w:World) (k:Nat):Below w.heap.size w (w.drewN k):=dn.below_drewN (Below.refl _ _) k
theorem Vx.kindU (h:Vx w V P1 P2 u l U L) (i:Int):Calls Tryz.prog 61 #[Pq P1,.int .i64 i] w (RetI w (U.kindOf i)):=by obtain ⟨_,_,_,k⟩:=h.b1;exact cb.x_kind k i
theorem Vx.kindL (h:Vx w V P1 P2 u l U L) (i:Int):Calls Tryz.prog 61 #[Pq P2,.int .i64 i] w (RetI w (L.kindOf i)):=by obtain ⟨_,_,_,k⟩:=h.b2;exact cb.x_kind k i
theorem Vx.getU (h:Vx w V P1 P2 u l U L) (i:Int) (s:ByteArray):Calls Tryz.prog 72 #[Pq P1,.int .i64 i,.string s] w (RetW w (.tuple #[.int .i64 (U.get i s).1,.int .i64 (U.get i s).2])):=by obtain ⟨_,_,_,k⟩:=h.b1;exact cb.x_get k i s
theorem Vx.getL (h:Vx w V P1 P2 u l U L) (i:Int) (s:ByteArray):Calls Tryz.prog 72 #[Pq P2,.int .i64 i,.string s] w (RetW w (.tuple #[.int .i64 (L.get i s).1,.int .i64 (L.get i s).2])):=by obtain ⟨_,_,_,k⟩:=h.b2;exact cb.x_get k i s
theorem Vx.marksU (h:Vx w V P1 P2 u l U L) (i:Int):Calls Tryz.prog 146 #[Pq P1,.int .i64 i] w (RetI w (U.marksOf i)):=by obtain ⟨_,_,_,k⟩:=h.b1;exact cb.x_marks k i
end
theorem opaque_any {w:World} {V P1 P2:Nat} {u l:Int} {U L:BS} (h:Vx w V P1 P2 u l U L) (x:Int):Calls Tryz.prog 68 #[Pq V,.int .i64 x] w (RetW w (.bool (opq U x))):=by
 have HM:=Qa (h.marksU x)
 unfold RetI at HM
 have HQ:=Qa (opq_bit U x)
 have c0:=h.c0
 generalize U.marksOf x=m at *
 generalize opq U x=q at *
 clear h
 go_enter Tryz.func68,Tryz.ntmps68
 go_wp2_with fail
 refine HM.out.mono ?_
 rintro _ w1 ⟨rfl,hb1⟩
 have HB:=Qa hb1
 clear hb1 HM
 go_wp2_with fail
 go_ret
 exact ⟨by rw [←HQ.out];rfl,HB.out⟩
theorem box_in {w:World} {V P1 P2:Nat} {u l:Int} {U L:BS} (h:Vx w V P1 P2 u l U L) (n1 n2:Int):∃w1,w.alloc (.cells #[.int .i64 n1,.int .i64 n2] 24)=w1∧Vx w1 V P1 P2 u l U L∧Nb w1 w.heap.size (n1,n2)∧Below w.heap.size w w1 :=
 ⟨_,rfl,h.below (bel_alloc _ _),Nb.new w n1 n2,bel_alloc _ _⟩
theorem shown_any {w:World} {V P1 P2:Nat} {u l:Int} {U L:BS} (h:Vx w V P1 P2 u l U L) (n:Nd):Calls Tryz.prog 77 #[Pq V,Nv n] w (RetW w (.tuple #[Pq (if n.1≠0 then P1 else P2),.int .i64 (if n.1≠0 then n.1 else n.2)])):=by
 obtain ⟨n1,n2⟩:=n
 dsimp only
 obtain ⟨w1,hw1,h1,hn1,hb1⟩:=box_in h n1 n2
 obtain ⟨g,hg⟩:∃g,w.heap.size=g:=⟨_,rfl⟩
 have HB:=Qa hb1
 rw [hg] at hn1
 have c0:=h1.c0
 have c1:=h1.c1
 have t0:=hn1.c0
 have t1:=hn1.c1
 dsimp only at t0 t1
 clear h h1 hn1 hb1
 by_cases e:n1=0
 ·subst e
  rw [Ja (by decide),Ja (by decide)]
  go_enter Tryz.func77,Tryz.ntmps77
  go_wp2_with fail
  go_quiet (fail)
  go_wp2_with fail
  go_ret2
  exact ⟨rfl,dn.below_drewN HB.out _⟩
 ·have q:(n1 != 0)=true:=by simpa using e
  rw [Jb e,Jb e]
  go_enter Tryz.func77,Tryz.ntmps77
  go_wp2_with fail
  go_quiet (fail)
  go_wp2_with fail
  go_ret2
  exact ⟨rfl,dn.below_drewN HB.out _⟩
theorem Vx.kindN {w:World} {V P1 P2:Nat} {u l:Int} {U L:BS} (h:Vx w V P1 P2 u l U L) (n:Nd):Calls Tryz.prog 61 #[Pq (if n.1≠0 then P1 else P2),.int .i64 (if n.1≠0 then n.1 else n.2)] w (RetI w (if n.1≠0 then U.kindOf n.1 else L.kindOf n.2)):=by
 by_cases e:n.1≠0
 ·rw [Jb e,Jb e,Jb e];exact h.kindU _
 ·rw [Ja e,Ja e,Ja e];exact h.kindL _
theorem kind_any {w:World} {V P1 P2:Nat} {u l:Int} {U L:BS} (h:Vx w V P1 P2 u l U L) (n:Nd):Calls Tryz.prog 19 #[Pq V,Nv n] w (RetI w (kindV U L n)):=by
 obtain ⟨w1,hw1,h1,hn1,hb1⟩:=box_in h n.1 n.2
 have HS:=Qa (shown_any h1 n)
 have HK:=Qa (fun W (hb:Below w1.heap.size w1 W)=>(h1.below hb).kindN n)
 have HV:=Qa (show kindV U L n=if (if n.1≠0 then U.kindOf n.1 else L.kindOf n.2)=4 then 0 else (if n.1≠0 then U.kindOf n.1 else L.kindOf n.2) from rfl)
 unfold RetW at HS
 unfold RetI at HK
 generalize kindV U L n=kv at *
 generalize (if n.1≠0 then U.kindOf n.1 else L.kindOf n.2)=k at *
 generalize (if n.1≠0 then P1 else P2)=P at *
 generalize (if n.1≠0 then n.1 else n.2)=i at *
 obtain ⟨g,hg⟩:∃g,w.heap.size=g:=⟨_,rfl⟩
 have HB:=Qa hb1
 rw [hg] at hn1
 obtain ⟨n1,n2⟩:=n
 have t0:=hn1.c0
 have t1:=hn1.c1
 dsimp only at t0 t1 hw1
 clear h h1 hn1 hb1
 go_enter Tryz.func19,Tryz.ntmps19
 go_wp2_with fail
 refine HS.out.mono ?_
 rintro _ w2 ⟨rfl,hb2⟩
 have Qb:=Qa (HK.out _ hb2)
 have Qd:=Qa (bel_step HB.out hb2)
 clear HS HK hb2
 go_wp2_with fail
 refine Qb.out.mono ?_
 rintro _ w3 ⟨rfl,hb3⟩
 have Qc:=Qa (bel_step Qd.out hb3)
 clear Qb hb3
 by_cases e:k=4
 ·subst e
  go_wp2_with fail
  go_ret
  exact ⟨by rw [HV.out];rfl,Qc.out⟩
 ·have q:(k == 4)=false:=by simpa using e
  rw [Ja e] at HV
  go_wp2_with fail
  go_ret
  exact ⟨by rw [HV.out];rfl,Qc.out⟩
theorem listed_any {w:World} {V P1 P2:Nat} {u l:Int} {U L:BS} (h:Vx w V P1 P2 u l U L) (n:Nd):Calls Tryz.prog 71 #[Pq V,Nv n] w (RetI w (lstV U L n)):=by
 obtain ⟨w1,hw1,h1,hn1,hb1⟩:=box_in h n.1 n.2
 have HS:=Qa (kind_any h1 n)
 have HV:=Qa (show lstV U L n=if kindV U L n=0 then 2 else if kindV U L n=2 then 0 else 20 from rfl)
 unfold RetI at HS
 generalize lstV U L n=lv at *
 generalize kindV U L n=k at *
 obtain ⟨g,hg⟩:∃g,w.heap.size=g:=⟨_,rfl⟩
 have HB:=Qa hb1
 rw [hg] at hn1
 obtain ⟨n1,n2⟩:=n
 have t0:=hn1.c0
 have t1:=hn1.c1
 dsimp only at t0 t1 hw1
 clear h h1 hn1 hb1
 go_enter Tryz.func71,Tryz.ntmps71
 go_wp2_with fail
 refine HS.out.mono ?_
 rintro _ w2 ⟨rfl,hb2⟩
 have Qb:=Qa (bel_step HB.out hb2)
 clear HS hb2
 by_cases e:k=0
 ·subst e
  go_wp2_with fail
  go_ret
  exact ⟨by rw [HV.out];rfl,Qb.out⟩
 have q:(k == 0)=false:=by simpa using e
 rw [Ja e] at HV
 by_cases e2:k=2
 ·subst e2
  go_wp2_with fail
  go_ret
  exact ⟨by rw [HV.out];rfl,Qb.out⟩
 have q2:(k == 2)=false:=by simpa using e2
 rw [Ja e2] at HV
 go_wp2_with fail
 go_ret
 exact ⟨by rw [HV.out];rfl,Qb.out⟩
theorem below_any {w:World} {V P1 P2:Nat} {u l:Int} {U L:BS} (h:Vx w V P1 P2 u l U L) (n:Nd):Calls Tryz.prog 73 #[Pq V,Nv n] w (RetI w (belV U n)):=by
 obtain ⟨w1,hw1,h1,hn1,hb1⟩:=box_in h n.1 n.2
 have HS:=Qa (opaque_any h1 n.1)
 have HV:=Qa (show belV U n=if opq U n.1=true then 0 else n.2 from rfl)
 unfold RetW at HS
 generalize belV U n=lv at *
 generalize opq U n.1=k at *
 obtain ⟨g,hg⟩:∃g,w.heap.size=g:=⟨_,rfl⟩
 have HB:=Qa hb1
 rw [hg] at hn1
 obtain ⟨n1,n2⟩:=n
 have HN:=Qa hn1
 have t0:=hn1.c0
 dsimp only at t0 hw1
 dsimp only at HV
 clear h h1 hn1 hb1
 go_enter Tryz.func73,Tryz.ntmps73
 go_wp2_with fail
 refine HS.out.mono ?_
 rintro _ w2 ⟨rfl,hb2⟩
 have Qb:=Qa (bel_step HB.out hb2)
 have t1:=(HN.out.below hb2).c1
 dsimp only at t1
 clear HS hb2 HN t0
 cases k with
 | true =>
  go_wp2_with fail
  go_ret
  exact ⟨by rw [HV.out];rfl,Qb.out⟩
 | false =>
  go_wp2_with fail
  go_ret
  exact ⟨by rw [HV.out];rfl,Qb.out⟩
structure R2 (w:World) (g:Nat) (x y:Int):Prop where
 c0:w.cell? ⟨g,0,none⟩=some (.int .i64 x)
 c1:w.cell? ⟨g,1,none⟩=some (.int .i64 y)
 f0:w.frozen? ⟨g,0,none⟩=false
 f1:w.frozen? ⟨g,1,none⟩=false
theorem R2.new (w:World) (x y:Int):R2 (w.alloc (.cells #[.int .i64 x,.int .i64 y] 24)) w.heap.size x y:=⟨by simp,by simp,by simp,by simp⟩
theorem R2.lt {w:World} {g:Nat} {x y:Int} (h:R2 w g x y):g<w.heap.size:=World.block_lt_of_cell? _ _ h.c0
theorem R2.same {w w':World} {g:Nat} {x y:Int} (h:R2 w g x y) (e:w'.heap[g]?=w.heap[g]?):R2 w' g x y :=
 ⟨(World.cell?_of_block (a:=⟨g,0,none⟩) e).trans h.c0,(World.cell?_of_block (a:=⟨g,1,none⟩) e).trans h.c1,(World.frozen?_of_block (a:=⟨g,0,none⟩) e).trans h.f0,(World.frozen?_of_block (a:=⟨g,1,none⟩) e).trans h.f1⟩
theorem R2.below {w w':World} {g:Nat} {x y:Int} (h:R2 w g x y) (hb:Below w.heap.size w w'):R2 w' g x y:=h.same (hb.block g h.lt)
theorem R2.range {w:World} {g:Nat} {x y:Int} (h:R2 w g x y) (a b:Value):((w.setCell ⟨g,0,none⟩ a).setCell ⟨g,1,none⟩ b).rangeAt g 0 [a,b]:=by
 have ne:∀i j:Nat,i≠j→(⟨g,j,none⟩:Addr)≠⟨g,i,none⟩:=fun i j h e=>by injection e with _ e;exact h e.symm
 have c0:(w.cell? ⟨g,0,none⟩).isSome=true:=by rw [h.c0];rfl
 have c1:(w.cell? ⟨g,1,none⟩).isSome=true:=by rw [h.c1];rfl
 intro j v hv
 rw [Nat.zero_add]
 match j,hv with
 | 0,hv =>
  cases hv
  rw [World.cell?_setCell_other _ _ _ _ (ne 0 1 (by decide))]
  exact World.cell?_setCell_same' _ _ _ c0
 | 1,hv=>cases hv;exact World.cell?_setCell_same' _ _ _ (by rw [World.cell?_setCell_other _ _ _ _ (ne 1 0 (by decide))];exact c1)
 | j+2,hv=>simp at hv
theorem set2_below {w0 w:World} {g:Nat} (hb:Below w0.heap.size w0 w) (hg:w0.heap.size≤g) (a b:Value):Below w0.heap.size w0 ((w.setCell ⟨g,0,none⟩ a).setCell ⟨g,1,none⟩ b) :=
 (hb.setCell (show _≤(⟨g,0,none⟩:Addr).block from hg) a).setCell (show _≤(⟨g,1,none⟩:Addr).block from hg) b
theorem results_cell1 {fn:Func} {p:Tmp} {ty:TypeId} (h:fn.results=#[.cell p ty]) (tmps:Array Value) (w:World) (b:Nat) (cs:List Value) (d:TypeDesc)
  (hp:tmps.getD p undef=.pointer (some ⟨b,0,none⟩)) (hc:w.rangeAt b 0 cs) (hu:Tryz.prog.underlying ty=some d) (hd:d.isRow=true) (hi:(Tryz.prog.info? ty).map (·.size)=some cs.length) :
  (results fn tmps).run Tryz.prog w=.ok (.agg cs.toArray) w:=by
 rw [Array.getD_eq_getD_getElem?] at hp
 simp only [results,h]
 simp [Sem.run_bind,hp,asAddr,run_loadVar_mid w b 0 ty cs d hc hu hd hi]
theorem results_row_tmp {fn:Func} {p u:Tmp} {ty:TypeId} (h:fn.results=#[.cell p ty,.tmp u]) (tmps:Array Value) (w:World) (b:Nat) (cs:List Value) (d:TypeDesc)
  (hp:tmps.getD p undef=.pointer (some ⟨b,0,none⟩)) (hc:w.rangeAt b 0 cs) (hu:Tryz.prog.underlying ty=some d) (hd:d.isRow=true) (hi:(Tryz.prog.info? ty).map (·.size)=some cs.length) :
  (results fn tmps).run Tryz.prog w=.ok (.tuple #[.agg cs.toArray,tmps.getD u undef]) w:=by
 rw [results_cell_tmp h,hp]
 simp only [asAddr,Sem.run_pure,Result.andThen_ok,run_loadVar_mid w b 0 ty cs d hc hu hd hi]
theorem seen_any {w:World} {V P1 P2:Nat} {u l:Int} {U L:BS} (h:Vx w V P1 P2 u l U L) (p:Nd):Calls Tryz.prog 74 #[Pq V,Nv p] w (RetW w (Nv (seenV U L p))):=by
 obtain ⟨p1,p2⟩:=p
 obtain ⟨w1,hw1⟩:∃w1,(w.alloc (.cells #[.int .i64 p1,.int .i64 p2] 24)).alloc (.cells #[.int .i64 0,.int .i64 0] 24)=w1:=⟨_,rfl⟩
 have xa:Below w.heap.size w w1:=by rw [←hw1];exact bel_step (bel_alloc _ _) (bel_alloc _ _)
 have h1:=h.below xa
 have ja:Nb w1 w.heap.size (p1,p2):=by rw [←hw1];exact (Nb.new w p1 p2).below (bel_alloc _ _)
 have HB:=Qa xa
 have HV:=Qa h1
 have HN:=Qa ja
 have ya:R2 w1 (w.heap.size+1) 0 0:=by rw [←hw1];have:=R2.new (w.alloc (.cells #[.int .i64 p1,.int .i64 p2] 24)) 0 0;rwa [World.size_alloc] at this
 have HR:=Qa (fun W (hb:Below w1.heap.size w1 W)=>ya.below hb)
 have Qi:=Qa (fun W (hb:Below w1.heap.size w1 W)=>(h1.below hb).kindL p2)
 have Qj:=Qa (fun W (hb:Below w1.heap.size w1 W)=>(h1.below hb).kindU p1)
 have Qk:=Qa (fun W (hb:Below w1.heap.size w1 W)=>opaque_any (h1.below hb) p1)
 have Qc:=Qa (show ∀W,Below w1.heap.size w1 W→(W.cell? ⟨V,0,none⟩=some (Pq P1)∧W.cell? ⟨V,1,none⟩=some (Pq P2))∧W.cell? ⟨w.heap.size,0,none⟩=some (.int .i64 p1)∧W.cell? ⟨w.heap.size,1,none⟩=some (.int .i64 p2) from fun W hb=>⟨⟨(h1.below hb).c0,(h1.below hb).c1⟩,(ja.below hb).c0,(ja.below hb).c1⟩)
 unfold RetI at Qi Qj
 unfold RetW at Qk
 have Qb:=Qa (show seenV U L (p1,p2)=(if U.kindOf p1=0 then (if L.kindOf p2=4 then (0,0) else (0,p2)) else if U.kindOf p1=4 then (0,0) else if U.kindOf p1=2∧L.kindOf p2=2∧opq U p1=false then (p1,p2) else (p1,0)) from rfl)
 generalize seenV U L (p1,p2)=r at *
 generalize L.kindOf p2=lk at *
 generalize U.kindOf p1=uk at *
 generalize opq U p1=oq at *
 clear h h1 ja xa ya
 obtain ⟨⟨k0,k1⟩,t0,t1⟩:=Qc.out w1 (Below.refl _ _)
 obtain ⟨g,hg⟩:∃g,w.heap.size=g:=⟨_,rfl⟩
 rw [hg] at Qc t0 t1 HN HR
 have Ql:=Qa hg
 go_enter Tryz.func74,Tryz.ntmps74
 go_wp2_with fail
 go_region_held3 (fun w'=>w'.cell? ⟨V,1,none⟩=some (Pq P2)∧w'.cell? ⟨g,1,none⟩=some (.int .i64 p2))
  (first|exact ⟨k1,t1⟩|exact ⟨k1',t1'⟩|assumption|go_keep)
  (first|(go_at_call 61;((with_reducible refine (Qi.out _ (Below.refl w1.heap.size w1).drew).mono ?_);rintro _ w8 ⟨rfl,hb8⟩;have ma:=((Below.refl w1.heap.size w1).drew).trans hb8;have Qh:=Qa ma;have k1':=(Qc.out _ ma).1.2;have t1':=(Qc.out _ ma).2.2)))
 all_goals
  clear k0 k1 t0 t1 Qi k1' t1'
  obtain ⟨⟨k0,k1⟩,t0,t1⟩:=Qc.out _ Qh.out
  have Qo:=Qa (bel_step HB.out Qh.out)
  go_wp2_with fail
  go_region_held3 (fun w'=>w'.cell? ⟨V,0,none⟩=some (Pq P1)∧w'.cell? ⟨g,0,none⟩=some (.int .i64 p1))
   (first|exact ⟨k0,t0⟩|exact ⟨k0',t0'⟩|assumption|go_keep)
   (first|(go_at_call 61;((with_reducible refine (Qj.out _ Qh.out.drew).mono ?_);rintro _ w9 ⟨rfl,hb9⟩;have qa:=bel_step Qh.out ((Below.refl w8.heap.size w8).drew.trans hb9);have Qg:=Qa qa;have k0':=(Qc.out _ qa).1.1;have t0':=(Qc.out _ qa).2.1)))
 all_goals
  clear k0 k1 t0 t1 Qj k0' t0' hw1
  obtain ⟨⟨k0,k1⟩,t0,t1⟩:=Qc.out _ Qg.out
  have Qm:=Qa (bel_step HB.out Qg.out)
  obtain ⟨r0,r1,f0,f1⟩:=HR.out _ Qg.out
  have Qd:=Qa (fun x y=>(HR.out _ Qg.out).range x y)
  have Qe:=Qa (fun x y=>set2_below Qm.out (show w.heap.size≤g+1 by have:=Ql.out;omega) x y)
  by_cases e0:uk=0
  ·subst e0
   rw [Jb rfl] at Qb
   by_cases e4:lk=4
   ·subst e4
    rw [Jb rfl] at Qb
    go_wp2_with fail
    refine bodyPost_ret (results_cell1 rfl _ _ (g+1) _ _ rfl (Qd.out _ _) Tryz.underlying24 (by rfl) (by rfl)) rfl ?_
    exact ⟨by rw [Qb.out],Qe.out _ _⟩
   ·have q4:(lk == 4)=false:=by simpa using e4
    rw [Ja e4] at Qb
    go_wp2_with fail
    refine bodyPost_ret (results_cell1 rfl _ _ (g+1) _ _ rfl (Qd.out _ _) Tryz.underlying24 (by rfl) (by rfl)) rfl ?_
    exact ⟨by rw [Qb.out],Qe.out _ _⟩
  have q0:(uk == 0)=false:=by simpa using e0
  rw [Ja e0] at Qb
  by_cases e4:uk=4
  ·subst e4
   rw [Jb rfl] at Qb
   go_wp2_with fail
   refine bodyPost_ret (results_cell1 rfl _ _ (g+1) _ _ rfl (Qd.out _ _) Tryz.underlying24 (by rfl) (by rfl)) rfl ?_
   exact ⟨by rw [Qb.out],Qe.out _ _⟩
  have q4:(uk == 4)=false:=by simpa using e4
  rw [Ja e4] at Qb
  by_cases e2:uk=2
  ·subst e2
   by_cases l2:lk=2
   ·subst l2
    have HO:=Qa (Qk.out _ Qg.out)
    clear Qk
    go_wp2_with fail
    refine HO.out.mono ?_
    rintro _ w10 ⟨rfl,hb10⟩
    have Qf:=Qa (bel_step Qg.out hb10)
    have Qn:=Qa (bel_step HB.out Qf.out)
    clear HO hb10 k0 k1 t0 t1 r0 r1 f0 f1 Qd Qe
    obtain ⟨⟨k0,k1⟩,t0,t1⟩:=Qc.out _ Qf.out
    obtain ⟨r0,r1,f0,f1⟩:=HR.out _ Qf.out
    have Qd:=Qa (fun x y=>(HR.out _ Qf.out).range x y)
    have Qe:=Qa (fun x y=>set2_below Qn.out (show w.heap.size≤g+1 by have:=Ql.out;omega) x y)
    cases oq with
    | true =>
     rw [Ja (by decide)] at Qb
     go_wp2_with fail
     refine bodyPost_ret (results_cell1 rfl _ _ (g+1) _ _ rfl (Qd.out _ _) Tryz.underlying24 (by rfl) (by rfl)) rfl ?_
     exact ⟨by rw [Qb.out],Qe.out _ _⟩
    | false =>
     rw [Jb (by decide)] at Qb
     go_wp2_with fail
     refine bodyPost_ret (results_cell1 rfl _ _ (g+1) _ _ rfl (Qd.out _ _) Tryz.underlying24 (by rfl) (by rfl)) rfl ?_
     exact ⟨by rw [Qb.out],Qe.out _ _⟩
   ·have q2:(lk == 2)=false:=by simpa using l2
    rw [Ja (fun e=>l2 e.2.1)] at Qb
    go_wp2_with fail
    refine bodyPost_ret (results_cell1 rfl _ _ (g+1) _ _ rfl (Qd.out _ _) Tryz.underlying24 (by rfl) (by rfl)) rfl ?_
    exact ⟨by rw [Qb.out],Qe.out _ _⟩
  ·have q2:(uk == 2)=false:=by simpa using e2
   rw [Ja (fun e=>e2 e.1)] at Qb
   go_wp2_with fail
   refine bodyPost_ret (results_cell1 rfl _ _ (g+1) _ _ rfl (Qd.out _ _) Tryz.underlying24 (by rfl) (by rfl)) rfl ?_
   exact ⟨by rw [Qb.out],Qe.out _ _⟩
structure BelowOf (w:World) where
 W:World
 h:Below w.heap.size w W
instance (w:World):Inhabited (BelowOf w):=⟨⟨w,Below.refl _ _⟩⟩
theorem wp_region_below {id:Nat} {Q:Exit→Act→World→Prop} {a:Act} {w:World} {l:List Oper} (hm:Tryz.prog.follows .mixedOrders=true) (hB:Region.lexB .any l.toArray=true)
  (h:wpQuiet Tryz.prog l.toArray (fun w'=>∃p:BelowOf w,w'=p.W) (fun a'=>∀w',(∃p:BelowOf w,w'=p.W)→Q .normal a' w') l a):(Code.region id l.toArray true).wp Tryz.prog Q a w :=
 wp_region_quiet (C:=fun w'=>∃p:BelowOf w,w'=p.W) hm hB ⟨⟨w.drew,(Below.refl _ _).drew⟩,rfl⟩ (by simpa using h)
theorem calls_below {f:FuncId} {args:Array Value} {w:World} (p:BelowOf w) {v:Value}
  (h:Calls Tryz.prog f args p.W fun e w'=>e=.returned v∧Below p.W.heap.size p.W w'):Calls Tryz.prog f args p.W fun e w''=>e=.returned v∧∃q:BelowOf w,w''=q.W :=
 h.mono fun _ w' ⟨he,hb⟩=>⟨he,⟨w',bel_step p.h hb⟩,rfl⟩
theorem BelowOf.step {w0 w:World} (p:BelowOf w) (hb:Below w0.heap.size w0 w):Below w0.heap.size w0 p.W:=bel_step hb p.h
theorem new_any (P1 P2:Nat) (u l:Int) (w:World):Calls Tryz.prog 14 #[Pq P1,Pq P2,.int .i64 u,.int .i64 l] w (fun e w'=>e=.returned (Pq w.heap.size)∧w'=w.alloc (.cells #[Pq P1,Pq P2,.int .i64 u,.int .i64 l] 111)):=by
 go_enter Tryz.func14,Tryz.ntmps14
 go_wp2_with fail
 go_ret
 exact ⟨rfl,rfl⟩
theorem R2.up {w:World} {g:Nat} {x y:Int} (h:R2 w g x y) (a:Int):R2 (w.setCell ⟨g,0,none⟩ (.int .i64 a)) g a y:=by
 have ne:(⟨g,0,none⟩:Addr)≠⟨g,1,none⟩:=fun e=>by injection e with _ e;cases e
 have c0:(w.cell? ⟨g,0,none⟩).isSome=true:=by rw [h.c0];rfl
 exact ⟨World.cell?_setCell_same' _ _ _ c0,by rw [World.cell?_setCell_other _ _ _ _ ne];exact h.c1,by simp [h.f0],by simp [h.f1]⟩
theorem R2.lo {w:World} {g:Nat} {x y:Int} (h:R2 w g x y) (a:Int):R2 (w.setCell ⟨g,1,none⟩ (.int .i64 a)) g x a:=by
 have ne:(⟨g,1,none⟩:Addr)≠⟨g,0,none⟩:=fun e=>by injection e with _ e;cases e
 have c1:(w.cell? ⟨g,1,none⟩).isSome=true:=by rw [h.c1];rfl
 exact ⟨by rw [World.cell?_setCell_other _ _ _ _ ne];exact h.c0,World.cell?_setCell_same' _ _ _ c1,by simp [h.f0],by simp [h.f1]⟩
theorem heap_set {w:World} {b i k:Nat} {v:Value} (h:k≠b):(w.setCell ⟨b,i,none⟩ v).heap[k]?=w.heap[k]?:=Below.heap_setCell _ _ _ _ h
theorem set_below {w0 w:World} {g i:Nat} (hb:Below w0.heap.size w0 w) (hg:w0.heap.size≤g) (a:Value):Below w0.heap.size w0 (w.setCell ⟨g,i,none⟩ a):=hb.setCell (show _≤(⟨g,i,none⟩:Addr).block from hg) a
theorem set_size (w:World) (g i:Nat) (a:Value):(w.setCell ⟨g,i,none⟩ a).heap.size=w.heap.size:=by simp
theorem root_any {w:World} {V P1 P2:Nat} {u l:Int} {U L:BS} (h:Vx w V P1 P2 u l U L):Calls Tryz.prog 15 #[Pq V] w (RetW w (Nv (rootV U L u l))):=by
 obtain ⟨w1,hw1⟩:∃w1,(w.alloc (.cells #[.int .i64 0,.int .i64 0] 24)).alloc (.cells #[.int .i64 0,.int .i64 0] 24)=w1:=⟨_,rfl⟩
 have qa:Below w.heap.size w w1:=by rw [←hw1];exact bel_step (bel_alloc _ _) (bel_alloc _ _)
 have ja:R2 w1 w.heap.size 0 0:=by rw [←hw1];exact (R2.new w 0 0).below (bel_alloc _ _)
 have xa:R2 w1 (w.heap.size+1) 0 0:=by rw [←hw1];have:=R2.new (w.alloc (.cells #[.int .i64 0,.int .i64 0] 24)) 0 0;rwa [World.size_alloc] at this
 have ya:w1.heap.size=w.heap.size+1+1:=by rw [←hw1,World.size_alloc,World.size_alloc]
 have HB:=Qa qa
 have HZ:=Qa ya
 have Qv:=Qa (fun W (hb:Below w.heap.size w W)=>(h.below hb).kindU u)
 have Qw:=Qa (fun W (hb:Below w.heap.size w W)=>(h.below hb).kindL l)
 have Qq:=Qa (fun W x (hb:Below w.heap.size w W)=>opaque_any (h.below hb) x)
 have Qj:=Qa (show ∀W,Below w.heap.size w W→W.cell? ⟨V,0,none⟩=some (Pq P1)∧W.cell? ⟨V,1,none⟩=some (Pq P2)∧W.cell? ⟨V,2,none⟩=some (.int .i64 u)∧W.cell? ⟨V,3,none⟩=some (.int .i64 l) from fun W hb=>⟨(h.below hb).c0,(h.below hb).c1,(h.below hb).c2,(h.below hb).c3⟩)
 unfold RetI at Qw Qv
 unfold RetW at Qq
 have Qd:=Qa (show rootV U L u l=((if U.kindOf u=2 then u else 0),(if L.kindOf l=2∧opq U (if U.kindOf u=2 then u else 0)=false then l else 0)) from rfl)
 generalize rootV U L u l=r at *
 generalize L.kindOf l=lk at *
 generalize U.kindOf u=uk at *
 have Qx:=Qa ja
 have Qy:=Qa xa
 clear h qa ja xa ya
 obtain ⟨k0,k1,k2,k3⟩:=Qj.out w1 HB.out
 obtain ⟨g,hg⟩:∃g,w.heap.size=g:=⟨_,rfl⟩
 have Qk:=Qa hg
 rw [hg] at Qx Qy HZ
 go_enter Tryz.func15,Tryz.ntmps15
 go_wp2_with fail
 go_region_held3 (fun w'=>w'.cell? ⟨V,0,none⟩=some (Pq P1)∧w'.cell? ⟨V,2,none⟩=some (.int .i64 u))
  (first|exact ⟨k0,k2⟩|exact ⟨k0',k2'⟩|assumption|go_keep)
  (first|(go_at_call 61;((with_reducible refine (Qv.out _ HB.out.drew).mono ?_);rintro _ w8 ⟨rfl,hb8⟩;have Qr:=Qa ((Below.refl w1.heap.size w1).drew.trans hb8);have ma:=bel_step HB.out Qr.out;have Qs:=Qa ma;have k0':=(Qj.out _ ma).1;have k2':=(Qj.out _ ma).2.2.1)))
 all_goals
  clear k0 k1 k2 k3 k0' k2' hw1 hb8 ma Qv
  obtain ⟨k0,k1,k2,k3⟩:=Qj.out _ Qs.out
  have Ql:=Qa (Qx.out.below Qr.out)
  have Qf:=Qa (Qy.out.below Qr.out)
  obtain ⟨r0,r1,f0,f1⟩:=Qf.out
  clear Qx Qy
  have Q2:=Qa (show g+1<w8.heap.size by have h1:=HZ.out;have h2:=Qr.out.size;omega)
  clear Qr HZ
  by_cases e2:uk=2
  ·subst e2
   rw [Jb rfl] at Qd
   have HN:=Qa (show Below w.heap.size w (w8.setCell ⟨g+1,0,none⟩ (.int .i64 u)) from set_below Qs.out (by have:=Qk.out;omega) _)
   have Qn:=Qa (Qf.out.up u)
   have Qt:=Qa (show R2 (w8.setCell ⟨g+1,0,none⟩ (.int .i64 u)) g 0 0 from Ql.out.same (heap_set (by omega)))
   go_upto_region 6 with fail
   clear Qs Ql Qf Q2 k0 k1 k2 k3 r0 r1 f0 f1
   generalize w8.setCell ⟨g+1,0,none⟩ (.int .i64 u)=w9 at *
   have HO:=Qa (fun V' (hb:Below w.heap.size w V')=>Qq.out V' u hb)
   clear Qq
   generalize opq U u=oq at *
   have k1:∀p:BelowOf w9,p.W.cell? ⟨V,1,none⟩=some (Pq P2):=fun p=>(Qj.out _ (p.step HN.out)).2.1
   have k3:∀p:BelowOf w9,p.W.cell? ⟨V,3,none⟩=some (.int .i64 l):=fun p=>(Qj.out _ (p.step HN.out)).2.2.2
   have j0:∀p:BelowOf w9,p.W.cell? ⟨g+1,0,none⟩=some (.int .i64 u):=fun p=>(Qn.out.below p.h).c0
   have Qm:=Qa (fun p:BelowOf w9=>calls_below p (Qw.out _ (p.step HN.out)))
   have Qo:=Qa (fun p:BelowOf w9=>calls_below p (HO.out _ (p.step HN.out)))
   by_cases l2:lk=2
   ·subst l2
    go_upto_region 6 with fail
    refine wp_region_below (by kernel_rfl) (by kernel_rfl) ?_
    repeat (go_big_quiet_step ((first|(go_at_call 61;with_reducible exact Qm.out _)|(go_at_call 68;with_reducible exact Qo.out _))))
    refine wpQuiet_nil ?_
    rintro w11 ⟨⟨_,h11⟩,rfl⟩
    have Qe:=Qa (bel_step HN.out h11)
    have Qc:=Qa (Qn.out.below h11)
    have Qb:=Qa (Qt.out.below h11)
    clear k1 k3 j0 Qm Qo h11
    obtain ⟨k0,k1,k2,k3⟩:=Qj.out _ Qe.out
    obtain ⟨r0,r1,f0,f1⟩:=Qc.out
    cases oq with
    | true =>
     rw [Ja (by decide)] at Qd
     obtain ⟨s0,s1,v0,v1⟩:=Qb.out
     have Qg:=Qa (fun a b=>(Qb).out.range a b)
     have Qh:=Qa (fun a b=>set2_below (Qe).out (show w.heap.size≤g by have:=Qk.out;omega) a b)
     go_wp2_with fail
     refine bodyPost_ret (results_cell1 rfl _ _ g _ _ rfl (Qg.out _ _) Tryz.underlying24 (by rfl) (by rfl)) rfl ?_
     exact ⟨by rw [Qd.out],Qh.out _ _⟩
    | false =>
     rw [Jb (by decide)] at Qd
     have Qz:=Qa (show Below w.heap.size w (w11.setCell ⟨g+1,1,none⟩ (.int .i64 l)) from set_below Qe.out (by have:=Qk.out;omega) _)
     have Qi:=Qa (show R2 (w11.setCell ⟨g+1,1,none⟩ (.int .i64 l)) g 0 0 from Qb.out.same (heap_set (by omega)))
     have Qp:=Qa (Qc.out.lo l)
     go_upto_region 8 with fail
     clear k0 k1 k2 k3 r0 r1 f0 f1 Qc Qb Qe
     generalize w11.setCell ⟨g+1,1,none⟩ (.int .i64 l)=w12 at *
     obtain ⟨r0,r1,f0,f1⟩:=Qp.out
     obtain ⟨s0,s1,v0,v1⟩:=Qi.out
     have Qg:=Qa (fun a b=>(Qi).out.range a b)
     have Qh:=Qa (fun a b=>set2_below (Qz).out (show w.heap.size≤g by have:=Qk.out;omega) a b)
     go_wp2_with fail
     refine bodyPost_ret (results_cell1 rfl _ _ g _ _ rfl (Qg.out _ _) Tryz.underlying24 (by rfl) (by rfl)) rfl ?_
     exact ⟨by rw [Qd.out],Qh.out _ _⟩
   ·have ql:(lk == 2)=false:=by simpa using l2
    rw [Ja (fun e=>l2 e.1)] at Qd
    go_upto_region 6 with fail
    refine wp_region_below (by kernel_rfl) (by kernel_rfl) ?_
    repeat (go_big_quiet_step ((first|(go_at_call 61;with_reducible exact Qm.out _)|fail)))
    refine wpQuiet_nil ?_
    rintro w11 ⟨⟨_,h11⟩,rfl⟩
    have Qe:=Qa (bel_step HN.out h11)
    have Qc:=Qa (Qn.out.below h11)
    have Qb:=Qa (Qt.out.below h11)
    clear k1 k3 j0 Qm Qo h11
    obtain ⟨r0,r1,f0,f1⟩:=Qc.out
    obtain ⟨s0,s1,v0,v1⟩:=Qb.out
    have Qg:=Qa (fun a b=>(Qb).out.range a b)
    have Qh:=Qa (fun a b=>set2_below (Qe).out (show w.heap.size≤g by have:=Qk.out;omega) a b)
    go_wp2_with fail
    refine bodyPost_ret (results_cell1 rfl _ _ g _ _ rfl (Qg.out _ _) Tryz.underlying24 (by rfl) (by rfl)) rfl ?_
    exact ⟨by rw [Qd.out],Qh.out _ _⟩
  ·have q2:(uk == 2)=false:=by simpa using e2
   rw [Ja e2] at Qd
   have HN:=Qs
   have Qn:=Qf
   have Qt:=Ql
   clear Qs Ql Qf Q2 k0 k1 k2 k3 r0 r1 f0 f1
   have HO:=Qa (fun V' (hb:Below w.heap.size w V')=>Qq.out V' 0 hb)
   clear Qq
   generalize opq U 0=oq at *
   have k1:∀p:BelowOf w8,p.W.cell? ⟨V,1,none⟩=some (Pq P2):=fun p=>(Qj.out _ (p.step HN.out)).2.1
   have k3:∀p:BelowOf w8,p.W.cell? ⟨V,3,none⟩=some (.int .i64 l):=fun p=>(Qj.out _ (p.step HN.out)).2.2.2
   have j0:∀p:BelowOf w8,p.W.cell? ⟨g+1,0,none⟩=some (.int .i64 0):=fun p=>(Qn.out.below p.h).c0
   have Qm:=Qa (fun p:BelowOf w8=>calls_below p (Qw.out _ (p.step HN.out)))
   have Qo:=Qa (fun p:BelowOf w8=>calls_below p (HO.out _ (p.step HN.out)))
   by_cases l2:lk=2
   ·subst l2
    go_upto_region 6 with fail
    refine wp_region_below (by kernel_rfl) (by kernel_rfl) ?_
    repeat (go_big_quiet_step ((first|(go_at_call 61;with_reducible exact Qm.out _)|(go_at_call 68;with_reducible exact Qo.out _))))
    refine wpQuiet_nil ?_
    rintro w11 ⟨⟨_,h11⟩,rfl⟩
    have Qe:=Qa (bel_step HN.out h11)
    have Qc:=Qa (Qn.out.below h11)
    have Qb:=Qa (Qt.out.below h11)
    clear k1 k3 j0 Qm Qo h11
    obtain ⟨k0,k1,k2,k3⟩:=Qj.out _ Qe.out
    obtain ⟨r0,r1,f0,f1⟩:=Qc.out
    cases oq with
    | true =>
     rw [Ja (by decide)] at Qd
     obtain ⟨s0,s1,v0,v1⟩:=Qb.out
     have Qg:=Qa (fun a b=>(Qb).out.range a b)
     have Qh:=Qa (fun a b=>set2_below (Qe).out (show w.heap.size≤g by have:=Qk.out;omega) a b)
     go_wp2_with fail
     refine bodyPost_ret (results_cell1 rfl _ _ g _ _ rfl (Qg.out _ _) Tryz.underlying24 (by rfl) (by rfl)) rfl ?_
     exact ⟨by rw [Qd.out],Qh.out _ _⟩
    | false =>
     rw [Jb (by decide)] at Qd
     have Qz:=Qa (show Below w.heap.size w (w11.setCell ⟨g+1,1,none⟩ (.int .i64 l)) from set_below Qe.out (by have:=Qk.out;omega) _)
     have Qi:=Qa (show R2 (w11.setCell ⟨g+1,1,none⟩ (.int .i64 l)) g 0 0 from Qb.out.same (heap_set (by omega)))
     have Qp:=Qa (Qc.out.lo l)
     go_upto_region 8 with fail
     clear k0 k1 k2 k3 r0 r1 f0 f1 Qc Qb Qe
     generalize w11.setCell ⟨g+1,1,none⟩ (.int .i64 l)=w12 at *
     obtain ⟨r0,r1,f0,f1⟩:=Qp.out
     obtain ⟨s0,s1,v0,v1⟩:=Qi.out
     have Qg:=Qa (fun a b=>(Qi).out.range a b)
     have Qh:=Qa (fun a b=>set2_below (Qz).out (show w.heap.size≤g by have:=Qk.out;omega) a b)
     go_wp2_with fail
     refine bodyPost_ret (results_cell1 rfl _ _ g _ _ rfl (Qg.out _ _) Tryz.underlying24 (by rfl) (by rfl)) rfl ?_
     exact ⟨by rw [Qd.out],Qh.out _ _⟩
   ·have ql:(lk == 2)=false:=by simpa using l2
    rw [Ja (fun e=>l2 e.1)] at Qd
    go_upto_region 6 with fail
    refine wp_region_below (by kernel_rfl) (by kernel_rfl) ?_
    repeat (go_big_quiet_step ((first|(go_at_call 61;with_reducible exact Qm.out _)|fail)))
    refine wpQuiet_nil ?_
    rintro w11 ⟨⟨_,h11⟩,rfl⟩
    have Qe:=Qa (bel_step HN.out h11)
    have Qc:=Qa (Qn.out.below h11)
    have Qb:=Qa (Qt.out.below h11)
    clear k1 k3 j0 Qm Qo h11
    obtain ⟨r0,r1,f0,f1⟩:=Qc.out
    obtain ⟨s0,s1,v0,v1⟩:=Qb.out
    have Qg:=Qa (fun a b=>(Qb).out.range a b)
    have Qh:=Qa (fun a b=>set2_below (Qe).out (show w.heap.size≤g by have:=Qk.out;omega) a b)
    go_wp2_with fail
    refine bodyPost_ret (results_cell1 rfl _ _ g _ _ rfl (Qg.out _ _) Tryz.underlying24 (by rfl) (by rfl)) rfl ?_
    exact ⟨by rw [Qd.out],Qh.out _ _⟩
end mg
namespace mg
open Go.RowKit Go.Deep
open br (BS Ino Inv fresh)
open cb (BrX RetW RetI No)
open bl (Pq)
theorem Nb.same {w w':World} {g:Nat} {n:Nd} (h:Nb w g n) (e:w'.heap[g]?=w.heap[g]?):Nb w' g n :=
 ⟨(World.cell?_of_block (a:=⟨g,0,none⟩) e).trans h.c0,(World.cell?_of_block (a:=⟨g,1,none⟩) e).trans h.c1⟩
theorem run_equal24 (x y:Nd) (w:World):(Op.equalIn 10000 24 (Nv x) (Nv y)).run Tryz.prog w=.ok (decide (x=y)) w:=by
 have hS:Tryz.prog.underlying 24=some (.struct (Tryz.prog.fieldsOf 24)):=by kernel_rfl
 have hp:Tryz.prog.stoodInHeld 24=false:=by kernel_rfl
 have u3:=Tryz.underlying3
 have a3:=Tryz.isAgg3
 have z3:=Tryz.sizeOf3
 have e:decide (x=y)=(x.1 == y.1 && x.2 == y.2):=by
  obtain ⟨a,b⟩:=x
  obtain ⟨a',b'⟩:=y
  by_cases h1:a=a' <;> by_cases h2:b=b' <;> simp [h1,h2]
 rw [show (10000:Nat)=9999+1 from rfl,run_equalIn_agg w 9999 24 _ _ hS hp,e]
 simp only [Program.fieldsOf,Tryz.underlying24]
 go_simp
 by_cases h1:x.1=y.1 <;> by_cases h2:x.2=y.2 <;> simp [h1,h2]
theorem run_eql24 (x y:Nd) (w:World):(binOp .eql 24 (Nv x) (Nv y)).run Tryz.prog w=.ok (.bool (decide (x=y))) w:=by
 rw [run_eql_struct,run_equal24];rfl
theorem guard24 (op:BinOp) (a b:Operand) (xs ys:Array Value) (w:World):(eqGuard op 24 a b (.agg xs) (.agg ys)).run Tryz.prog w=.ok () w:=run_eqGuard_agg w op 24 a b xs ys (by kernel_rfl)
theorem run_neq24 (x y:Nd) (w:World):(binOp .neq 24 (Nv x) (Nv y)).run Tryz.prog w=.ok (.bool (!decide (x=y))) w:=by
 rw [run_neq_struct,run_equal24];rfl
theorem get_any {w:World} {V P1 P2:Nat} {u l:Int} {U L:BS} (h:Vx w V P1 P2 u l U L) (n:Nd) (s:ByteArray):Calls Tryz.prog 17 #[Pq V,Nv n,.string s] w (RetW w (.tuple #[Nv (getV U L n s).1,.int .i64 (getV U L n s).2])):=by
 obtain ⟨n1,n2⟩:=n
 obtain ⟨w1,hw1⟩:∃w1,(w.alloc (.cells #[.int .i64 n1,.int .i64 n2] 24)).alloc (.cells #[.int .i64 0,.int .i64 0] 24)=w1:=⟨_,rfl⟩
 have ma:Below w.heap.size w w1:=by rw [←hw1];exact bel_step (bel_alloc _ _) (bel_alloc _ _)
 have qa:Nb w1 w.heap.size (n1,n2):=by rw [←hw1];exact (Nb.new w n1 n2).below (bel_alloc _ _)
 have ja:R2 w1 (w.heap.size+1) 0 0:=by rw [←hw1];have:=R2.new (w.alloc (.cells #[.int .i64 n1,.int .i64 n2] 24)) 0 0;rwa [World.size_alloc] at this
 have xa:w1.heap.size=w.heap.size+1+1:=by rw [←hw1,World.size_alloc,World.size_alloc]
 have HB:=Qa ma
 have HZ:=Qa xa
 have HL:=Qa (listed_any (h.below ma) (n1,n2))
 have Qo:=Qa (fun W (hb:Below w.heap.size w W)=>h.below hb)
 have Qi:=Qa (fun W (hb:Below w.heap.size w W)=>(h.below hb).getU n1 s)
 have Qd:=Qa (show ∀W,Below w.heap.size w W→W.cell? ⟨V,0,none⟩=some (Pq P1)∧W.cell? ⟨V,1,none⟩=some (Pq P2) from fun W hb=>⟨(h.below hb).c0,(h.below hb).c1⟩)
 have Qb:=Qa (show getV U L (n1,n2) s=(if lstV U L (n1,n2)≠0 then ((0,0),lstV U L (n1,n2)) else if seenV U L ((U.get n1 s).1,(L.get (belV U (n1,n2)) s).1)=(0,0) then ((0,0),2) else (seenV U L ((U.get n1 s).1,(L.get (belV U (n1,n2)) s).1),0)) from rfl)
 unfold RetI at HL
 unfold RetW at Qi
 generalize getV U L (n1,n2) s=r at *
 generalize lstV U L (n1,n2)=le at *
 have Qj:=Qa qa
 have Qy:=Qa ja
 clear h ma qa ja xa
 obtain ⟨g,hg⟩:∃g,w.heap.size=g:=⟨_,rfl⟩
 have Qz:=Qa hg
 rw [hg] at Qj Qy HZ
 have t0:=Qj.out.c0
 have t1:=Qj.out.c1
 dsimp only at t0 t1
 go_enter Tryz.func17,Tryz.ntmps17
 go_wp2_with fail
 refine HL.out.mono ?_
 rintro _ w2 ⟨rfl,hb2⟩
 have Q2:=Qa (bel_step HB.out hb2)
 have Xe:=Qa (Qj.out.below hb2)
 have Qp:=Qa (Qy.out.below hb2)
 have Qg:=Qa (show g+1<w2.heap.size by have h1:=HZ.out;have h2:=hb2.size;omega)
 clear hw1 hb2 HB Qj Qy HZ t0 t1 HL
 by_cases e0:le=0
 case neg =>
  have q0:(le != 0)=true:=by simpa using e0
  rw [Jb e0] at Qb
  obtain ⟨s0,s1,v0,v1⟩:=Qp.out
  have Qq:=Qa (fun a b=>(Qp).out.range a b)
  have Qr:=Qa (fun a b=>set2_below (Q2).out (show w.heap.size≤g+1 by have:=Qz.out;omega) a b)
  go_wp2_with fail
  refine bodyPost_ret (results_row_tmp rfl _ _ (g+1) _ _ rfl (Qq.out _ _) Tryz.underlying24 (by rfl) (by rfl)) rfl ?_
  exact ⟨by rw [Qb.out];rfl,Qr.out _ _⟩
 subst e0
 rw [Ja (by decide)] at Qb
 obtain ⟨w3,hw3⟩:∃w3,w2.alloc (.cells #[.int .i64 0,.int .i64 0] 24)=w3:=⟨_,rfl⟩
 have Qs:=Qa (show Below w.heap.size w w3 by rw [←hw3];exact bel_step Q2.out (bel_alloc _ _))
 have Q3:=Qa (show Nb w3 g (n1,n2) by rw [←hw3];exact Xe.out.below (bel_alloc _ _))
 have Xf:=Qa (show R2 w3 (g+1) 0 0 by rw [←hw3];exact Qp.out.below (bel_alloc _ _))
 have Q4:=Qa (show R2 w3 w2.heap.size 0 0 by rw [←hw3];exact R2.new w2 0 0)
 obtain ⟨gp,hgp⟩:∃gp,w2.heap.size=gp:=⟨_,rfl⟩
 rw [hgp] at Qg Q4
 have Xg:=Qa (show w.heap.size≤gp by have:=Qg.out;have:=Qz.out;omega)
 clear Q2 Xe Qp
 obtain ⟨k0,k1⟩:=Qd.out _ Qs.out
 obtain ⟨t0,t1⟩:=Q3.out
 dsimp only at t0 t1
 obtain ⟨ux,hux⟩:∃ux,U.get n1 s=ux:=⟨_,rfl⟩
 rw [hux] at Qi Qb
 clear hux
 obtain ⟨x1,x2⟩:=ux
 dsimp only at Qi Qb
 go_wp2_with fail
 go_region_held3 (fun w'=>w'.cell? ⟨V,0,none⟩=some (Pq P1)∧w'.cell? ⟨g,0,none⟩=some (.int .i64 n1))
  (first|exact ⟨k0,t0⟩|exact S8|exact ST|assumption|go_keep)
  (first|(go_at_call 72;((with_reducible refine (Qi.out _ Qs.out.drew).mono ?_);rintro _ w8 ⟨rfl,hb8⟩;have Qc:=Qa ((Below.refl w3.heap.size w3).drew.trans hb8);have Qe:=Qa (bel_step Qs.out Qc.out);have Qf:=Qa (Q3.out.below Qc.out);have Qk:=Qa (Xf.out.below Qc.out);have Qh:=Qa (Q4.out.below Qc.out);have S8:=And.intro (Qd.out _ Qe.out).1 Qf.out.c0;obtain ⟨p0,p1,pf0,pf1⟩:=Qh.out;have Ql:=Qa (set_below Qe.out Xg.out (.int .i64 x1):Below w.heap.size w (w8.setCell ⟨gp,0,none⟩ (.int .i64 x1)));have Qt:=Qa (show Nb (w8.setCell ⟨gp,0,none⟩ (.int .i64 x1)) g (n1,n2) from Qf.out.same (heap_set (by have:=Qg.out;omega)));have ST:=And.intro (Qd.out _ Ql.out).1 Qt.out.c0)))
 all_goals
  have Xh:=Qa (Qh.out.up x1)
  have Xi:=Qa (show R2 (w8.setCell ⟨gp,0,none⟩ (.int .i64 x1)) (g+1) 0 0 from Qk.out.same (heap_set (by have:=Qg.out;omega)))
  clear k0 k1 t0 t1 S8 ST p0 p1 pf0 pf1 hb8 Qc Qe Qf Qk Qh Qs Q3 Xf Q4 Qi hw3 hgp
  generalize w8.setCell ⟨gp,0,none⟩ (.int .i64 x1)=w9 at *
  obtain ⟨k0,k1⟩:=Qd.out _ Ql.out
  obtain ⟨t0,t1⟩:=Qt.out
  dsimp only at t0 t1
  have Q5:=Qa (below_any (Qo.out _ Ql.out.drew) (n1,n2))
  have Qm:=Qa (fun W (hb:Below w.heap.size w W)=>(Qo.out W hb).getL (belV U (n1,n2)) s)
  unfold RetI at Q5
  unfold RetW at Qm
  generalize belV U (n1,n2)=be at *
  obtain ⟨lx,hlx⟩:∃lx,L.get be s=lx:=⟨_,rfl⟩
  rw [hlx] at Qm Qb
  clear hlx
  obtain ⟨y1,y2⟩:=lx
  dsimp only at Qm Qb
  go_wp2_with fail
  go_region_held3 (fun w'=>w'.cell? ⟨V,1,none⟩=some (Pq P2)∧w'.cell? ⟨g,0,none⟩=some (.int .i64 n1)∧w'.cell? ⟨g,1,none⟩=some (.int .i64 n2))
   (first|exact ⟨k1,t0,t1⟩|exact S8|exact S9|exact ST|assumption|go_keep)
   (first|(go_at_call 73;((with_reducible refine Q5.out.mono ?_);rintro _ w10 ⟨rfl,hb8⟩;have Qc:=Qa ((Below.refl w9.heap.size w9).drew.trans hb8);have Qe:=Qa (bel_step Ql.out Qc.out);have Qf:=Qa (Qt.out.below Qc.out);have Qk:=Qa (Xi.out.below Qc.out);have Qh:=Qa (Xh.out.below Qc.out);have S8:=And.intro (Qd.out _ Qe.out).2 (And.intro Qf.out.c0 Qf.out.c1)))|(go_at_call 72;((with_reducible refine (Qm.out _ Qe.out).mono ?_);rintro _ w11 ⟨rfl,hb9⟩;have Q6:=Qa (bel_step Qe.out hb9);have Qv:=Qa (Qf.out.below hb9);have Xj:=Qa (Qk.out.below hb9);have Q7:=Qa (Qh.out.below hb9);have S9:=And.intro (Qd.out _ Q6.out).2 (And.intro Qv.out.c0 Qv.out.c1);obtain ⟨p0,p1,pf0,pf1⟩:=Q7.out;have Qw:=Qa (set_below Q6.out Xg.out (.int .i64 y1):Below w.heap.size w (w11.setCell ⟨gp,1,none⟩ (.int .i64 y1)));have Qx:=Qa (show Nb (w11.setCell ⟨gp,1,none⟩ (.int .i64 y1)) g (n1,n2) from Qv.out.same (heap_set (by have:=Qg.out;omega)));have ST:=And.intro (Qd.out _ Qw.out).2 (And.intro Qx.out.c0 Qx.out.c1))))
 all_goals
  have Xk:=Qa (Q7.out.lo y1)
  have Q8:=Qa (show R2 (w11.setCell ⟨gp,1,none⟩ (.int .i64 y1)) (g+1) 0 0 from Xj.out.same (heap_set (by have:=Qg.out;omega)))
  clear k0 k1 t0 t1 S8 S9 ST p0 p1 pf0 pf1 hb8 hb9 Qc Qe Qf Qk Qh Q6 Qv Xj Q7 Ql Qt Xi Xh Q5 Qm Qd
  generalize w11.setCell ⟨gp,1,none⟩ (.int .i64 y1)=w12 at *
  have Q9:=Qa (seen_any (Qo.out _ Qw.out) (x1,y1))
  unfold RetW at Q9
  obtain ⟨t0,t1⟩:=Qx.out
  obtain ⟨p0,p1,pf0,pf1⟩:=Xk.out
  dsimp only at t0 t1
  have HQ:=Qa (fun W=>run_eql24 (seenV U L (x1,y1)) (0,0) W)
  generalize seenV U L (x1,y1)=sv at *
  obtain ⟨s1,s2⟩:=sv
  clear Qo
  go_wp2_with fail
  refine Q9.out.mono ?_
  rintro _ w13 ⟨rfl,hb13⟩
  have Xa:=Qa (bel_step Qw.out hb13)
  have Xb:=Qa (Q8.out.below hb13)
  have Xl:=Qa (show g+1<w13.heap.size from (Q8.out.below hb13).lt)
  clear Q9 hb13 Qw Qx Q8 Xk t0 t1 p0 p1 pf0 pf1
  obtain ⟨w14,hw14⟩:∃w14,w13.alloc (.cells #[.int .i64 s1,.int .i64 s2] 24)=w14:=⟨_,rfl⟩
  have Xc:=Qa (show Below w.heap.size w w14 by rw [←hw14];exact bel_step Xa.out (bel_alloc _ _))
  have Qn:=Qa (show R2 w14 (g+1) 0 0 by rw [←hw14];exact Xb.out.below (bel_alloc _ _))
  have Xd:=Qa (show Nb w14 w13.heap.size (s1,s2) by rw [←hw14];exact Nb.new w13 s1 s2)
  obtain ⟨t0,t1⟩:=Xd.out
  obtain ⟨p0,p1,pf0,pf1⟩:=Qn.out
  dsimp only at t0 t1
  have ya:=guard24
  have Qq:=Qa (fun a b=>(Qn).out.range a b)
  have Qr:=Qa (fun a b=>set2_below (Xc).out (show w.heap.size≤g+1 by have:=Qz.out;omega) a b)
  by_cases hz:((s1,s2):Nd)=(0,0)
  ·rw [Jb hz] at Qb
   have hq:∀W,(binOp .eql 24 (.agg #[.int .i64 s1,.int .i64 s2]) (.agg #[.int .i64 0,.int .i64 0])).run Tryz.prog W=.ok (.bool true) W:=fun W=>by rw [←decide_eq_true hz];exact HQ.out W
   clear HQ hz
   go_wp2_with fail
   refine bodyPost_ret (results_row_tmp rfl _ _ (g+1) _ _ rfl (Qq.out _ _) Tryz.underlying24 (by rfl) (by rfl)) rfl ?_
   exact ⟨by rw [Qb.out];rfl,Qr.out _ _⟩
  ·rw [Ja hz] at Qb
   have hq:∀W,(binOp .eql 24 (.agg #[.int .i64 s1,.int .i64 s2]) (.agg #[.int .i64 0,.int .i64 0])).run Tryz.prog W=.ok (.bool false) W:=fun W=>by rw [←decide_eq_false hz];exact HQ.out W
   clear HQ hz
   go_wp2_with fail
   refine bodyPost_ret (results_row_tmp rfl _ _ (g+1) _ _ rfl (Qq.out _ _) Tryz.underlying24 (by rfl) (by rfl)) rfl ?_
   exact ⟨by rw [Qb.out];rfl,Qr.out _ _⟩
end mg
namespace cb
open Go.RowKit
open br
open bl (AB Only Pq U8 WR StoC)
abbrev Res:=World→(Nat→Prop)→Prop
structure Stab (w0:World) (r:Res):Prop where
 own:∀(w:World) (O:Nat→Prop),r w O→∀b,O b→w0.heap.size≤b∧b<w.heap.size
 keep:∀(w w':World) (O:Nat→Prop),r w O→Only (fun b=>¬O b) w w'→r w' O
def NxR (w w':World) (r':Res) (O:Nat→Prop):Prop:=∃O':Nat→Prop,r' w' O'∧(∀b,O' b→O b∨w.heap.size≤b)∧Only O w w'
structure Sys (w0 w:World) (L:List Res) (X:Nat→Prop):Prop where
 bel:Below w0.heap.size w0 w
 stab:∀(i:Nat) (r:Res),L[i]?=some r→Stab w0 r
 tag:∃g:Nat→Nat,(∀(i:Nat) (r:Res),L[i]?=some r→r w (fun b=>g b=i+1))∧(∀b,w.heap.size≤b→g b=0)∧∀b,X b→b<w.heap.size∧g b=0
section
variable {w0 w w':World} {L:List Res} {X Y F:Nat→Prop} {r r':Res} {i:Nat}
theorem only_below (h:Below w.heap.size w w'):Only F w w':=⟨h.os,h.tape,h.output,h.size,fun k hk _=>h.block k hk⟩
theorem owk {G:Nat→Prop} (h:Only F w w') (hg:∀b,b<w.heap.size→F b→G b):Only G w w':=⟨h.os,h.tape,h.output,h.size,fun k hk hn=>h.block k hk fun e=>hn (hg k hk e)⟩
theorem below_only (hb:Below w0.heap.size w0 w) (h:Only F w w') (hF:∀b,F b→w0.heap.size≤b):Below w0.heap.size w0 w' :=
 hb.trans ⟨h.os,h.tape,h.output,h.size,fun k hk=>h.block k (Nat.lt_of_lt_of_le hk hb.size) fun e=>by have:=hF k e;omega⟩
theorem Sys.lt (h:Sys w0 w L X) {b:Nat} (hb:X b):b<w.heap.size:=by obtain ⟨g,_,_,h2⟩:=h.tag;exact (h2 b hb).1
theorem Sys.nil (hb:Below w0.heap.size w0 w):Sys w0 w [] (fun b=>b<w.heap.size) :=
 ⟨hb,fun _ _ h=>by simp at h,fun _=>0,fun _ _ h=>by simp at h,fun _ _=>rfl,fun b hb=>⟨hb,rfl⟩⟩
theorem Sys.sub (h:Sys w0 w L X) (hY:∀b,Y b→X b):Sys w0 w L Y:=by
 obtain ⟨g,h1,h3,h2⟩:=h.tag
 exact ⟨h.bel,h.stab,g,h1,h3,fun b hb=>h2 b (hY b hb)⟩
theorem Sys.turn (h:Sys w0 w L X) (ho:Only F w w') (hF:∀b,F b→X b∧w0.heap.size≤b) (hY:∀b,Y b→X b∨(w.heap.size≤b∧b<w'.heap.size)):Sys w0 w' L Y:=by
 obtain ⟨g,h1,h3,h2⟩:=h.tag
 refine ⟨below_only h.bel ho fun b hb=>(hF b hb).2,h.stab,g,fun i r hi=>?_,fun b hb=>h3 b (Nat.le_trans ho.size hb),fun b hb=>?_⟩
 ·refine (h.stab i r hi).keep w w' _ (h1 i r hi) (owk ho fun b hb hf e=>?_)
  have:=(h2 b (hF b hf).1).2
  omega
 ·rcases hY b hb with h4|⟨h4,h5⟩
  ·exact ⟨Nat.lt_of_lt_of_le (h2 b h4).1 ho.size,(h2 b h4).2⟩
  ·exact ⟨h5,h3 b h4⟩
theorem Sys.box (h:Sys w0 w L X) (hb:Below w.heap.size w w') (hY:∀b,Y b→X b∨(w.heap.size≤b∧b<w'.heap.size)):Sys w0 w' L Y :=
 h.turn (F:=fun _=>False) (only_below hb) (fun _ e=>e.elim) hY
theorem Sys.below (h:Sys w0 w L X) (hb:Below w.heap.size w w'):Sys w0 w' L X:=h.box hb fun _ e=>.inl e
theorem Sys.ask {p:Prop} (h:Sys w0 w L X) (hi:L[i]?=some r) (hp:∀O,r w O→p):p:=by obtain ⟨g,h1,_⟩:=h.tag;exact hp _ (h1 i r hi)
theorem set_get {i j:Nat} {s:Res} (h:(L.set i r')[j]?=some s):(j=i∧s=r')∨(j≠i∧L[j]?=some s):=by
 by_cases e:i=j
 ·subst e
  rw [List.getElem?_set] at h
  by_cases hl:i<L.length
  ·simp [hl] at h;exact .inl ⟨rfl,h.symm⟩
  ·simp [hl] at h
 ·rw [List.getElem?_set_ne e] at h
  exact .inr ⟨fun e2=>e e2.symm,h⟩
theorem sys_core {g:Nat→Nat} (h:Sys w0 w L X) (h1:∀(i:Nat) (r:Res),L[i]?=some r→r w (fun b=>g b=i+1)) (h3:∀b,w.heap.size≤b→g b=0) (h2:∀b,X b→b<w.heap.size∧g b=0)
  (hi:L[i]?=some r) (hs:Stab w0 r') (k:NxR w w' r' (fun b=>g b=i+1)):Sys w0 w' (L.set i r') X∧Same X w w':=by
 classical
 obtain ⟨O',k1,k2,k3⟩:=k
 have ma:=(h.stab i r hi).own w _ (h1 i r hi)
 have qa:=hs.own w' O' k1
 have hg:∀j s,j≠i→L[j]?=some s→∀b,(if O' b then i+1 else if b<w.heap.size∧g b≠i+1 then g b else 0)=j+1↔g b=j+1:=fun j s hj hs b=>by
  have ho:=(h.stab j s hs).own w _ (h1 j s hs) b
  by_cases e1:O' b
  ·rw [Jb e1]
   refine ⟨fun e=>absurd (Nat.succ.inj e).symm hj,fun e=>?_⟩
   have:=(ho e).2
   rcases k2 b e1 with e2|e2 <;> omega
  ·rw [Ja e1]
   by_cases e2:b<w.heap.size∧g b≠i+1
   ·rw [Jb e2]
   ·rw [Ja e2]
    refine ⟨fun e=>by omega,fun e=>?_⟩
    have:=(ho e).2
    exact absurd ⟨this,by omega⟩ e2
 refine ⟨⟨below_only h.bel k3 fun b hb=>(ma b hb).1,fun j s hj=>?_,fun b=>if O' b then i+1 else if b<w.heap.size∧g b≠i+1 then g b else 0,fun j s hj=>?_,fun b hb=>?_,fun b hb=>?_⟩,fun b hb=>?_⟩
 ·rcases set_get hj with ⟨_,rfl⟩|⟨_,e⟩
  ·exact hs
  ·exact h.stab j s e
 ·rcases set_get hj with ⟨rfl,rfl⟩|⟨ja,e⟩
  ·have:(fun b=>(if O' b then j+1 else if b<w.heap.size∧g b≠j+1 then g b else 0)=j+1)=O':=by
    funext b
    refine propext ⟨fun e=>?_,fun e=>by rw [Jb e]⟩
    by_cases e1:O' b
    ·exact e1
    ·rw [Ja e1] at e
     by_cases e2:b<w.heap.size∧g b≠j+1
     ·rw [Jb e2] at e;exact absurd e e2.2
     ·rw [Ja e2] at e;omega
   rw [this];exact k1
  ·have:(fun b=>(if O' b then i+1 else if b<w.heap.size∧g b≠i+1 then g b else 0)=j+1)=fun b=>g b=j+1:=funext fun b=>propext (hg j s ja e b)
   rw [this]
   refine (h.stab j s e).keep w w' _ (h1 j s e) (owk k3 fun b hb hO e2=>?_)
   omega
 ·have e1:¬O' b:=fun e=>by have:=(qa b e).2;omega
  show (if O' b then i+1 else if b<w.heap.size∧g b≠i+1 then g b else 0)=0
  rw [Ja e1,Ja (fun e=>by have:=k3.size;omega)]
 ·obtain ⟨h4,h5⟩:=h2 b hb
  refine ⟨Nat.lt_of_lt_of_le h4 k3.size,?_⟩
  show (if O' b then i+1 else if b<w.heap.size∧g b≠i+1 then g b else 0)=0
  have e1:¬O' b:=fun e=>by
   rcases k2 b e with e2|e2
   ·omega
   ·omega
  rw [Ja e1,Jb ⟨h4,by omega⟩,h5]
 ·obtain ⟨h4,h5⟩:=h2 b hb
  exact k3.block b h4 fun e=>by omega
theorem Sys.call {f:Nat} {args:Array Value} {v:Value} (h:Sys w0 w L X) (hi:L[i]?=some r) (hs:Stab w0 r')
  (hc:∀O,r w O→Calls Tryz.prog f args w (fun e w'=>e=.returned v∧NxR w w' r' O)) :
  Calls Tryz.prog f args w (fun e w'=>e=.returned v∧Sys w0 w' (L.set i r') X∧Same X w w'):=by
 obtain ⟨g,h1,h3,h2⟩:=h.tag
 exact (hc _ (h1 i r hi)).mono fun e w' ⟨he,hx⟩=>⟨he,sys_core h h1 h3 h2 hi hs hx⟩
theorem Sys.callE {ι:Type} {p:ι→Prop} {v:ι→Value} {q:ι→Res} {f:Nat} {args:Array Value} (h:Sys w0 w L X) (hi:L[i]?=some r) (hs:∀z,p z→Stab w0 (q z))
  (hc:∀O,r w O→(∀b,X b→b<w.heap.size∧¬O b)→Calls Tryz.prog f args w (fun e w'=>∃z,p z∧e=.returned (v z)∧NxR w w' (q z) O)) :
  Calls Tryz.prog f args w (fun e w'=>∃z,p z∧e=.returned (v z)∧Sys w0 w' (L.set i (q z)) X∧Same X w w'):=by
 obtain ⟨g,h1,h3,h2⟩:=h.tag
 refine (hc _ (h1 i r hi) fun b hb=>⟨(h2 b hb).1,fun e=>?_⟩).mono fun e w' ⟨z,hz,he,hx⟩=>⟨z,hz,he,sys_core h h1 h3 h2 hi (hs z hz) hx⟩
 have:=(h2 b hb).2
 omega
theorem Sys.weak (h:Sys w0 w L X) (hi:L[i]?=some r) (hs:Stab w0 r') (hr:∀O,r w O→r' w O):Sys w0 w (L.set i r') X:=by
 obtain ⟨g,h1,h3,h2⟩:=h.tag
 refine ⟨h.bel,fun j s hj=>?_,g,fun j s hj=>?_,h3,h2⟩
 ·rcases set_get hj with ⟨_,rfl⟩|⟨_,e⟩
  ·exact hs
  ·exact h.stab j s e
 ·rcases set_get hj with ⟨rfl,rfl⟩|⟨_,e⟩
  ·exact hr _ (h1 j r hi)
  ·exact h1 j s e
theorem Sys.add {O:Nat→Prop} (h:Sys w0 w L X) (hb:Below w.heap.size w w') (hs:Stab w0 r) (hr:r w' O) (hO:∀b,O b→w.heap.size≤b):Sys w0 w' (L++[r]) X:=by
 classical
 obtain ⟨g,h1,h3,h2⟩:=h.tag
 have hl:=(hs.own w' O hr)
 have hg:∀j b,j<L.length→((if O b then L.length+1 else if g b≤L.length then g b else 0)=j+1↔g b=j+1):=fun j b hj=>by
  by_cases e:O b
  ·rw [Jb e,h3 b (hO b e)];omega
  ·rw [Ja e]
   by_cases e2:g b≤L.length
   ·rw [Jb e2]
   ·rw [Ja e2];omega
 have ma:∀j s,(L++[r])[j]?=some s→(j<L.length∧L[j]?=some s)∨(j=L.length∧s=r):=fun j s hj=>by
  rcases Nat.lt_or_ge j L.length with h4|h4
  ·rw [List.getElem?_append_left h4] at hj;exact .inl ⟨h4,hj⟩
  ·rw [List.getElem?_append_right h4] at hj
   cases e:j - L.length with
   | zero=>rw [e] at hj;simp at hj;exact .inr ⟨by omega,hj.symm⟩
   | succ m=>rw [e] at hj;simp at hj
 refine ⟨h.bel.trans (hb.mono h.bel.size),fun j s hj=>?_,fun b=>if O b then L.length+1 else if g b≤L.length then g b else 0,fun j s hj=>?_,fun b hb'=>?_,fun b hb'=>?_⟩
 ·rcases ma j s hj with ⟨_,e⟩|⟨_,rfl⟩
  ·exact h.stab j s e
  ·exact hs
 ·rcases ma j s hj with ⟨h4,e⟩|⟨rfl,rfl⟩
  ·have:(fun b=>(if O b then L.length+1 else if g b≤L.length then g b else 0)=j+1)=fun b=>g b=j+1:=funext fun b=>propext (hg j b h4)
   rw [this]
   exact (h.stab j s e).keep w w' _ (h1 j s e) (only_below hb)
  ·have:(fun b=>(if O b then L.length+1 else if g b≤L.length then g b else 0)=L.length+1)=O:=by
    funext b
    refine propext ⟨fun e=>?_,fun e=>by rw [Jb e]⟩
    by_cases e1:O b
    ·exact e1
    ·rw [Ja e1] at e
     split at e <;> omega
   rw [this];exact hr
 ·have e1:¬O b:=fun e=>by have:=(hl b e).2;omega
  show (if O b then L.length+1 else if g b≤L.length then g b else 0)=0
  rw [Ja e1,h3 b (Nat.le_trans hb.size hb')]
  rfl
 ·obtain ⟨h4,h5⟩:=h2 b hb'
  have e1:¬O b:=fun e=>by have:=hO b e;omega
  refine ⟨Nat.lt_of_lt_of_le h4 hb.size,?_⟩
  show (if O b then L.length+1 else if g b≤L.length then g b else 0)=0
  rw [Ja e1,h5];rfl
end
def KB (w0:World) (P:Nat) (S:BS) (room T:Nat):Res:=fun w O =>
 ∃st qb qo pl tag Tq,CB w P w0.heap.size st qb qo pl tag S room (freeL S) Tq∧Tq≤199+T∧br.Good S room∧room≤65536∧HB S T∧∀b,O b↔tag b≠0
def KD (w0:World) (D RS:Nat) (S:BS) (room:Nat):Res:=fun w O=>∃pl tg,DB w D w0.heap.size RS pl tg S room∧∀b,O b↔tg b≠0
section
variable {w0 w w':World} {P D RS room T:Nat} {S S':BS} {O X:Nat→Prop} {v:Value} {e:Ending}
theorem KB.stab:Stab w0 (KB w0 P S room T) where
 own:=fun w O ⟨st,qb,qo,pl,tag,Tq,h1,_,_,_,_,h6⟩ b hb=>⟨h1.ge ((h6 b).1 hb),h1.lt ((h6 b).1 hb)⟩
 keep:=fun w w' O ⟨st,qb,qo,pl,tag,Tq,h1,h2,h3,h4,h5,h6⟩ ho =>
  ⟨st,qb,qo,pl,tag,Tq,h1.only ho (fun b hb=>Classical.byContradiction fun e=>hb ((h6 b).2 e)),h2,h3,h4,h5,h6⟩
theorem KD.stab:Stab w0 (KD w0 D RS S room) where
 own:=fun w O ⟨pl,tg,h1,h6⟩ b hb=>⟨(h1.lt ((h6 b).1 hb)).2,(h1.lt ((h6 b).1 hb)).1⟩
 keep:=fun w w' O ⟨pl,tg,h1,h6⟩ ho =>
  ⟨pl,tg,h1.keepSame (fun b hb=>ho.block b (h1.lt hb).1 fun e=>e ((h6 b).2 hb)),h6⟩
theorem KB.brx (h:KB w0 P S room T w O) (hb:Below w0.heap.size w0 w):BrX w0 w P (fun b=>b<w.heap.size∧¬O b) S room T:=by
 obtain ⟨st,qb,qo,pl,tag,Tq,h1,h2,h3,h4,h5,h6⟩:=h
 exact ⟨st,qb,qo,pl,tag,Tq,h1,h2,h3,h4,h5,hb,fun b hb=>⟨hb.1,Classical.byContradiction fun e=>hb.2 ((h6 b).2 e)⟩⟩
theorem KB.good (h:KB w0 P S room T w O):br.Good S room:=by obtain ⟨_,_,_,_,_,_,_,_,h3,_⟩:=h;exact h3
theorem KB.up {T':Nat} (hT:T≤T') (h:KB w0 P S room T w O):KB w0 P S room T' w O:=by
 obtain ⟨st,qb,qo,pl,tag,Tq,h1,h2,h3,h4,h5,h6⟩:=h
 exact ⟨st,qb,qo,pl,tag,Tq,h1,by omega,h3,h4,h5.mono (by omega),h6⟩
theorem KB.next {st qb:Nat} {qo:Option Nat} {pl:Nat→Pl} {tag:Nat→Nat} {Tq:Nat} (h2:Tq≤199+T) (h4:room≤65536) (h6:∀b,O b↔tag b≠0)
  (hx:RetG w P w0.heap.size st qb tag v S' room Tq e w') (hG:br.Good S' room) (hH:HB S' ((T:Int)+1)):e=.returned v∧NxR w w' (KB w0 P S' room (T+1)) O:=by
 obtain ⟨he,qo',pl',tag',T',hT,k1,k2⟩:=hx
 refine ⟨he,fun b=>tag' b≠0,⟨st,qb,qo',pl',tag',T',k1,by omega,hG,h4,by simpa using hH,fun b=>Iff.rfl⟩,fun b hb=>?_,owk k2.o fun b _ hb=>(h6 b).2 hb⟩
 rcases Nat.lt_or_ge b w.heap.size with h7|h7
 ·exact .inl ((h6 b).2 (by rw [←k2.tg b h7];exact hb))
 ·exact .inr h7
theorem KD.next {pl:Nat→Pd} {tg:Nat→Nat} (h6:∀b,O b↔tg b≠0) (hx:RetD w D w0.heap.size RS tg v S' room e w'):e=.returned v∧NxR w w' (KD w0 D RS S' room) O:=by
 obtain ⟨he,pl',tag',k1,k2⟩:=hx
 refine ⟨he,fun b=>tag' b≠0,⟨pl',tag',k1,fun b=>Iff.rfl⟩,fun b hb=>?_,owk k2.o fun b _ hb=>(h6 b).2 hb⟩
 rcases Nat.lt_or_ge b w.heap.size with h7|h7
 ·exact .inl ((h6 b).2 (by rw [←k2.tg b h7];exact hb))
 ·exact .inr h7
theorem kd_make (h:KD w0 D RS S room w O) (hG:br.Good S room) (hr:room≤65536) (hb:∀k,(S.ino k).holds≤900000) (d:Int) (s:ByteArray) (k:Int) (t:ByteArray) (hm:s.size≤9223372036854775807) (hmt:t.size≤9223372036854775807) :
  Calls Tryz.prog 34 #[Pq D,.int .i64 d,.string s,.int .i64 k,.string t] w (fun e w'=>e=.returned (.tuple #[.int .i64 (S.make d s k t).1.1,.int .i64 (S.make d s k t).1.2])∧NxR w w' (KD w0 D RS (S.make d s k t).2 room) O):=by
 obtain ⟨pl,tg,h1,h6⟩:=h
 exact (q_make h1 hG d s k t hm hmt).mono fun _ _ hx=>KD.next (pl:=pl) h6 hx
abbrev Wz:=Nat×Int×BS
theorem kb_write (h:KB w0 P S room T w O) (hX:∀b,X b→b<w.heap.size∧¬O b) (i off:Int) (A:Option Addr) (len dc:Nat) (f:Nat→UInt8) (hA:∀j,j<len→∃b o,A=some ⟨b,o,none⟩∧X b∧w.cell? ⟨b,o+j,none⟩=some (U8 (f j))) (hlc:len≤dc) (hdc:dc≤maxLen) :
  Calls Tryz.prog 39 #[Pq P,.int .i64 i,.int .i64 off,.slice A len dc] w (fun e w'=>∃z:Wz,WrI S room i off len f z.1 z.2.1 z.2.2∧e=.returned (.tuple #[.int .i64 (z.1:Int),.int .i64 z.2.1])∧NxR w w' (KB w0 P z.2.2 room (T+1)) O):=by
 obtain ⟨st,qb,qo,pl,tag,Tq,h1,h2,h3,h4,h5,h6⟩:=h
 refine (write_any h1 h3 h4 i off A len dc f (fun j hj=>?_) hlc hdc).mono fun _ _ ⟨p,err,S',hw,hx⟩=>⟨(p,err,S'),hw,KB.next (qo:=qo) (pl:=pl) h2 h4 h6 hx (Good_wr h3 hw) ?_⟩
 ·obtain ⟨b,o,e,hb,hc⟩:=hA j hj
  exact ⟨b,o,e,fun hn=>(hX b hb).2 ((h6 b).2 hn),(hX b hb).1,hc⟩
 ·rcases hw with ⟨_,_,_,rfl⟩|⟨_,_,_,_,rfl⟩
  ·exact h5.mono (by omega)
  ·exact (h5.wrote i off p f).mono (by omega)
theorem KB.made {P:Nat} (h:BrX w0 w' P (fun b=>b<w.heap.size) S room T):∃O,KB w0 P S room T w' O∧∀b,O b→w.heap.size≤b:=by
 obtain ⟨st,qb,qo,pl,tag,Tq,h1,h2,h3,h4,h5,_,h7⟩:=h
 exact ⟨fun b=>tag b≠0,⟨st,qb,qo,pl,tag,Tq,h1,h2,h3,h4,h5,fun _=>Iff.rfl⟩,fun b hb=>Nat.le_of_not_lt fun e=>hb (h7 b e).2⟩
end
end cb
end Go.Proofs.YtgoddboicjfkcaaGreat
