/- Part 25 of what is known of the program's functions and of the document's words: contracts, and the mathematics beneath them. -/
import Derived.Test.YtgoddboicjfkcaaGreatProg
import Derived.Test.YtgoddboicjfkcaaGreatZ24
import Derived.Laws.StructEq
import Derived.Test.YtgoddboicjfkcaaGreatZ13
import Derived.Test.YtgoddboicjfkcaaGreatZ22
import Derived.BigQuiet
import Derived.StillTailTactics
import Derived.Deep.RegionHeld3
import Derived.Deep.RegionWith
set_option linter.unusedVariables false
set_option linter.unusedSimpArgs false
set_option maxRecDepth 100000
set_option maxHeartbeats 8000000
namespace Go.Proofs.YtgoddboicjfkcaaGreat.cb
open Go.RowKit Go.Shelf
open br
open dn (En Ev beq_names Ao lget lset ldel nerr dotB Sorted getV DuX LaidX RetB ERow encL encL_length encL_one below_drewN row_new below_grown_far below_alloc info37)
open bl (AB Only StoC Pq cut cutR wr WR U8 RF)
open bl.rx (RB RS2 Kp)
theorem sl_of_owns {w:World} {lo n:Nat} {v:Value} {L:List En} (h:w.ownsRow lo 125 2 v n (encL L)) (hn:n=L.length):∃ o c,v=.slice (Ao o) n c∧dn.Sl w lo o c L:=by
 rcases h.2 with ⟨rfl,h0⟩|⟨g,cap,cur,rfl,_⟩
 ·subst h0
  exact ⟨none,0,rfl,List.eq_nil_of_length_eq_zero hn.symm,rfl⟩
 ·exact ⟨some g,cap,rfl,(ERow.of_owns h hn).2,(ERow.of_owns h hn).1⟩
theorem all_src {w:World} {D x0 lo c:Nat} {o:Option Nat} {L:List En} (h:DuX w D x0 lo o c L) (hN:L.length≤900000) :
  ∃ v' w1,(Builtin.append_ #[89,89] 89 #[.slice (some ⟨w.heap.size,0,none⟩) 0 0,.slice (Ao o) L.length c]).run Tryz.prog (w.alloc (.cells #[] 125))=.ok v' w1∧Below w.heap.size w w1∧w1.ownsRow w.heap.size 125 2 v' L.length (encL L):=by
 obtain ⟨i0,hi,hz0,hz1,hz2⟩:=info_parts info37
 have hown:=(row_new w).owns (Nat.le_refl _)
 have hb:=below_alloc w (.cells #[] 125)
 cases o with
 | none =>
  obtain ⟨rfl,rfl⟩:=h.row
  refine ⟨.slice (some ⟨w.heap.size,0,none⟩) 0 0,w.alloc (.cells #[] 125),?_,hb,hown⟩
  simp [Builtin.append_,run_underlying Tryz.underlying89,sizeOf,typeInfo,hi,Builtin.lenOf,Builtin.firstCells,storeCells]
 | some G =>
  have hr:=h.row.2.2
  have hr':=hr.of_block (hb.block G hr.lt)
  obtain ⟨v',w',h1,h2,h3,_⟩:=run_append_own (P:=Tryz.prog) (w:=w.alloc (.cells #[] 125)) w.heap.size 89 89 125 i0 _ 2 24 Tryz.underlying89 hi hz0 hz1 hz2 rfl (by decide) _ 0 (encL []) hown ⟨G,0,none⟩ L.length c (encL L) (encL_length L) (fun j u hu=>by
   have:=hr'.cells hu
   by_cases hj:j=0
   ·subst hj;simpa [Addr.add] using this
   ·simpa [Addr.add,hj] using this) (encL_one L) (by unfold maxLen;omega) (by omega) hb.size
  refine ⟨v',w',h1,below_grown_far hb h3 (Nat.le_refl _),?_⟩
  simpa [encL] using h2
def AllQ (w:World) (r:List En×Int) (e:Ending) (w':World):Prop:=∃ o c,e=.returned (.tuple #[.slice (Ao o) r.1.length c,.int .i64 r.2])∧dn.Sl w' w.heap.size o c r.1∧Below w.heap.size w w'
section
variable {w w':World} {D lo RS room:Nat} {pl:Nat→Pd} {tag:Nat→Nat} {S:BS}
theorem q_all (h:DB w D lo RS pl tag S room) (hG:br.Good S room) (i:Int):Calls Tryz.prog 82 #[Pq D,.int .i64 i] w (AllQ w (S.all i)):=by
 have HI:=Lib.hid (q_dir h i false)
 unfold RetQ at HI
 by_cases h1:S.dirE i false=0
 ·obtain ⟨I,rfl,d1,d2,hD,_⟩:=dirE_ok h1
  rw [show S.all (I:Int)=((S.ino I).dir,0) by unfold BS.all;rw [if_neg (by omega),at_nat]]
  rw [h1] at HI
  have hdx:=(h.ino I d2).d
  have hN:=hG.1.dirLen I
  obtain ⟨v1,w1,hrun,hb1,hown⟩:=all_src hdx (by omega)
  obtain ⟨o1,c1,rfl,hsl⟩:=sl_of_owns hown rfl
  have d0:=hdx.d0
  have d0':=(hdx.below (below_alloc w (.cells #[] 125))).d0
  have HRUN:=Lib.hid hrun
  have HS:=Lib.hid hsl
  have HB:=Lib.hid hb1
  generalize (S.ino I).dir=L at *
  generalize hn:L.length=n at *
  have HN:=Lib.hid hn
  clear h h1 hG hN hown hdx hrun hsl hb1 hn
  have hI0:(0:Int)≤(I:Int):=by omega
  have hI1:(I:Int)<201:=by omega
  go_enter Tryz.func82,Tryz.ntmps82
  go_wp2_with fail
  refine HI.out.mono ?_
  rintro e w2 ⟨rfl,rfl⟩
  go_wp2_with (at_builtin;refine Lib.wpList_append_run _ rfl (.tmp 13) (.tmp 21) 89 89 rfl _ _ rfl rfl _ _ HRUN.out ?_)
  go_wp2_with fail
  go_ret2
  exact ⟨o1,c1,by rw [show (L,(0:Int)).1.length=n from HN.out];rfl,HS.out,HB.out⟩
 ·have hv:S.all i=([],S.dirE i false):=by unfold BS.all;rw [if_pos h1]
  rw [hv]
  generalize S.dirE i false=x at *
  have hr:(x != 0)=true:=by simpa using h1
  clear h h1 hG hv
  go_enter Tryz.func82,Tryz.ntmps82
  go_wp2_with fail
  refine HI.out.mono ?_
  rintro e w2 ⟨rfl,rfl⟩
  go_wp2_with fail
  go_ret2
  exact ⟨none,0,rfl,⟨rfl,rfl⟩,Below.refl _ _⟩
end
end Go.Proofs.YtgoddboicjfkcaaGreat.cb
namespace Go.Proofs.YtgoddboicjfkcaaGreat.cb
open Go.RowKit
open br
open bl (AB Only StoC Pq U8 WR IsStop)
theorem DB.keepSame {w w':World} {D lo RS room:Nat} {pl:Nat→Pd} {tag:Nat→Nat} {S:BS} (h:DB w D lo RS pl tag S room) (ho:∀ b,tag b≠0→w'.heap[b]?=w.heap[b]?):DB w' D lo RS pl tag S room:=by
 have hD:=ho D (by rw [h.tD];decide)
 have hc:∀ j,w'.cell? ⟨D,j,none⟩=w.cell? ⟨D,j,none⟩:=fun j=>World.cell?_of_block (a:=⟨D,j,none⟩) hD
 have hf:∀ j,w'.frozen? ⟨D,j,none⟩=w.frozen? ⟨D,j,none⟩:=fun j=>World.frozen?_of_block (a:=⟨D,j,none⟩) hD
 refine ⟨(hc 0).trans h.c0,fun j=>(hf j).trans (h.cf j),StoC.keep h.sto (ho RS (by rw [h.tS];decide)),fun k hk=>(h.ino k hk).keep (fun j _=>hc _) hf (fun b hb=>ho b (by rw [h.tI k hk b hb];omega)),h.tD,h.tS,h.tI,h.lo,fun b hb=>?_⟩
 rcases Nat.eq_zero_or_pos (tag b) with h0|h0
 ·exact h0
 ·exfalso
  have h1:tag b≠0:=by omega
  have h2:=(h.lt h1).1
  have h3:=ho b h1
  rw [Array.getElem?_eq_none hb,Array.getElem?_eq_getElem h2] at h3
  cases h3

end Go.Proofs.YtgoddboicjfkcaaGreat.cb
namespace Go.Proofs.YtgoddboicjfkcaaGreat.mg
open Go.RowKit
open br (BS Ino Inv fresh)
open cb (BrX RetW RetI No)
open bl (Pq)
def bit (f:Int) (k:Nat):Bool:=decide (f / (2:Int) ^ k % 2=1)
theorem lsb (f:Int) (k:Nat) (hk:k<64):(BitVec.ofInt 64 f).getLsbD k=bit f k:=by
 unfold bit
 rw [BitVec.getLsbD,BitVec.toNat_ofInt,Nat.testBit_eq_decide_div_mod_eq]
 have e:(((f % ((2 ^ 64:Nat):Int)).toNat / 2 ^ k % 2:Nat):Int)=f / (2:Int) ^ k % 2:=by
  have h0:0≤f % ((2 ^ 64:Nat):Int):=Int.emod_nonneg _ (by decide)
  rw [Int.natCast_emod,Int.natCast_ediv,Int.toNat_of_nonneg h0]
  have hd:((2 ^ 64:Nat):Int)=(2:Int) ^ k*((2:Int)*(2:Int) ^ (63 - k)):=by
   rw [show (2:Int)*(2:Int) ^ (63 - k)=(2:Int) ^ (64 - k) from by rw [show 64 - k=(63 - k)+1 from by omega,Int.pow_succ,Int.mul_comm]]
   rw [← Int.pow_add,show k+(64 - k)=64 from by omega];rfl
  have hp:(0:Int)<(2:Int) ^ k:=Int.pow_pos (by decide)
  have hc:(((2 ^ k:Nat)):Int)=(2:Int) ^ k:=by simp
  rw [hc]
  have e1:f % ((2 ^ 64:Nat):Int)=f - (2:Int) ^ k*(((2:Int)*(2:Int) ^ (63 - k))*(f / ((2 ^ 64:Nat):Int))):=by
   have:=Int.emod_def f ((2 ^ 64:Nat):Int)
   rw [this]
   conv=>lhs;rw [hd]
   rw [Int.mul_assoc,← hd]
  rw [e1,Int.sub_mul_ediv_left _ _ (by omega),Int.mul_assoc]
  show (f / 2 ^ k - 2*_) % 2=_
  rw [Int.sub_mul_emod_self_left]
 have e2:((f % ((2 ^ 64:Nat):Int)).toNat / 2 ^ k % 2=1)↔(f / (2:Int) ^ k % 2=1):=by omega
 exact decide_eq_decide.2 e2
theorem small_wrap {n:Nat} (h:n≤1000):IntKind.i64.wrap (n:Int)=(n:Int):=by
 exact IntWalk.i64_in _ (by omega)
theorem and_le (f:Int) (m:Nat) (hm:m≤1000):(BitVec.ofInt 64 f &&& BitVec.ofInt 64 (m:Int)).toNat≤m:=by
 rw [BitVec.toNat_and]
 refine Nat.le_trans Nat.and_le_right ?_
 rw [BitVec.toNat_ofInt];omega
theorem bits_and (f:Int) (m:Nat) (hm:m≤1000):bits BinOp.and IntKind.i64 f (m:Int)=((BitVec.ofInt 64 f &&& BitVec.ofInt 64 (m:Int)).toNat:Int) :=
 small_wrap (Nat.le_trans (and_le f m hm) hm)
theorem and_zero (f:Int) (m:Nat):(BitVec.ofInt 64 f &&& BitVec.ofInt 64 (m:Int)).toNat=0↔∀ k,k<64→(BitVec.ofInt 64 (m:Int)).getLsbD k=true→bit f k=false:=by
 constructor
 ·intro h k hk hb
  have:(BitVec.ofInt 64 f &&& BitVec.ofInt 64 (m:Int))=0#64:=BitVec.eq_of_toNat_eq (by rw [h];rfl)
  have h2:=congrArg (fun b=>b.getLsbD k) this
  simp only [BitVec.getLsbD_and,hb,Bool.and_true] at h2
  rw [← lsb f k hk,h2];simp
 ·intro h
  have:(BitVec.ofInt 64 f &&& BitVec.ofInt 64 (m:Int))=0#64:=by
   apply BitVec.eq_of_getLsbD_eq
   intro k hk
   rw [BitVec.getLsbD_and,lsb f k hk]
   by_cases hb:(BitVec.ofInt 64 (m:Int)).getLsbD k=true
   ·rw [h k hk hb];simp
   ·simp only [Bool.not_eq_true] at hb;rw [hb];simp
  rw [this];rfl
theorem one_and {f:Int} {m k:Nat} (hm:m≤1000) (hk:k<64) (h:∀ j,j<64→((BitVec.ofInt 64 (m:Int)).getLsbD j=true↔j=k)):(bits BinOp.and IntKind.i64 f (m:Int) != 0)=bit f k:=by
 rw [bits_and f m hm,Bool.eq_iff_iff]
 have h0:=and_zero f m
 rw [bne_iff_ne]
 constructor
 ·intro e
  refine Classical.byContradiction fun e2=>e ?_
  have:(BitVec.ofInt 64 f &&& BitVec.ofInt 64 (m:Int)).toNat=0:=h0.2 fun j hj hb=>by rw [(h j hj).1 hb];simpa using e2
  rw [this];rfl
 ·intro e e2
  have e3:(BitVec.ofInt 64 f &&& BitVec.ofInt 64 (m:Int)).toNat=0:=by omega
  have:=h0.1 e3 k hk ((h k hk).2 rfl)
  rw [this] at e;cases e
theorem opq_bit (U:BS) (u:Int):(bits BinOp.and IntKind.i64 (U.marksOf u) 1 != 0)=opq U u:=by
 rw [show bits BinOp.and IntKind.i64 (U.marksOf u) 1=bits BinOp.and IntKind.i64 (U.marksOf u) ((1:Nat):Int) from rfl,one_and (m:=1) (k:=0) (by decide) (by decide) (by decide)]
 unfold bit opq
 simp
structure Vx (w:World) (V P1 P2:Nat) (u l:Int) (U L:BS):Prop where
 c0:w.cell? ⟨V,0,none⟩=some (Pq P1)
 c1:w.cell? ⟨V,1,none⟩=some (Pq P2)
 c2:w.cell? ⟨V,2,none⟩=some (.int .i64 u)
 c3:w.cell? ⟨V,3,none⟩=some (.int .i64 l)
 b1:∃ w0 room T,BrX w0 w P1 No U room T
 b2:∃ w0 room T,BrX w0 w P2 No L room T
structure Nb (w:World) (g:Nat) (n:Nd):Prop where
 c0:w.cell? ⟨g,0,none⟩=some (.int .i64 n.1)
 c1:w.cell? ⟨g,1,none⟩=some (.int .i64 n.2)
abbrev Nv (n:Nd):Value:=.agg #[.int .i64 n.1,.int .i64 n.2]
section
variable {w w':World} {V P1 P2 g:Nat} {u l:Int} {U L:BS} {n:Nd}
theorem Vx.lt (h:Vx w V P1 P2 u l U L):V<w.heap.size:=World.block_lt_of_cell? _ _ h.c0
theorem Vx.below (h:Vx w V P1 P2 u l U L) (hb:Below w.heap.size w w'):Vx w' V P1 P2 u l U L :=
 ⟨(hb.cell (p:=⟨V,0,none⟩) h.lt).trans h.c0,(hb.cell (p:=⟨V,1,none⟩) h.lt).trans h.c1,(hb.cell (p:=⟨V,2,none⟩) h.lt).trans h.c2,(hb.cell (p:=⟨V,3,none⟩) h.lt).trans h.c3,
  by obtain ⟨a,b,c,h1⟩:=h.b1;exact ⟨a,b,c,h1.below hb⟩,by obtain ⟨a,b,c,h1⟩:=h.b2;exact ⟨a,b,c,h1.below hb⟩⟩
theorem Nb.lt (h:Nb w g n):g<w.heap.size:=World.block_lt_of_cell? _ _ h.c0
theorem Nb.below (h:Nb w g n) (hb:Below w.heap.size w w'):Nb w' g n :=
 ⟨(hb.cell (p:=⟨g,0,none⟩) h.lt).trans h.c0,(hb.cell (p:=⟨g,1,none⟩) h.lt).trans h.c1⟩
theorem Nb.new (w:World) (x y:Int):Nb (w.alloc (.cells #[.int .i64 x,.int .i64 y] 24)) w.heap.size (x,y):=⟨by simp,by simp⟩
theorem bel_step {w2:World} (h:Below w.heap.size w w') (k:Below w'.heap.size w' w2):Below w.heap.size w w2:=h.trans (k.mono h.size)
theorem bel_alloc (w:World) (o:Obj):Below w.heap.size w (w.alloc o):=dn.below_alloc w o
theorem bel_drewN (w:World) (k:Nat):Below w.heap.size w (w.drewN k):=dn.below_drewN (Below.refl _ _) k
theorem Vx.kindU (h:Vx w V P1 P2 u l U L) (i:Int):Calls Tryz.prog 61 #[Pq P1,.int .i64 i] w (RetI w (U.kindOf i)):=by obtain ⟨_,_,_,k⟩:=h.b1;exact cb.x_kind k i
theorem Vx.kindL (h:Vx w V P1 P2 u l U L) (i:Int):Calls Tryz.prog 61 #[Pq P2,.int .i64 i] w (RetI w (L.kindOf i)):=by obtain ⟨_,_,_,k⟩:=h.b2;exact cb.x_kind k i
theorem Vx.getU (h:Vx w V P1 P2 u l U L) (i:Int) (s:ByteArray):Calls Tryz.prog 72 #[Pq P1,.int .i64 i,.string s] w (RetW w (.tuple #[.int .i64 (U.get i s).1,.int .i64 (U.get i s).2])):=by obtain ⟨_,_,_,k⟩:=h.b1;exact cb.x_get k i s
theorem Vx.getL (h:Vx w V P1 P2 u l U L) (i:Int) (s:ByteArray):Calls Tryz.prog 72 #[Pq P2,.int .i64 i,.string s] w (RetW w (.tuple #[.int .i64 (L.get i s).1,.int .i64 (L.get i s).2])):=by obtain ⟨_,_,_,k⟩:=h.b2;exact cb.x_get k i s
theorem Vx.marksU (h:Vx w V P1 P2 u l U L) (i:Int):Calls Tryz.prog 146 #[Pq P1,.int .i64 i] w (RetI w (U.marksOf i)):=by obtain ⟨_,_,_,k⟩:=h.b1;exact cb.x_marks k i
end
theorem opaque_any {w:World} {V P1 P2:Nat} {u l:Int} {U L:BS} (h:Vx w V P1 P2 u l U L) (x:Int):Calls Tryz.prog 68 #[Pq V,.int .i64 x] w (RetW w (.bool (opq U x))):=by
 have HM:=Lib.hid (h.marksU x)
 unfold RetI at HM
 have HQ:=Lib.hid (opq_bit U x)
 have c0:=h.c0
 generalize U.marksOf x=m at *
 generalize opq U x=q at *
 clear h
 go_enter Tryz.func68,Tryz.ntmps68
 go_wp2_with fail
 refine HM.out.mono ?_
 rintro _ w1 ⟨rfl,hb1⟩
 have HB:=Lib.hid hb1
 clear hb1 HM
 go_wp2_with fail
 go_ret
 exact ⟨by rw [← HQ.out];rfl,HB.out⟩
theorem box_in {w:World} {V P1 P2:Nat} {u l:Int} {U L:BS} (h:Vx w V P1 P2 u l U L) (n1 n2:Int):∃ w1,w.alloc (.cells #[.int .i64 n1,.int .i64 n2] 24)=w1∧Vx w1 V P1 P2 u l U L∧Nb w1 w.heap.size (n1,n2)∧Below w.heap.size w w1 :=
 ⟨_,rfl,h.below (bel_alloc _ _),Nb.new w n1 n2,bel_alloc _ _⟩
theorem shown_any {w:World} {V P1 P2:Nat} {u l:Int} {U L:BS} (h:Vx w V P1 P2 u l U L) (n:Nd):Calls Tryz.prog 77 #[Pq V,Nv n] w (RetW w (.tuple #[Pq (if n.1≠0 then P1 else P2),.int .i64 (if n.1≠0 then n.1 else n.2)])):=by
 obtain ⟨n1,n2⟩:=n
 dsimp only
 obtain ⟨w1,hw1,h1,hn1,hb1⟩:=box_in h n1 n2
 obtain ⟨g,hg⟩:∃ g,w.heap.size=g:=⟨_,rfl⟩
 have HB:=Lib.hid hb1
 rw [hg] at hn1
 have c0:=h1.c0
 have c1:=h1.c1
 have t0:=hn1.c0
 have t1:=hn1.c1
 dsimp only at t0 t1
 clear h h1 hn1 hb1
 by_cases e:n1=0
 ·subst e
  rw [if_neg (by decide),if_neg (by decide)]
  go_enter Tryz.func77,Tryz.ntmps77
  go_wp2_with fail
  go_quiet (fail)
  go_wp2_with fail
  go_ret2
  exact ⟨rfl,dn.below_drewN HB.out _⟩
 ·have q:(n1 != 0)=true:=by simpa using e
  rw [if_pos e,if_pos e]
  go_enter Tryz.func77,Tryz.ntmps77
  go_wp2_with fail
  go_quiet (fail)
  go_wp2_with fail
  go_ret2
  exact ⟨rfl,dn.below_drewN HB.out _⟩
theorem Vx.kindN {w:World} {V P1 P2:Nat} {u l:Int} {U L:BS} (h:Vx w V P1 P2 u l U L) (n:Nd):Calls Tryz.prog 61 #[Pq (if n.1≠0 then P1 else P2),.int .i64 (if n.1≠0 then n.1 else n.2)] w (RetI w (if n.1≠0 then U.kindOf n.1 else L.kindOf n.2)):=by
 by_cases e:n.1≠0
 ·rw [if_pos e,if_pos e,if_pos e];exact h.kindU _
 ·rw [if_neg e,if_neg e,if_neg e];exact h.kindL _
theorem kind_any {w:World} {V P1 P2:Nat} {u l:Int} {U L:BS} (h:Vx w V P1 P2 u l U L) (n:Nd):Calls Tryz.prog 19 #[Pq V,Nv n] w (RetI w (kindV U L n)):=by
 obtain ⟨w1,hw1,h1,hn1,hb1⟩:=box_in h n.1 n.2
 have HS:=Lib.hid (shown_any h1 n)
 have HK:=Lib.hid (fun W (hb:Below w1.heap.size w1 W)=>(h1.below hb).kindN n)
 have HV:=Lib.hid (show kindV U L n=if (if n.1≠0 then U.kindOf n.1 else L.kindOf n.2)=4 then 0 else (if n.1≠0 then U.kindOf n.1 else L.kindOf n.2) from rfl)
 unfold RetW at HS
 unfold RetI at HK
 generalize kindV U L n=kv at *
 generalize (if n.1≠0 then U.kindOf n.1 else L.kindOf n.2)=k at *
 generalize (if n.1≠0 then P1 else P2)=P at *
 generalize (if n.1≠0 then n.1 else n.2)=i at *
 obtain ⟨g,hg⟩:∃ g,w.heap.size=g:=⟨_,rfl⟩
 have HB:=Lib.hid hb1
 rw [hg] at hn1
 obtain ⟨n1,n2⟩:=n
 have t0:=hn1.c0
 have t1:=hn1.c1
 dsimp only at t0 t1 hw1
 clear h h1 hn1 hb1
 go_enter Tryz.func19,Tryz.ntmps19
 go_wp2_with fail
 refine HS.out.mono ?_
 rintro _ w2 ⟨rfl,hb2⟩
 have HK2:=Lib.hid (HK.out _ hb2)
 have HB2:=Lib.hid (bel_step HB.out hb2)
 clear HS HK hb2
 go_wp2_with fail
 refine HK2.out.mono ?_
 rintro _ w3 ⟨rfl,hb3⟩
 have HB3:=Lib.hid (bel_step HB2.out hb3)
 clear HK2 hb3
 by_cases e:k=4
 ·subst e
  go_wp2_with fail
  go_ret
  exact ⟨by rw [HV.out];rfl,HB3.out⟩
 ·have q:(k == 4)=false:=by simpa using e
  rw [if_neg e] at HV
  go_wp2_with fail
  go_ret
  exact ⟨by rw [HV.out];rfl,HB3.out⟩
theorem listed_any {w:World} {V P1 P2:Nat} {u l:Int} {U L:BS} (h:Vx w V P1 P2 u l U L) (n:Nd):Calls Tryz.prog 71 #[Pq V,Nv n] w (RetI w (lstV U L n)):=by
 obtain ⟨w1,hw1,h1,hn1,hb1⟩:=box_in h n.1 n.2
 have HS:=Lib.hid (kind_any h1 n)
 have HV:=Lib.hid (show lstV U L n=if kindV U L n=0 then 2 else if kindV U L n=2 then 0 else 20 from rfl)
 unfold RetI at HS
 generalize lstV U L n=lv at *
 generalize kindV U L n=k at *
 obtain ⟨g,hg⟩:∃ g,w.heap.size=g:=⟨_,rfl⟩
 have HB:=Lib.hid hb1
 rw [hg] at hn1
 obtain ⟨n1,n2⟩:=n
 have t0:=hn1.c0
 have t1:=hn1.c1
 dsimp only at t0 t1 hw1
 clear h h1 hn1 hb1
 go_enter Tryz.func71,Tryz.ntmps71
 go_wp2_with fail
 refine HS.out.mono ?_
 rintro _ w2 ⟨rfl,hb2⟩
 have HB2:=Lib.hid (bel_step HB.out hb2)
 clear HS hb2
 by_cases e:k=0
 ·subst e
  go_wp2_with fail
  go_ret
  exact ⟨by rw [HV.out];rfl,HB2.out⟩
 have q:(k == 0)=false:=by simpa using e
 rw [if_neg e] at HV
 by_cases e2:k=2
 ·subst e2
  go_wp2_with fail
  go_ret
  exact ⟨by rw [HV.out];rfl,HB2.out⟩
 have q2:(k == 2)=false:=by simpa using e2
 rw [if_neg e2] at HV
 go_wp2_with fail
 go_ret
 exact ⟨by rw [HV.out];rfl,HB2.out⟩
theorem below_any {w:World} {V P1 P2:Nat} {u l:Int} {U L:BS} (h:Vx w V P1 P2 u l U L) (n:Nd):Calls Tryz.prog 73 #[Pq V,Nv n] w (RetI w (belV U n)):=by
 obtain ⟨w1,hw1,h1,hn1,hb1⟩:=box_in h n.1 n.2
 have HS:=Lib.hid (opaque_any h1 n.1)
 have HV:=Lib.hid (show belV U n=if opq U n.1=true then 0 else n.2 from rfl)
 unfold RetW at HS
 generalize belV U n=lv at *
 generalize opq U n.1=k at *
 obtain ⟨g,hg⟩:∃ g,w.heap.size=g:=⟨_,rfl⟩
 have HB:=Lib.hid hb1
 rw [hg] at hn1
 obtain ⟨n1,n2⟩:=n
 have HN:=Lib.hid hn1
 have t0:=hn1.c0
 dsimp only at t0 hw1
 dsimp only at HV
 clear h h1 hn1 hb1
 go_enter Tryz.func73,Tryz.ntmps73
 go_wp2_with fail
 refine HS.out.mono ?_
 rintro _ w2 ⟨rfl,hb2⟩
 have HB2:=Lib.hid (bel_step HB.out hb2)
 have t1:=(HN.out.below hb2).c1
 dsimp only at t1
 clear HS hb2 HN t0
 cases k with
 | true =>
  go_wp2_with fail
  go_ret
  exact ⟨by rw [HV.out];rfl,HB2.out⟩
 | false =>
  go_wp2_with fail
  go_ret
  exact ⟨by rw [HV.out];rfl,HB2.out⟩
structure R2 (w:World) (g:Nat) (x y:Int):Prop where
 c0:w.cell? ⟨g,0,none⟩=some (.int .i64 x)
 c1:w.cell? ⟨g,1,none⟩=some (.int .i64 y)
 f0:w.frozen? ⟨g,0,none⟩=false
 f1:w.frozen? ⟨g,1,none⟩=false
theorem R2.new (w:World) (x y:Int):R2 (w.alloc (.cells #[.int .i64 x,.int .i64 y] 24)) w.heap.size x y:=⟨by simp,by simp,by simp,by simp⟩
theorem R2.lt {w:World} {g:Nat} {x y:Int} (h:R2 w g x y):g<w.heap.size:=World.block_lt_of_cell? _ _ h.c0
theorem R2.same {w w':World} {g:Nat} {x y:Int} (h:R2 w g x y) (e:w'.heap[g]?=w.heap[g]?):R2 w' g x y :=
 ⟨(World.cell?_of_block (a:=⟨g,0,none⟩) e).trans h.c0,(World.cell?_of_block (a:=⟨g,1,none⟩) e).trans h.c1,(World.frozen?_of_block (a:=⟨g,0,none⟩) e).trans h.f0,(World.frozen?_of_block (a:=⟨g,1,none⟩) e).trans h.f1⟩
theorem R2.below {w w':World} {g:Nat} {x y:Int} (h:R2 w g x y) (hb:Below w.heap.size w w'):R2 w' g x y:=h.same (hb.block g h.lt)
theorem R2.range {w:World} {g:Nat} {x y:Int} (h:R2 w g x y) (a b:Value):((w.setCell ⟨g,0,none⟩ a).setCell ⟨g,1,none⟩ b).rangeAt g 0 [a,b]:=by
 have ne:∀ i j:Nat,i≠j→(⟨g,j,none⟩:Addr)≠⟨g,i,none⟩:=fun i j h e=>by injection e with _ e;exact h e.symm
 have c0:(w.cell? ⟨g,0,none⟩).isSome=true:=by rw [h.c0];rfl
 have c1:(w.cell? ⟨g,1,none⟩).isSome=true:=by rw [h.c1];rfl
 intro j v hv
 rw [Nat.zero_add]
 match j,hv with
 | 0,hv =>
  cases hv
  rw [World.cell?_setCell_other _ _ _ _ (ne 0 1 (by decide))]
  exact World.cell?_setCell_same' _ _ _ c0
 | 1,hv=>cases hv;exact World.cell?_setCell_same' _ _ _ (by rw [World.cell?_setCell_other _ _ _ _ (ne 1 0 (by decide))];exact c1)
 | j+2,hv=>simp at hv
theorem set2_below {w0 w:World} {g:Nat} (hb:Below w0.heap.size w0 w) (hg:w0.heap.size≤g) (a b:Value):Below w0.heap.size w0 ((w.setCell ⟨g,0,none⟩ a).setCell ⟨g,1,none⟩ b) :=
 (hb.setCell (show _≤(⟨g,0,none⟩:Addr).block from hg) a).setCell (show _≤(⟨g,1,none⟩:Addr).block from hg) b
theorem results_cell1 {fn:Func} {p:Tmp} {ty:TypeId} (h:fn.results=#[.cell p ty]) (tmps:Array Value) (w:World) (b:Nat) (cs:List Value) (d:TypeDesc)
  (hp:tmps.getD p undef=.pointer (some ⟨b,0,none⟩)) (hc:w.rangeAt b 0 cs) (hu:Tryz.prog.underlying ty=some d) (hd:d.isRow=true) (hi:(Tryz.prog.info? ty).map (·.size)=some cs.length) :
  (results fn tmps).run Tryz.prog w=.ok (.agg cs.toArray) w:=by
 rw [Array.getD_eq_getD_getElem?] at hp
 simp only [results,h]
 simp [Sem.run_bind,hp,asAddr,run_loadVar_mid w b 0 ty cs d hc hu hd hi]
theorem results_row_tmp {fn:Func} {p u:Tmp} {ty:TypeId} (h:fn.results=#[.cell p ty,.tmp u]) (tmps:Array Value) (w:World) (b:Nat) (cs:List Value) (d:TypeDesc)
  (hp:tmps.getD p undef=.pointer (some ⟨b,0,none⟩)) (hc:w.rangeAt b 0 cs) (hu:Tryz.prog.underlying ty=some d) (hd:d.isRow=true) (hi:(Tryz.prog.info? ty).map (·.size)=some cs.length) :
  (results fn tmps).run Tryz.prog w=.ok (.tuple #[.agg cs.toArray,tmps.getD u undef]) w:=by
 rw [results_cell_tmp h,hp]
 simp only [asAddr,Sem.run_pure,Result.andThen_ok,run_loadVar_mid w b 0 ty cs d hc hu hd hi]
theorem seen_any {w:World} {V P1 P2:Nat} {u l:Int} {U L:BS} (h:Vx w V P1 P2 u l U L) (p:Nd):Calls Tryz.prog 74 #[Pq V,Nv p] w (RetW w (Nv (seenV U L p))):=by
 obtain ⟨p1,p2⟩:=p
 obtain ⟨w1,hw1⟩:∃ w1,(w.alloc (.cells #[.int .i64 p1,.int .i64 p2] 24)).alloc (.cells #[.int .i64 0,.int .i64 0] 24)=w1:=⟨_,rfl⟩
 have hb1:Below w.heap.size w w1:=by rw [← hw1];exact bel_step (bel_alloc _ _) (bel_alloc _ _)
 have h1:=h.below hb1
 have hn1:Nb w1 w.heap.size (p1,p2):=by rw [← hw1];exact (Nb.new w p1 p2).below (bel_alloc _ _)
 have HB:=Lib.hid hb1
 have HV:=Lib.hid h1
 have HN:=Lib.hid hn1
 have hr1:R2 w1 (w.heap.size+1) 0 0:=by rw [← hw1];have:=R2.new (w.alloc (.cells #[.int .i64 p1,.int .i64 p2] 24)) 0 0;rwa [World.size_alloc] at this
 have HR:=Lib.hid (fun W (hb:Below w1.heap.size w1 W)=>hr1.below hb)
 have HKL:=Lib.hid (fun W (hb:Below w1.heap.size w1 W)=>(h1.below hb).kindL p2)
 have HKU:=Lib.hid (fun W (hb:Below w1.heap.size w1 W)=>(h1.below hb).kindU p1)
 have HOP:=Lib.hid (fun W (hb:Below w1.heap.size w1 W)=>opaque_any (h1.below hb) p1)
 have HSF:=Lib.hid (show ∀ W,Below w1.heap.size w1 W→(W.cell? ⟨V,0,none⟩=some (Pq P1)∧W.cell? ⟨V,1,none⟩=some (Pq P2))∧W.cell? ⟨w.heap.size,0,none⟩=some (.int .i64 p1)∧W.cell? ⟨w.heap.size,1,none⟩=some (.int .i64 p2) from fun W hb=>⟨⟨(h1.below hb).c0,(h1.below hb).c1⟩,(hn1.below hb).c0,(hn1.below hb).c1⟩)
 unfold RetI at HKL HKU
 unfold RetW at HOP
 have HSE:=Lib.hid (show seenV U L (p1,p2)=(if U.kindOf p1=0 then (if L.kindOf p2=4 then (0,0) else (0,p2)) else if U.kindOf p1=4 then (0,0) else if U.kindOf p1=2∧L.kindOf p2=2∧opq U p1=false then (p1,p2) else (p1,0)) from rfl)
 generalize seenV U L (p1,p2)=r at *
 generalize L.kindOf p2=lk at *
 generalize U.kindOf p1=uk at *
 generalize opq U p1=oq at *
 clear h h1 hn1 hb1 hr1
 obtain ⟨⟨k0,k1⟩,t0,t1⟩:=HSF.out w1 (Below.refl _ _)
 obtain ⟨g,hg⟩:∃ g,w.heap.size=g:=⟨_,rfl⟩
 rw [hg] at HSF t0 t1 HN HR
 have HGB:=Lib.hid hg
 go_enter Tryz.func74,Tryz.ntmps74
 go_wp2_with fail
 go_region_held3 (fun w'=>w'.cell? ⟨V,1,none⟩=some (Pq P2)∧w'.cell? ⟨g,1,none⟩=some (.int .i64 p2))
  (first|exact ⟨k1,t1⟩|exact ⟨k1',t1'⟩|assumption|go_keep)
  (first|(go_at_call 61;((with_reducible refine (HKL.out _ (Below.refl w1.heap.size w1).drew).mono ?_);rintro _ w8 ⟨rfl,hb8⟩;have hb8':=((Below.refl w1.heap.size w1).drew).trans hb8;have HB8:=Lib.hid hb8';have k1':=(HSF.out _ hb8').1.2;have t1':=(HSF.out _ hb8').2.2)))
 all_goals
  clear k0 k1 t0 t1 HKL k1' t1'
  obtain ⟨⟨k0,k1⟩,t0,t1⟩:=HSF.out _ HB8.out
  have HB1:=Lib.hid (bel_step HB.out HB8.out)
  go_wp2_with fail
  go_region_held3 (fun w'=>w'.cell? ⟨V,0,none⟩=some (Pq P1)∧w'.cell? ⟨g,0,none⟩=some (.int .i64 p1))
   (first|exact ⟨k0,t0⟩|exact ⟨k0',t0'⟩|assumption|go_keep)
   (first|(go_at_call 61;((with_reducible refine (HKU.out _ HB8.out.drew).mono ?_);rintro _ w9 ⟨rfl,hb9⟩;have hb9':=bel_step HB8.out ((Below.refl w8.heap.size w8).drew.trans hb9);have HB9:=Lib.hid hb9';have k0':=(HSF.out _ hb9').1.1;have t0':=(HSF.out _ hb9').2.1)))
 all_goals
  clear k0 k1 t0 t1 HKU k0' t0' hw1
  obtain ⟨⟨k0,k1⟩,t0,t1⟩:=HSF.out _ HB9.out
  have HB2:=Lib.hid (bel_step HB.out HB9.out)
  obtain ⟨r0,r1,f0,f1⟩:=HR.out _ HB9.out
  have HRS:=Lib.hid (fun x y=>(HR.out _ HB9.out).range x y)
  have HBS:=Lib.hid (fun x y=>set2_below HB2.out (show w.heap.size≤g+1 by have:=HGB.out;omega) x y)
  by_cases e0:uk=0
  ·subst e0
   rw [if_pos rfl] at HSE
   by_cases e4:lk=4
   ·subst e4
    rw [if_pos rfl] at HSE
    go_wp2_with fail
    refine bodyPost_ret (results_cell1 rfl _ _ (g+1) _ _ rfl (HRS.out _ _) Tryz.underlying24 (by rfl) (by rfl)) rfl ?_
    exact ⟨by rw [HSE.out],HBS.out _ _⟩
   ·have q4:(lk == 4)=false:=by simpa using e4
    rw [if_neg e4] at HSE
    go_wp2_with fail
    refine bodyPost_ret (results_cell1 rfl _ _ (g+1) _ _ rfl (HRS.out _ _) Tryz.underlying24 (by rfl) (by rfl)) rfl ?_
    exact ⟨by rw [HSE.out],HBS.out _ _⟩
  have q0:(uk == 0)=false:=by simpa using e0
  rw [if_neg e0] at HSE
  by_cases e4:uk=4
  ·subst e4
   rw [if_pos rfl] at HSE
   go_wp2_with fail
   refine bodyPost_ret (results_cell1 rfl _ _ (g+1) _ _ rfl (HRS.out _ _) Tryz.underlying24 (by rfl) (by rfl)) rfl ?_
   exact ⟨by rw [HSE.out],HBS.out _ _⟩
  have q4:(uk == 4)=false:=by simpa using e4
  rw [if_neg e4] at HSE
  by_cases e2:uk=2
  ·subst e2
   by_cases l2:lk=2
   ·subst l2
    have HO:=Lib.hid (HOP.out _ HB9.out)
    clear HOP
    go_wp2_with fail
    refine HO.out.mono ?_
    rintro _ w10 ⟨rfl,hb10⟩
    have HB10:=Lib.hid (bel_step HB9.out hb10)
    have HB3:=Lib.hid (bel_step HB.out HB10.out)
    clear HO hb10 k0 k1 t0 t1 r0 r1 f0 f1 HRS HBS
    obtain ⟨⟨k0,k1⟩,t0,t1⟩:=HSF.out _ HB10.out
    obtain ⟨r0,r1,f0,f1⟩:=HR.out _ HB10.out
    have HRS:=Lib.hid (fun x y=>(HR.out _ HB10.out).range x y)
    have HBS:=Lib.hid (fun x y=>set2_below HB3.out (show w.heap.size≤g+1 by have:=HGB.out;omega) x y)
    cases oq with
    | true =>
     rw [if_neg (by decide)] at HSE
     go_wp2_with fail
     refine bodyPost_ret (results_cell1 rfl _ _ (g+1) _ _ rfl (HRS.out _ _) Tryz.underlying24 (by rfl) (by rfl)) rfl ?_
     exact ⟨by rw [HSE.out],HBS.out _ _⟩
    | false =>
     rw [if_pos (by decide)] at HSE
     go_wp2_with fail
     refine bodyPost_ret (results_cell1 rfl _ _ (g+1) _ _ rfl (HRS.out _ _) Tryz.underlying24 (by rfl) (by rfl)) rfl ?_
     exact ⟨by rw [HSE.out],HBS.out _ _⟩
   ·have q2:(lk == 2)=false:=by simpa using l2
    rw [if_neg (fun e=>l2 e.2.1)] at HSE
    go_wp2_with fail
    refine bodyPost_ret (results_cell1 rfl _ _ (g+1) _ _ rfl (HRS.out _ _) Tryz.underlying24 (by rfl) (by rfl)) rfl ?_
    exact ⟨by rw [HSE.out],HBS.out _ _⟩
  ·have q2:(uk == 2)=false:=by simpa using e2
   rw [if_neg (fun e=>e2 e.1)] at HSE
   go_wp2_with fail
   refine bodyPost_ret (results_cell1 rfl _ _ (g+1) _ _ rfl (HRS.out _ _) Tryz.underlying24 (by rfl) (by rfl)) rfl ?_
   exact ⟨by rw [HSE.out],HBS.out _ _⟩
end Go.Proofs.YtgoddboicjfkcaaGreat.mg
