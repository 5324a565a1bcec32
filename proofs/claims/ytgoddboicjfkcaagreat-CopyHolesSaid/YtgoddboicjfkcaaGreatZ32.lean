/- Part 32 of what is known of the program's functions and of the document's words: contracts, and the mathematics beneath them. -/
import Derived.Test.YtgoddboicjfkcaaGreatProg
import Derived.Test.YtgoddboicjfkcaaGreatZ31
import Derived.Test.YtgoddboicjfkcaaGreatZ29
import Derived.Test.YtgoddboicjfkcaaGreatZ30
set_option linter.unusedVariables false
set_option linter.unusedSimpArgs false
set_option maxRecDepth 100000
set_option maxHeartbeats 8000000
namespace Go.Proofs.YtgoddboicjfkcaaGreat.mg
open Go.RowKit
open br (BS Ino Inv fresh)
open cb (BrX RetW RetI No ReadI statV)
open bl (Pq Only)
structure R3 (w:World) (g:Nat) (x y z:Int):Prop where
 c0:w.cell? ⟨g,0,none⟩=some (.int .i64 x)
 c1:w.cell? ⟨g,1,none⟩=some (.int .i64 y)
 c2:w.cell? ⟨g,2,none⟩=some (.int .i64 z)
 f0:w.frozen? ⟨g,0,none⟩=false
 f1:w.frozen? ⟨g,1,none⟩=false
 f2:w.frozen? ⟨g,2,none⟩=false
theorem R3.new (w:World) (x y z:Int):R3 (w.alloc (.cells #[.int .i64 x,.int .i64 y,.int .i64 z] 47)) w.heap.size x y z:=⟨by simp,by simp,by simp,by simp,by simp,by simp⟩
theorem R3.lt {w:World} {g:Nat} {x y z:Int} (h:R3 w g x y z):g<w.heap.size:=World.block_lt_of_cell? _ _ h.c0
theorem R3.same {w w':World} {g:Nat} {x y z:Int} (h:R3 w g x y z) (e:w'.heap[g]?=w.heap[g]?):R3 w' g x y z :=
 ⟨(World.cell?_of_block (a:=⟨g,0,none⟩) e).trans h.c0,(World.cell?_of_block (a:=⟨g,1,none⟩) e).trans h.c1,(World.cell?_of_block (a:=⟨g,2,none⟩) e).trans h.c2,(World.frozen?_of_block (a:=⟨g,0,none⟩) e).trans h.f0,(World.frozen?_of_block (a:=⟨g,1,none⟩) e).trans h.f1,(World.frozen?_of_block (a:=⟨g,2,none⟩) e).trans h.f2⟩
theorem R3.below {w w':World} {g:Nat} {x y z:Int} (h:R3 w g x y z) (hb:Below w.heap.size w w'):R3 w' g x y z:=h.same (hb.block g h.lt)
theorem R3.range {w:World} {g:Nat} {x y z:Int} (h:R3 w g x y z) (a b c:Value):(((w.setCell ⟨g,0,none⟩ a).setCell ⟨g,1,none⟩ b).setCell ⟨g,2,none⟩ c).rangeAt g 0 [a,b,c]:=by
 have ne:∀ i j:Nat,i≠j→(⟨g,j,none⟩:Addr)≠⟨g,i,none⟩:=fun i j h e=>by injection e with _ e;exact h e.symm
 have c0:(w.cell? ⟨g,0,none⟩).isSome=true:=by rw [h.c0];rfl
 have c1:(w.cell? ⟨g,1,none⟩).isSome=true:=by rw [h.c1];rfl
 have c2:(w.cell? ⟨g,2,none⟩).isSome=true:=by rw [h.c2];rfl
 intro j v hv
 rw [Nat.zero_add]
 match j,hv with
 | 0,hv =>
  cases hv
  rw [World.cell?_setCell_other _ _ _ _ (ne 0 2 (by decide)),World.cell?_setCell_other _ _ _ _ (ne 0 1 (by decide))]
  exact World.cell?_setCell_same' _ _ _ c0
 | 1,hv =>
  cases hv
  rw [World.cell?_setCell_other _ _ _ _ (ne 1 2 (by decide))]
  exact World.cell?_setCell_same' _ _ _ (by rw [World.cell?_setCell_other _ _ _ _ (ne 1 0 (by decide))];exact c1)
 | 2,hv=>cases hv;exact World.cell?_setCell_same' _ _ _ (by rw [World.cell?_setCell_other _ _ _ _ (ne 2 1 (by decide)),World.cell?_setCell_other _ _ _ _ (ne 2 0 (by decide))];exact c2)
 | j+3,hv=>simp at hv
theorem R3.mid {w:World} {g:Nat} {x y z:Int} (h:R3 w g x y z) (a:Int):R3 (w.setCell ⟨g,1,none⟩ (.int .i64 a)) g x a z:=by
 have ne:∀ i j:Nat,i≠j→(⟨g,j,none⟩:Addr)≠⟨g,i,none⟩:=fun i j h e=>by injection e with _ e;exact h e.symm
 have c1:(w.cell? ⟨g,1,none⟩).isSome=true:=by rw [h.c1];rfl
 exact ⟨by rw [World.cell?_setCell_other _ _ _ _ (ne 0 1 (by decide))];exact h.c0,World.cell?_setCell_same' _ _ _ c1,by rw [World.cell?_setCell_other _ _ _ _ (ne 2 1 (by decide))];exact h.c2,by simp [h.f0],by simp [h.f1],by simp [h.f2]⟩
theorem set3_below {w0 w:World} {g:Nat} (hb:Below w0.heap.size w0 w) (hg:w0.heap.size≤g) (a b c:Value):Below w0.heap.size w0 (((w.setCell ⟨g,0,none⟩ a).setCell ⟨g,1,none⟩ b).setCell ⟨g,2,none⟩ c) :=
 set_below (set2_below hb hg a b) hg c
def statN (U L:BS) (n:Nd) (cnt:Int):(Int×Int×Int)×Int :=
 if kindV U L n=0 then ((0,0,0),2)
 else (((if n.1≠0 then U.stat n.1 else L.stat n.2).1.1,if kindV U L n=2 then cnt else ((if n.1≠0 then U.stat n.1 else L.stat n.2).1.2.1:Int),(if n.1≠0 then U.stat n.1 else L.stat n.2).1.2.2),(if n.1≠0 then U.stat n.1 else L.stat n.2).2)
abbrev Sv3 (r:(Int×Int×Int)×Int):Value:=.tuple #[.agg #[.int .i64 r.1.1,.int .i64 r.1.2.1,.int .i64 r.1.2.2],.int .i64 r.2]
def StatE (w:World) (U L:BS) (n:Nd) (e:Ending) (w':World):Prop:=∃ l:List ByteArray,AllV U L n l∧e=.returned (Sv3 (statN U L n l.length))∧Below w.heap.size w w'
theorem Vx.statB {w:World} {V P1 P2:Nat} {u l:Int} {U L:BS} (h:Vx w V P1 P2 u l U L) (n:Nd):Calls Tryz.prog 58 #[Pq (if n.1≠0 then P1 else P2),.int .i64 (if n.1≠0 then n.1 else n.2)] w (RetW w (.tuple #[.agg #[.int .i64 (if n.1≠0 then U.stat n.1 else L.stat n.2).1.1,.int .i64 ((if n.1≠0 then U.stat n.1 else L.stat n.2).1.2.1:Int),.int .i64 (if n.1≠0 then U.stat n.1 else L.stat n.2).1.2.2],.int .i64 (if n.1≠0 then U.stat n.1 else L.stat n.2).2])):=by
 by_cases e:n.1≠0
 ·simp only [if_pos e];obtain ⟨_,_,_,k⟩:=h.b1;exact cb.x_stat k _
 ·simp only [if_neg e];obtain ⟨_,_,_,k⟩:=h.b2;exact cb.x_stat k _
def targN (U L:BS) (n:Nd):ByteArray×Int:=if kindV U L n=0 then (⟨#[]⟩,2) else if n.1≠0 then U.targetOf n.1 else L.targetOf n.2
theorem Vx.targB {w:World} {V P1 P2:Nat} {u l:Int} {U L:BS} (h:Vx w V P1 P2 u l U L) (n:Nd):Calls Tryz.prog 60 #[Pq (if n.1≠0 then P1 else P2),.int .i64 (if n.1≠0 then n.1 else n.2)] w (fun e w'=>e=.returned (.tuple #[.string (if n.1≠0 then U.targetOf n.1 else L.targetOf n.2).1,.int .i64 (if n.1≠0 then U.targetOf n.1 else L.targetOf n.2).2])∧w'=w):=by
 by_cases e:n.1≠0
 ·simp only [if_pos e];obtain ⟨_,_,_,k⟩:=h.b1;exact cb.x_target k _
 ·simp only [if_neg e];obtain ⟨_,_,_,k⟩:=h.b2;exact cb.x_target k _
def readN (U L:BS) (n:Nd):BS×Int:=if n.1≠0 then (U,n.1) else (L,n.2)
theorem Vx.readB {w:World} {V P1 P2:Nat} {u l:Int} {U L:BS} (h:Vx w V P1 P2 u l U L) (n:Nd) (off sz:Int):Calls Tryz.prog 59 #[Pq (if n.1≠0 then P1 else P2),.int .i64 (if n.1≠0 then n.1 else n.2),.int .i64 off,.int .i64 sz] w (ReadI w (readN U L n).1 (readN U L n).2 off sz):=by
 unfold readN
 by_cases e:n.1≠0
 ·simp only [if_pos e];obtain ⟨_,_,_,k⟩:=h.b1;exact cb.x_read k _ _ _
 ·simp only [if_neg e];obtain ⟨_,_,_,k⟩:=h.b2;exact cb.x_read k _ _ _
theorem target_any {w:World} {V P1 P2:Nat} {u l:Int} {U L:BS} (h:Vx w V P1 P2 u l U L) (n:Nd):Calls Tryz.prog 26 #[Pq V,Nv n] w (RetW w (.tuple #[.string (targN U L n).1,.int .i64 (targN U L n).2])):=by
 obtain ⟨w1,hw1,h1,hn1,hb1⟩:=box_in h n.1 n.2
 have HK:=Lib.hid (kind_any h1 n)
 have HS:=Lib.hid (fun W (hb:Below w.heap.size w W)=>shown_any (h.below hb) n)
 have HT:=Lib.hid (fun W (hb:Below w.heap.size w W)=>(h.below hb).targB n)
 have HV:=Lib.hid (show targN U L n=if kindV U L n=0 then (⟨#[]⟩,2) else (if n.1≠0 then U.targetOf n.1 else L.targetOf n.2) from rfl)
 unfold RetI at HK
 unfold RetW at HS
 generalize targN U L n=tv at *
 generalize kindV U L n=k at *
 generalize (if n.1≠0 then U.targetOf n.1 else L.targetOf n.2)=tt at *
 generalize (if n.1≠0 then P1 else P2)=P at *
 generalize (if n.1≠0 then n.1 else n.2)=i at *
 obtain ⟨g,hg⟩:∃ g,w.heap.size=g:=⟨_,rfl⟩
 have HB:=Lib.hid hb1
 rw [hg] at hn1
 obtain ⟨n1,n2⟩:=n
 have HN:=Lib.hid hn1
 have t0:=hn1.c0
 have t1:=hn1.c1
 dsimp only at t0 t1 hw1
 clear h h1 hn1 hb1
 go_enter Tryz.func26,Tryz.ntmps26
 go_wp2_with fail
 refine HK.out.mono ?_
 rintro _ w2 ⟨rfl,hb2⟩
 have HB2:=Lib.hid (bel_step HB.out hb2)
 have HN2:=Lib.hid (HN.out.below hb2)
 clear HK hb2 HB HN t0 t1
 by_cases e0:k=0
 ·subst e0
  rw [if_pos rfl] at HV
  go_wp2_with fail
  go_ret2
  exact ⟨by rw [HV.out];rfl,HB2.out⟩
 have q0:(k == 0)=false:=by simpa using e0
 rw [if_neg e0] at HV
 obtain ⟨t0,t1⟩:=HN2.out
 dsimp only at t0 t1
 have HS2:=Lib.hid (HS.out _ HB2.out)
 clear HS
 go_wp2_with fail
 refine HS2.out.mono ?_
 rintro _ w3 ⟨rfl,hb3⟩
 have HB3:=Lib.hid (bel_step HB2.out hb3)
 have HT3:=Lib.hid (HT.out _ HB3.out)
 obtain ⟨ts,te⟩:=tt
 dsimp only at HT3
 clear HS2 hb3 HT t0 t1 HN2
 go_wp2_with fail
 refine HT3.out.mono ?_
 rintro _ w4 ⟨rfl,rfl⟩
 clear HT3
 go_wp2_with fail
 go_ret2
 exact ⟨by rw [HV.out];rfl,HB3.out⟩
theorem row_lo {w:World} {lo lo' n c:Nat} {A:Option Addr} {f:Nat→UInt8} (h:bl.Row w lo A n c f) (hl:lo'≤lo):bl.Row w lo' A n c f:=⟨h.1,h.2.imp id fun ⟨g,a,b,d⟩=>⟨g,Nat.le_trans hl a,b,d⟩⟩
def ReadN (w:World) (U L:BS) (n:Nd) (off sz:Int) (e:Ending) (w':World):Prop :=
 (kindV U L n=0∧e=.returned (.tuple #[.slice none 0 0,.int .i64 2])∧Below w.heap.size w w')∨(kindV U L n≠0∧ReadI w (readN U L n).1 (readN U L n).2 off sz e w')
theorem read_any {w:World} {V P1 P2:Nat} {u l:Int} {U L:BS} (h:Vx w V P1 P2 u l U L) (n:Nd) (off sz:Int):Calls Tryz.prog 28 #[Pq V,Nv n,.int .i64 off,.int .i64 sz] w (ReadN w U L n off sz):=by
 obtain ⟨w1,hw1,h1,hn1,hb1⟩:=box_in h n.1 n.2
 have HK:=Lib.hid (kind_any h1 n)
 have HS:=Lib.hid (fun W (hb:Below w.heap.size w W)=>shown_any (h.below hb) n)
 have HT:=Lib.hid (fun W (hb:Below w.heap.size w W)=>(h.below hb).readB n off sz)
 have HV:=Lib.hid (show ∀ A m c er W,kindV U L n≠0→Below w.heap.size w W→ReadI W (readN U L n).1 (readN U L n).2 off sz (.returned (.tuple #[.slice A m c,.int .i64 er])) W→True from fun _ _ _ _ _ _ _ _=>trivial)
 have HD0:=Lib.hid (show ∀ W,kindV U L n=0→Below w.heap.size w W→ReadN w U L n off sz (.returned (.tuple #[.slice none 0 0,.int .i64 2])) W from fun W a b=>.inl ⟨a,rfl,b⟩)
 have HD1:=Lib.hid (show ∀ W A c,kindV U L n≠0→bl.Row W w.heap.size A (cb.readI (readN U L n).1 (readN U L n).2 off sz).2 c (fun j=>((readN U L n).1.at (readN U L n).2).body.dat (off.toNat+j))→Below w.heap.size w W→ReadN w U L n off sz (.returned (.tuple #[.slice A (cb.readI (readN U L n).1 (readN U L n).2 off sz).2 c,.int .i64 (cb.readI (readN U L n).1 (readN U L n).2 off sz).1])) W from fun W A c a b d=>.inr ⟨a,A,c,rfl,b,d⟩)
 unfold RetI at HK
 unfold RetW at HS
 unfold ReadI at HT
 generalize kindV U L n=k at *
 generalize (cb.readI (readN U L n).1 (readN U L n).2 off sz).1=rn at *
 generalize (cb.readI (readN U L n).1 (readN U L n).2 off sz).2=re at *
 generalize (fun j=>((readN U L n).1.at (readN U L n).2).body.dat (off.toNat+j))=rf at *
 generalize (if n.1≠0 then P1 else P2)=P at *
 generalize (if n.1≠0 then n.1 else n.2)=i at *
 obtain ⟨g,hg⟩:∃ g,w.heap.size=g:=⟨_,rfl⟩
 have HB:=Lib.hid hb1
 have HGW:=Lib.hid hg
 rw [hg] at hn1
 obtain ⟨n1,n2⟩:=n
 have HN:=Lib.hid hn1
 have t0:=hn1.c0
 have t1:=hn1.c1
 dsimp only at t0 t1 hw1
 clear h h1 hn1 hb1 HV
 go_enter Tryz.func28,Tryz.ntmps28
 go_wp2_with fail
 refine HK.out.mono ?_
 rintro _ w2 ⟨rfl,hb2⟩
 have HB2:=Lib.hid (bel_step HB.out hb2)
 have HN2:=Lib.hid (HN.out.below hb2)
 clear HK hb2 HB HN t0 t1
 by_cases e0:k=0
 ·subst e0
  go_wp2_with fail
  go_ret2
  exact HD0.out _ (by first|rfl|trivial) HB2.out
 have q0:(k == 0)=false:=by simpa using e0
 have HE0:=Lib.hid e0
 obtain ⟨t0,t1⟩:=HN2.out
 dsimp only at t0 t1
 have HS2:=Lib.hid (HS.out _ HB2.out)
 clear HS e0
 go_wp2_with fail
 refine HS2.out.mono ?_
 rintro _ w3 ⟨rfl,hb3⟩
 have HB3:=Lib.hid (bel_step HB2.out hb3)
 have HT3:=Lib.hid (HT.out _ HB3.out)
 clear HS2 hb3 HT t0 t1 HN2
 go_wp2_with fail
 refine HT3.out.mono ?_
 rintro _ w4 ⟨A,c,rfl,hrow,hb4⟩
 have HB4:=Lib.hid (bel_step HB3.out hb4)
 have HRW:=Lib.hid (show bl.Row w4 w.heap.size A re c rf from row_lo hrow HB3.out.size)
 clear HT3 hrow hb4
 go_wp2_with fail
 go_ret2
 exact HD1.out _ _ _ HE0.out HRW.out HB4.out
theorem stat_any {w:World} {V P1 P2:Nat} {u l:Int} {U L:BS} {r1 r2:Nat} (h:Vx w V P1 P2 u l U L) (hU:Inv U r1) (hL:Inv L r2) (n:Nd):Calls Tryz.prog 23 #[Pq V,Nv n] w (StatE w U L n):=by
 obtain ⟨w1,hw1⟩:∃ w1,(w.alloc (.cells #[.int .i64 n.1,.int .i64 n.2] 24)).alloc (.cells #[.int .i64 0,.int .i64 0,.int .i64 0] 47)=w1:=⟨_,rfl⟩
 have hb1:Below w.heap.size w w1:=by rw [← hw1];exact bel_step (bel_alloc _ _) (bel_alloc _ _)
 have hn1:Nb w1 w.heap.size (n.1,n.2):=by rw [← hw1];exact (Nb.new w n.1 n.2).below (bel_alloc _ _)
 have hr1:R3 w1 (w.heap.size+1) 0 0 0:=by rw [← hw1];have:=R3.new (w.alloc (.cells #[.int .i64 n.1,.int .i64 n.2] 24)) 0 0 0;rwa [World.size_alloc] at this
 have hz1:w1.heap.size=w.heap.size+1+1:=by rw [← hw1,World.size_alloc,World.size_alloc]
 have HK:=Lib.hid (kind_any (h.below hb1) n)
 have HS:=Lib.hid (fun W (hb:Below w.heap.size w W)=>shown_any (h.below hb) n)
 have HT:=Lib.hid (fun W (hb:Below w.heap.size w W)=>(h.below hb).statB n)
 have HA:=Lib.hid (fun W (hb:Below w.heap.size w W)=>all_any (h.below hb) hU hL n)
 have HV:=Lib.hid (fun c=>show statN U L n c=(if kindV U L n=0 then ((0,0,0),2) else (((if n.1≠0 then U.stat n.1 else L.stat n.2).1.1,if kindV U L n=2 then c else ((if n.1≠0 then U.stat n.1 else L.stat n.2).1.2.1:Int),(if n.1≠0 then U.stat n.1 else L.stat n.2).1.2.2),(if n.1≠0 then U.stat n.1 else L.stat n.2).2)) from rfl)
 have HD:=Lib.hid (show ∀ W (ll:List ByteArray),AllV U L n ll→Below w.heap.size w W→StatE w U L n (.returned (Sv3 (statN U L n ll.length))) W from fun W ll a b=>⟨ll,a,rfl,b⟩)
 have HN0:=Lib.hid (show kindV U L n≠2→AllV U L n [] from fun e=>AllV.none (by rcases lst_cases U L n with ⟨a,_⟩|⟨_,a⟩|⟨a,_⟩;omega;exact absurd a e;omega))
 unfold RetI at HK
 unfold RetW at HS HT
 unfold AllE at HA
 obtain ⟨sn,hsn⟩:∃ sn,statN U L n=sn:=⟨_,rfl⟩
 rw [hsn] at HV HD
 clear hsn
 generalize kindV U L n=k at *
 generalize lstV U L n=le at *
 generalize (if n.1≠0 then U.stat n.1 else L.stat n.2)=tt at *
 obtain ⟨⟨ta,tb,tc⟩,te⟩:=tt
 dsimp only at HT HV
 generalize (if n.1≠0 then P1 else P2)=P at *
 generalize (if n.1≠0 then n.1 else n.2)=i at *
 generalize (tb:Int)=tz at *
 obtain ⟨g,hg⟩:∃ g,w.heap.size=g:=⟨_,rfl⟩
 have HB:=Lib.hid hb1
 have HGB:=Lib.hid hg
 have HZ:=Lib.hid hz1
 rw [hg] at hn1 hr1 HZ
 obtain ⟨n1,n2⟩:=n
 have HN:=Lib.hid hn1
 have HR:=Lib.hid hr1
 have t0:=hn1.c0
 have t1:=hn1.c1
 dsimp only at t0 t1 hw1
 clear h hU hL hn1 hb1 hr1 hz1
 go_enter Tryz.func23,Tryz.ntmps23
 go_wp2_with fail
 refine HK.out.mono ?_
 rintro _ w2 ⟨rfl,hb2⟩
 have HB2:=Lib.hid (bel_step HB.out hb2)
 have HN2:=Lib.hid (HN.out.below hb2)
 have HR2:=Lib.hid (HR.out.below hb2)
 have HZ2:=Lib.hid (show g+1<w2.heap.size from (HR.out.below hb2).lt)
 clear hw1 HK hb2 HB HN HR HZ t0 t1
 by_cases e0:k=0
 ·subst e0
  have HV0:=Lib.hid (HV.out 0)
  rw [if_pos rfl] at HV0
  have HNN:=Lib.hid (HN0.out (by decide))
  obtain ⟨s0,s1,s2,v0,v1,v2⟩:=HR2.out
  have HRS:=Lib.hid (fun a b c=>(HR2).out.range a b c)
  have HBS:=Lib.hid (fun a b c=>set3_below (HB2).out (show w.heap.size≤g+1 by have:=HGB.out;omega) a b c)
  clear HV HN0
  go_wp2_with fail
  refine bodyPost_ret (results_row_tmp rfl _ _ (g+1) _ _ rfl (HRS.out _ _ _) Tryz.underlying47 (by rfl) (by rfl)) rfl ?_
  have hD:=HD.out _ [] HNN.out (HBS.out (.int .i64 0) (.int .i64 0) (.int .i64 0))
  rw [show ((([]:List ByteArray).length:Nat):Int)=0 from rfl,HV0.out] at hD
  exact hD
 have q0:(k == 0)=false:=by simpa using e0
 obtain ⟨t0,t1⟩:=HN2.out
 dsimp only at t0 t1
 have HS2:=Lib.hid (HS.out _ HB2.out)
 have HE0:=Lib.hid e0
 clear HS e0
 go_wp2_with fail
 refine HS2.out.mono ?_
 rintro _ w3 ⟨rfl,hb3⟩
 have HB3:=Lib.hid (bel_step HB2.out hb3)
 have HN3:=Lib.hid (HN2.out.below hb3)
 have HR3:=Lib.hid (HR2.out.below hb3)
 have HT3:=Lib.hid (HT.out _ HB3.out)
 clear HS2 hb3 HT t0 t1 HN2 HR2 HB2
 go_wp2_with fail
 refine HT3.out.mono ?_
 rintro _ w4 ⟨rfl,hb4⟩
 have HB4:=Lib.hid (bel_step HB3.out hb4)
 have HN4:=Lib.hid (HN3.out.below hb4)
 have HR4:=Lib.hid (HR3.out.below hb4)
 clear HT3 hb4 HB3 HN3 HR3
 obtain ⟨w5,hw5⟩:∃ w5,w4.alloc (.cells #[.int .i64 ta,.int .i64 tz,.int .i64 tc] 47)=w5:=⟨_,rfl⟩
 have hb5:Below w4.heap.size w4 w5:=by rw [← hw5];exact bel_alloc _ _
 have HB5:=Lib.hid (bel_step HB4.out hb5)
 have HN5:=Lib.hid (HN4.out.below hb5)
 have HR5:=Lib.hid (HR4.out.below hb5)
 have HX5:=Lib.hid (show R3 w5 w4.heap.size ta tz tc by rw [← hw5];exact R3.new w4 ta tz tc)
 obtain ⟨gs,hgs⟩:∃ gs,w4.heap.size=gs:=⟨_,rfl⟩
 rw [hgs] at HX5
 have HGS:=Lib.hid (show g+1<gs from by have:=HR4.out.lt;omega)
 clear hb5 HB4 HN4 HR4
 by_cases e2:k=2
 ·subst e2
  obtain ⟨t0,t1⟩:=HN5.out
  dsimp only at t0 t1
  have HA5:=Lib.hid (HA.out _ HB5.out)
  clear HA
  go_wp2_with fail
  refine HA5.out.mono ?_
  rintro _ w6 ⟨A,c,ll,rfl,hal,-,hlc,hcm,-,hb6⟩
  have HAL:=Lib.hid hal
  have HB6:=Lib.hid (bel_step HB5.out hb6)
  have HR6:=Lib.hid (HR5.out.below hb6)
  have HX6:=Lib.hid (HX5.out.below hb6)
  have HVL:=Lib.hid (HV.out (ll.length:Int))
  simp only [if_true,if_pos,show ¬ ((2:Int)=0) by decide,if_false] at HVL
  have HDD:=Lib.hid (HD.out · ll hal)
  generalize ll.length=m at *
  clear hal hb6 HA5 HB5 HN5 HR5 HX5 t0 t1 hw5 hgs HV HD HN0
  obtain ⟨x0,x1,x2,y0,y1,y2⟩:=HX6.out
  have HX7:=Lib.hid (HX6.out.mid (m:Int))
  have HB7:=Lib.hid (show Below w.heap.size w (w6.setCell ⟨gs,1,none⟩ (.int .i64 (m:Int))) from set_below HB6.out (by have:=HGS.out;have:=HGB.out;omega) _)
  have HR7:=Lib.hid (show R3 (w6.setCell ⟨gs,1,none⟩ (.int .i64 (m:Int))) (g+1) 0 0 0 from HR6.out.same (heap_set (by have:=HGS.out;omega)))
  go_upto_region 9 with fail
  clear HX6 HB6 HR6 x0 x1 x2 y0 y1 y2
  generalize w6.setCell ⟨gs,1,none⟩ (.int .i64 (m:Int))=w7 at *
  obtain ⟨x0,x1,x2,y0,y1,y2⟩:=HX7.out
  obtain ⟨s0,s1,s2,v0,v1,v2⟩:=HR7.out
  have HRS:=Lib.hid (fun a b c=>(HR7).out.range a b c)
  have HBS:=Lib.hid (fun a b c=>set3_below (HB7).out (show w.heap.size≤g+1 by have:=HGB.out;omega) a b c)
  go_wp2_with fail
  refine bodyPost_ret (results_row_tmp rfl _ _ (g+1) _ _ rfl (HRS.out _ _ _) Tryz.underlying47 (by rfl) (by rfl)) rfl ?_
  have hD:=HDD.out _ (HBS.out (.int .i64 ta) (.int .i64 (m:Int)) (.int .i64 tc))
  rw [HVL.out] at hD
  exact hD
 ·have q2:(k == 2)=false:=by simpa using e2
  have HVL:=Lib.hid (HV.out 0)
  rw [if_neg HE0.out,if_neg e2] at HVL
  have HNN:=Lib.hid (HN0.out e2)
  obtain ⟨x0,x1,x2,y0,y1,y2⟩:=HX5.out
  obtain ⟨s0,s1,s2,v0,v1,v2⟩:=HR5.out
  have HRS:=Lib.hid (fun a b c=>(HR5).out.range a b c)
  have HBS:=Lib.hid (fun a b c=>set3_below (HB5).out (show w.heap.size≤g+1 by have:=HGB.out;omega) a b c)
  clear HA HV HN0
  go_wp2_with fail
  refine bodyPost_ret (results_row_tmp rfl _ _ (g+1) _ _ rfl (HRS.out _ _ _) Tryz.underlying47 (by rfl) (by rfl)) rfl ?_
  have hD:=HD.out _ [] HNN.out (HBS.out (.int .i64 ta) (.int .i64 tz) (.int .i64 tc))
  rw [show ((([]:List ByteArray).length:Nat):Int)=0 from rfl,HVL.out] at hD
  exact hD
end Go.Proofs.YtgoddboicjfkcaaGreat.mg
namespace Go.Proofs.YtgoddboicjfkcaaGreat.cu
open Go.RowKit Go.Deep
open br (BS Ino Inv at_nat abE)
open cb (BrX RetW RetI No KB KD Res HB Stab NxR Same WrI Wz ReadI)
open bl (Pq Only U8 AB wr)
open mg (Vx Nd Nv Nb R2 bel_step bel_alloc kindV getV rootV set_below set2_below heap_set readN)
theorem row_br {w:World} {lo n c:Nat} {A:Option Addr} {f:Nat→UInt8} (h:bl.Row w lo A n c f):n≤c∧BR w (fun b=>lo≤b∧b<w.heap.size) A n f:=by
 obtain ⟨rfl,h⟩:=h
 refine ⟨Nat.le_refl _,fun j hj=>?_⟩
 rcases h with ⟨_,e⟩|⟨g,h1,rfl,h2⟩
 ·omega
 ·have hc:w.cell? ⟨g,0+j,none⟩=some (U8 (f j)):=by
   rw [Nat.zero_add,Lib.cell_of_heap h2 j]
   unfold bl.rowF
   simp [hj]
  exact ⟨g,0,rfl,⟨h1,World.block_lt_of_cell? _ _ hc⟩,hc⟩
theorem file_read {w:World} {V P1 P2:Nat} {u l:Int} {S L:BS} (h:Vx w V P1 P2 u l S L) {y:Nat} (h1:1≤y) (h2:y≤200) (hk:(L.ino y).kind=1) (ok:(L.ino y).body.Ok) {m:Nat} (hm:16*m<(L.ino y).body.size) :
  Calls Tryz.prog 28 #[Pq V,Nv (0,(y:Int)),.int .i64 ((16*m:Nat):Int),.int .i64 16] w (fun e w'=>∃ A c,e=.returned (.tuple #[.slice A (chL (L.ino y).body m) c,.int .i64 0])∧chL (L.ino y).body m≤c∧c≤maxLen∧BR w' (fun b=>w.heap.size≤b∧b<w'.heap.size) A (chL (L.ino y).body m) (chF (L.ino y).body m)∧Below w.heap.size w w'):=by
 refine (mg.read_any h (0,(y:Int)) ((16*m:Nat):Int) 16).mono ?_
 have hky:L.kindOf (y:Int)=1:=by rw [cb.kind_of h1 h2];exact hk
 have hkv:kindV S L (0,(y:Int))=1:=by unfold mg.kindV;simp [hky]
 rintro e w' (⟨h0,_⟩|⟨_,A,c,rfl,hrow,hb⟩)
 ·rw [hkv] at h0;cases h0
 have e1:readN S L (0,(y:Int))=(L,(y:Int)):=by unfold mg.readN;simp
 rw [e1] at hrow ⊢
 dsimp only at hrow ⊢
 have hr:cb.readI L (y:Int) ((16*m:Nat):Int) 16=(0,chL (L.ino y).body m):=by
  unfold cb.readI
  rw [cb.fileE_of h1 h2 hk,if_neg (fun e=>e rfl),at_nat]
  unfold bl.readR chL
  rw [if_neg (by omega),Int.toNat_natCast];rfl
 rw [hr] at hrow ⊢
 dsimp only at hrow ⊢
 rw [at_nat,Int.toNat_natCast] at hrow
 have hc16:chL (L.ino y).body m≤16:=by unfold chL;omega
 exact ⟨A,c,rfl,(row_br hrow).1,by rw [← hrow.1];unfold maxLen;omega,(row_br hrow).2,hb⟩
def FillE (w0 w:World) (c:Cp) (S L:BS) (I r T:Nat) (M:List Res) (X:Nat→Prop) (Good:AB→Prop) (Bad:Prop) (e:Ending) (w':World):Prop :=
 ∃ (er:Int) (b:AB),e=.returned (.int .i64 er)∧((er=0∧Good b)∨(er=28∧Bad))∧Zs w0 w' c (setB S I b) L r T M X∧Same X w w'
theorem chunk_any {w0 w:World} {c:Cp} {S L:BS} {I r T:Nat} {M:List Res} {X:Nat→Prop} {b:AB} (h:Zs w0 w c (setB S I b) L r T M X) (i1:1≤I) (i2:I≤200) (hk:(S.ino I).kind=1)
  {y:Nat} (h1:1≤y) (h2:y≤200) (hky:(L.ino y).kind=1) {m:Nat} (hm:16*m<(L.ino y).body.size) (hb:PB (L.ino y).body b m) :
  Calls Tryz.prog 217 #[Pq c.C,.int .i64 (I:Int),Nv (0,(y:Int)),.int .i64 ((16*m:Nat):Int)] w (FillE w0 w c S L I r (T+1) M X (fun b'=>PB (L.ino y).body b' (m+1)) (r<S.used+(copyB (L.ino y).body).n)):=by
 have ok:=h.good2.1.body y
 obtain ⟨w1,hw1⟩:∃ w1,w.alloc (.cells #[.int .i64 0,.int .i64 (y:Int)] 24)=w1:=⟨_,rfl⟩
 obtain ⟨g,hg⟩:∃ g,w.heap.size=g:=⟨_,rfl⟩
 have hb1:Below w.heap.size w w1:=by rw [← hw1];exact bel_alloc _ _
 have hz1:w1.heap.size=g+1:=by rw [← hw1,← hg,World.size_alloc]
 have HX1:=Lib.hid (h.below hb1)
 have HSX:=Lib.hid (same_below h hb1)
 have HG1:=Lib.hid (show Nb w1 g (0,(y:Int)) by rw [← hw1,← hg];exact Nb.new w 0 y)
 have HRD:=Lib.hid (file_read (m:=m) HX1.out.drew.vx h1 h2 hky ok hm)
 have HCH:=Lib.hid (show chL (L.ino y).body m≤1000 by unfold chL;omega)
 have HZR:=Lib.hid (fun (hz:allZ (chL (L.ino y).body m) (chF (L.ino y).body m)=true)=>hb.skip ok hz)
 have HST:=Lib.hid (fun (hz:allZ (chL (L.ino y).body m) (chF (L.ino y).body m)=false)=>hb.step ok hm hz)
 have HWR:=Lib.hid (fun p e S'=>chunk_wrote (S':=S') (r:=r) (p:=p) (b:=b) (e:=e) i1 i2 hk ok hm)
 have HFU:=Lib.hid (fun (hz:allZ (chL (L.ino y).body m) (chF (L.ino y).body m)=false) p e S' hw hp=>chunk_full (S':=S') (r:=r) (p:=p) (b:=b) (e:=e) i1 i2 hk ok hm hb hz hw hp)
 have HE:=Lib.hid (show ∀ (W:World) (er:Int) (b':AB),((er=0∧PB (L.ino y).body b' (m+1))∨(er=28∧r<S.used+(copyB (L.ino y).body).n))→Zs w0 W c (setB S I b') L r (T+1) M X→Same X w W→FillE w0 w c S L I r (T+1) M X (fun b'=>PB (L.ino y).body b' (m+1)) (r<S.used+(copyB (L.ino y).body).n) (.returned (.int .i64 er)) W from
  fun W er b' a d k=>⟨er,b',rfl,a,d,k⟩)
 obtain ⟨PQ,hPQ⟩:∃ P,FillE w0 w c S L I r (T+1) M X (fun b'=>PB (L.ino y).body b' (m+1)) (r<S.used+(copyB (L.ino y).body).n)=P:=⟨_,rfl⟩
 rw [hPQ] at HE ⊢
 obtain ⟨BAD,hBAD⟩:∃ P,(r<S.used+(copyB (L.ino y).body).n)=P:=⟨_,rfl⟩
 simp only [hBAD] at HE HFU
 have hof:((16*m:Nat):Int)≤65536:=by have:=ok.size;omega
 have hof0:0≤((16*m:Nat):Int):=by omega
 have c1:=HX1.out.x.c1
 obtain ⟨k0,k1⟩:=HG1.out
 dsimp only at k0 k1
 obtain ⟨n,hn⟩:∃ n,chL (L.ino y).body m=n:=⟨_,rfl⟩
 obtain ⟨f,hf⟩:∃ f,chF (L.ino y).body m=f:=⟨_,rfl⟩
 rw [hn,hf] at HRD HZR HST HWR
 simp only [hn,hf] at HFU
 rw [hn] at HCH
 obtain ⟨of,hofe⟩:∃ z,((16*m:Nat):Int)=z:=⟨_,rfl⟩
 simp only [hofe] at HFU
 rw [hofe] at hof hof0 HRD HST HWR ⊢
 have HMI:=Lib.hid hb
 generalize PB (L.ino y).body=PP at *
 clear h hb1 hPQ hky ok hm hb hn hf hofe hz1 hBAD
 obtain ⟨cC,hcC⟩:∃ x,x=c.C:=⟨_,rfl⟩
 rw [← hcC] at c1 ⊢
 have HCE:=Lib.hid hcC
 clear hcC
 go_enter Tryz.func217,Tryz.ntmps217
 go_upto_region 1 with fail
 try rw [hw1]
 try rw [hg]
 clear hw1
 have S0:=And.intro c1 (And.intro k0 k1)
 have HCC:=Lib.hid (fun W (hb:Below w1.heap.size w1 W)=>show W.cell? ⟨cC,1,none⟩=some (Pq c.V)∧W.cell? ⟨g,0,none⟩=some (.int .i64 0)∧W.cell? ⟨g,1,none⟩=some (.int .i64 (y:Int)) from ⟨(hb.cell (p:=⟨cC,1,none⟩) (World.block_lt_of_cell? _ _ c1)).trans c1,(HG1.out.below hb).c0,(HG1.out.below hb).c1⟩)
 clear c1 k0 k1
 go_region_held3 (fun W=>W.cell? ⟨cC,1,none⟩=some (Pq c.V)∧W.cell? ⟨g,0,none⟩=some (.int .i64 0)∧W.cell? ⟨g,1,none⟩=some (.int .i64 (y:Int)))
  (first|with_reducible exact S0|with_reducible exact S5|assumption|go_keep)
  (first
   | (go_at_call 28;((with_reducible refine HRD.out.mono ?_);rintro _ w5 ⟨A,cc,rfl,hc1,hc2,hbr,hb5⟩;have HB5:=Lib.hid (bel_step (Below.refl w1.heap.size w1).drew hb5);have S5:=HCC.out w5 HB5.out;have HBR:=Lib.hid hbr;have HC1:=Lib.hid hc1;have HC2:=Lib.hid hc2;clear hb5 hbr hc1 hc2)))
 have HSY:=Lib.hid (show Same X w w5 from same_trans HSX.out (fun b hb=>HB5.out.block b (HX1.out.lt hb)))
 have HX5:=Lib.hid (HX1.out.box (Y:=fun b=>X b∨(w1.drew.heap.size≤b∧b<w5.heap.size)) HB5.out (fun b hb=>hb) (.inl HX1.out.xC) (.inl HX1.out.xV))
 have HZ:=Lib.hid (zero_any (c:=cc) HBR.out HCH.out)
 have k0:=HX5.out.x.c0
 rw [← HCE.out] at k0
 have HCV:=Lib.hid (And.intro HX1.out.xC HX1.out.xV)
 clear S0 S5 HRD HCC HG1 HX1 HSX HB5
 generalize hq:allZ n f=q at *
 cases q with
 | true =>
  have HF:=Lib.hid (HE.out w5 0 b (.inl ⟨rfl,HZR.out (by first|rfl|trivial)⟩) ((HX5.out.sub (fun b hb=>.inl hb) HCV.out.1 HCV.out.2).up (Nat.le_succ T)) HSY.out)
  clear hq HZR HST
  go_wp2_with fail
  refine HZ.out.mono ?_
  rintro _ w6 ⟨rfl,rfl⟩
  go_wp2_with fail
  exact HF.out
 | false =>
  have HPS:=Lib.hid (HST.out (by first|rfl|trivial))
  have HFV:=Lib.hid (HFU.out (by first|rfl|trivial))
  clear HFU
  have HM:=Lib.hid (HX5.out.write (I:Int) of A n cc f (fun j hj=>by
   obtain ⟨bb,o,e,hx,hc⟩:=HBR.out j hj
   exact ⟨bb,o,e,.inr hx,hc⟩) HC1.out HC2.out)
  clear hq HZR HST
  go_wp2_with fail
  refine HZ.out.mono ?_
  rintro _ w6 ⟨rfl,rfl⟩
  go_wp2_with fail
  refine HM.out.mono ?_
  rintro _ w7 ⟨⟨p,er,S7⟩,hw7,rfl,hz7,hs7⟩
  dsimp only at hw7 hz7
  obtain ⟨hp,rfl,her⟩:=HWR.out _ _ _ hw7
  have HBD:=Lib.hid (fun (hne:p≠n)=>HFV.out _ _ _ hw7 hne)
  have HX7:=Lib.hid (hz7.sub (fun b hb=>.inl hb) HCV.out.1 HCV.out.2)
  have HS7:=Lib.hid (same_trans HSY.out fun b hb=>hs7 b (.inl hb))
  have HPW:=Lib.hid hp
  clear hw7 hz7 hs7 k0 HM HX5 HSY HWR
  by_cases hpn:p=n
  ·have he0:er=0:=her.resolve_right fun e=>by omega
   subst hpn
   subst he0
   have HF:=Lib.hid (HE.out w7 0 _ (.inl ⟨rfl,HPS.out⟩) HX7.out HS7.out)
   clear her hp
   have hlt:¬ ((p:Int)<(p:Int)):=by omega
   go_wp2_with fail
   exact HF.out
  ·have hlt:(p:Int)<(n:Int):=by have:=HPW.out;omega
   have HF:=Lib.hid (HE.out w7 28 _ (.inr ⟨rfl,HBD.out hpn⟩) HX7.out HS7.out)
   rcases her with rfl|⟨rfl,-⟩
   ·clear hpn hp
    go_wp2_with fail
    exact HF.out
   ·clear hpn hp
    go_wp2_with fail
    exact HF.out
end Go.Proofs.YtgoddboicjfkcaaGreat.cu
