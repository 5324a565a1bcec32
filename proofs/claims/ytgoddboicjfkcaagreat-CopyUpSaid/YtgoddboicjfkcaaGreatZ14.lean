/- Contracts and mathematics, part 14. -/
import Derived.Test.YtgoddboicjfkcaaGreatZ13
import Derived.Test.YtgoddboicjfkcaaGreatZ03
import Derived.Test.YtgoddboicjfkcaaGreatZ06
import Derived.StillTailTactics
set_option linter.unusedVariables false
set_option linter.unusedSimpArgs false
set_option maxRecDepth 100000
set_option maxHeartbeats 8000000
namespace Go.Proofs.YtgoddboicjfkcaaGreat
namespace cb
open Go.RowKit
open qu (KN ins QL)
open dn (Du En lget lset ldel getV nerr dotB Sorted RetV serr lsetE)
open bl (AB Bod BodC StoC Only Pq cut cutR wr WR)
open br
theorem new_no (room:Int) (w:World) (hr:room<0∨65536<room):Calls Tryz.prog 31 #[.int .i64 room] w (fun e w'=>e=.returned (.pointer none)∧w'=w):=by
 have HN:=Qa (bl.new_no room w hr)
 go_enter Tryz.func31,Tryz.ntmps31
 go_wp2_with fail
 refine HN.out.mono ?_
 rintro e w2 ⟨rfl,rfl⟩
 go_wp2_with fail
 go_ret
 exact ⟨rfl,rfl⟩
theorem zero203:Tryz.zeroCells135=(List.replicate 203 (Value.pointer none)).toArray:=by kernel_rfl
theorem boxB_cell (w:World) (st qb j:Nat) {ob:Obj} (hob:ob=.cells ((Tryz.zeroCells135.setIfInBounds 0 (Pq st)).setIfInBounds 202 (Pq qb)) 135) (hj:j<203):(w.alloc ob).cell? ⟨w.heap.size,j,none⟩=some (if j=0 then Pq st else if j=202 then Pq qb else .pointer none):=by
 subst hob
 have e:((Tryz.zeroCells135.setIfInBounds 0 (Pq st)).setIfInBounds 202 (Pq qb))[j]?=some (if j=0 then Pq st else if j=202 then Pq qb else .pointer none):=by
  rw [zero203]
  generalize hr:(List.replicate 203 (Value.pointer none)).toArray=Z
  have hz:Z.size=203:=by rw [←hr,List.size_toArray,List.length_replicate]
  have hg:Z[j]?=some (.pointer none):=by rw [←hr,List.getElem?_toArray,List.getElem?_replicate,Jb hj]
  simp only [Array.getElem?_setIfInBounds,Array.size_setIfInBounds,hz]
  by_cases h0:j=0
  ·subst h0;simp
  ·by_cases h2:j=202
   ·subst h2;simp
   ·rw [Ja (fun e=>h2 e.symm),Ja (fun e=>h0 e.symm),Ja h0,Ja h2,hg]
 generalize ((Tryz.zeroCells135.setIfInBounds 0 (Pq st)).setIfInBounds 202 (Pq qb))=Z at *
 simp [e]
def nilB:BS:=⟨fun _=>Ino.nil,0⟩
theorem CB.start {w3:World} {st qb lo room:Nat} {ob:Obj} (hob:ob=.cells ((Tryz.zeroCells135.setIfInBounds 0 (Pq st)).setIfInBounds 202 (Pq qb)) 135) (hs:StoC w3 st room 0) (hq:QL w3 qb lo none [] 0) (h1:lo≤st) (h2:lo≤qb) (h3:st≠qb) (h4:st<w3.heap.size) (pl:Nat→Pl) :
  CB (w3.alloc ob) w3.heap.size lo st qb none pl (fun b=>if b=w3.heap.size then 1 else if b=st then 2 else if b=qb then 3 else 0) nilB room [] 0:=by
 have ma:=QL.lt hq
 have hb:=dn.below_alloc w3 ob
 refine ⟨boxB_cell w3 st qb 0 hob (by decide),fun k hk=>?_,boxB_cell w3 st qb 202 hob (by decide),fun j=>?_,StoC.keep hs (hb.block _ h4),QL.keep hq (hb.block _ ma) (fun G e=>nomatch e),fun k hk hn=>absurd rfl hn,Jb rfl,?_,?_,(fun G e=>nomatch e),fun k hk hn=>absurd rfl hn,fun b hb'=>?_,fun b hb'=>?_⟩
 ·rw [boxB_cell w3 st qb (1+k) hob (by omega),Ja (by omega),Ja (by omega)];rfl
 ·subst hob;generalize ((Tryz.zeroCells135.setIfInBounds 0 (Pq st)).setIfInBounds 202 (Pq qb))=Z;simp
 ·rw [Ja (by omega),Jb rfl]
 ·rw [Ja (by omega),Ja (fun e=>h3 e.symm),Jb rfl]
 ·rw [Ja (by omega),Ja (by omega),Ja (by omega)]
 ·have:(w3.alloc ob).heap.size=w3.heap.size+1:=World.size_alloc _ _
  rw [Ja (by omega),Ja (by omega),Ja (by omega)]
theorem fresh_eq:fresh=⟨upd nilB.ino 1 (newI 2 1 ⟨#[]⟩),nilB.used⟩:=rfl
def upto (k:Nat):Nat→Bool:=fun j=>decide (2≤j∧j<k)
theorem upto_two:fl (upto 2) 1 200=[]:=by
 cases h:fl (upto 2) 1 200 with
 | nil=>rfl
 | cons x r =>
  obtain ⟨j,_,_,_,h4,_⟩:=fl_cons h
  unfold upto at h4;simp at h4;omega
theorem upto_next {k:Nat} (h1:2≤k) (h2:k≤200):ins (kk k) (fl (upto k) 1 200)=fl (upto (k+1)) 1 200:=by
 rw [fl_ins (by omega) (by omega) (by unfold upto;simp)]
 exact fl_congr fun j _ _=>by
  unfold setB upto
  by_cases e:j=k
  ·subst e;simp;omega
  ·rw [Ja e]
   by_cases e2:2≤j∧j<k
   ·rw [decide_eq_true e2,decide_eq_true (by omega)]
   ·rw [decide_eq_false e2,decide_eq_false (by omega)]
theorem upto_all:fl (upto 201) 1 200=freeL fresh:=by
 refine freeL_of fun j h1 h2=>?_
 unfold upto zf
 rw [fresh_ino]
 by_cases e:j=1
 ·subst e;simp
 ·rw [Ja e];simp [Ino.nil];omega
def NewE (w:World) (lo room:Nat) (e:Ending) (w':World):Prop :=
 ∃P st qb qo pl tag,e=.returned (Pq P)∧CB w' P lo st qb qo pl tag fresh room (freeL fresh) 199∧(∀b,b<w.heap.size→tag b=0)∧Below w.heap.size w w'∧w.heap.size≤P
def MidN (w:World) (P lo st qb room k:Nat) (wr:World):Prop :=
 ∃qo pl tag,CB wr P lo st qb qo pl tag fresh room (fl (upto k) 1 200) (k - 2)∧(∀b,b<w.heap.size→tag b=0)∧Below w.heap.size w wr
theorem MidN.push {w wr:World} {P lo st qb room k:Nat} (h:MidN w P lo st qb room k wr) (h1:2≤k) (h2:k≤200) :
  wr.cell? ⟨P,202,none⟩=some (Pq qb)∧Calls Tryz.prog 91 #[Pq qb,.int .i64 (k:Int),.int .i64 (k:Int)] wr (fun e w'=>e=.returned (.tuple #[])∧MidN w P lo st qb room (k+1) w'):=by
 obtain ⟨qo,pl,tag,h,ht,hb⟩:=h
 refine ⟨h.cq,(h.qpush (by omega) (k:Int) (k:Int)).mono ?_⟩
 rintro e w' ⟨he,qo',pl',tag',k1,k2,k3⟩
 rw [upto_next h1 h2,show k - 2+1=k+1 - 2 by omega] at k1
 refine ⟨he,qo',pl',tag',k1,fun b hb'=>by rw [k2.tg b (Nat.lt_of_lt_of_le hb' hb.size)];exact ht b hb',hb.trans ⟨k2.o.os,k2.o.tape,k2.o.output,k2.o.size,fun j hj=>k2.o.block j (Nat.lt_of_lt_of_le hj hb.size) (by rw [ht j hj];simp)⟩⟩
theorem new_born {w w4 w5:World} {P lo st qb room:Nat} {pl:Nat→Pl} {tag:Nat→Nat} {p:Pl} (h:CB w4 P lo st qb none pl tag nilB room [] 0) (ht:∀b,b<w.heap.size→tag b=0) (hw:Below w.heap.size w w4) (hb:Below w4.heap.size w4 w5) (hx:InoC w5 st lo p (newI 2 1 ⟨#[]⟩)) (b1:w4.heap.size≤p.nd) (b3:w4.heap.size≤p.di∧p.di≠p.nd∧p.dr=none) (hP:w.heap.size≤P) :
  w5.cell? ⟨P,2,none⟩=some (.pointer none)∧w5.frozen? ⟨P,2,none⟩=false∧MidN w P lo st qb room 2 (w5.setCell ⟨P,2,none⟩ (Pq p.nd)):=by
 obtain ⟨tag',h1,h2⟩:=h.born (k:=1) (by decide) (p:=p) (x:=newI 2 1 ⟨#[]⟩) rfl (by show (2:Int)≠0;decide) hb hx b1 (fun e=>by cases e) (fun _=>b3)
 rw [←fresh_eq,←upto_two] at h1
 refine ⟨(hb.cell (p:=⟨P,2,none⟩) h.plt.1).trans (h.ci 1 (by decide)),(hb.frozen (p:=⟨P,2,none⟩) h.plt.1).trans (h.cf 2),none,_,tag',h1,fun b hb'=>?_,(hw.trans (hb.mono hw.size)).setCell hP _⟩
 rw [h2 b (Nat.lt_of_lt_of_le hb' hw.size)];exact ht b hb'
theorem new_yes (room lo:Nat) (w:World) (hr:room≤65536) (hlo:lo≤w.heap.size):Calls Tryz.prog 31 #[.int .i64 (room:Int)] w (NewE w lo room):=by
 have HN:=Qa (bl.new_yes room w hr)
 have HQ:=Qa (fun w' (hlo:lo≤w'.heap.size)=>qu.lnew w' lo hlo)
 have Qb:=Qa hlo
 go_enter Tryz.func31,Tryz.ntmps31
 go_wp2_with fail
 refine HN.out.mono ?_
 rintro e w2 ⟨rfl,rfl⟩
 go_wp2_with fail
 refine (HQ.out _ (by have:=Qb.out;simp;omega)).mono ?_
 rintro e w3 ⟨rfl,q1,q2⟩
 have hz:(w.alloc (.cells #[.int .i64 (room:Int),.int .i64 0] 221)).heap.size=w.heap.size+1:=World.size_alloc _ _
 rw [hz] at q1 q2
 have ya:=QL.lt q1
 have ma:StoC w3 w.heap.size room 0:=StoC.keep (w:=w.alloc (.cells #[.int .i64 (room:Int),.int .i64 0] 221)) ⟨by simp,by simp,by simp⟩ (q2.block _ (by omega))
 have qa:Below w.heap.size w w3:=(dn.below_alloc w _).trans (q2.mono (by omega))
 have HS:=Qa (fun ob hob=>CB.start (ob:=ob) hob ma q1 Qb.out (by have:=Qb.out;omega) (by omega) (by omega) (fun _=>⟨0,0,0,0,none,0⟩))
 have Qc:=Qa (fun ob hob=>blank_any w3.heap.size w.heap.size lo (w3.alloc ob).drew (HS.out ob hob).c0 (HS.out ob hob).plt.1 (by have:=(HS.out ob hob).plt;show lo≤(w3.alloc ob).heap.size;omega) 2 1 ⟨#[]⟩)
 have Qd:=Qa (fun ob hob w5 p (hb:Below (w3.alloc ob).heap.size (w3.alloc ob) w5) hx b1 b3=>new_born (w:=w) (w5:=w5) (p:=p) (HS.out ob hob) (fun b hb=>by rw [Ja (by omega),Ja (by omega),Ja (by omega)]) (qa.trans ((dn.below_alloc w3 ob).mono (by omega))) hb hx b1 b3 (by omega))
 have ja:w.heap.size≤w3.heap.size:=by omega
 generalize hst:w.heap.size=st at *
 clear q1 q2 ma HS hz qa HN HQ
 go_wp2_with fail
 go_region_held3 (fun w'=>True)
  (first|trivial|assumption|go_keep)
  (first
  | (go_at_call 90;((with_reducible refine (Qc.out _ rfl).mono ?_);rintro e w5 ⟨p,rfl,hb5,hx5,b1,_,b3⟩;obtain ⟨z1,z2,z3⟩:=Qd.out _ rfl w5 p ((Below.refl _ _).drew.trans hb5) hx5 b1 (b3 rfl))))
 all_goals
  have HZ:=Qa z3
  clear z1 z2 z3 hb5 hx5 b1 b3 Qc Qd
  have Qe:=Qa ja
  generalize hP:w3.heap.size=P at *
  generalize hW:w5.setCell ⟨P,2,none⟩ (Pq p.nd)=w6 at *
  clear hW hP ya ja
  go_wp2_with fail
  go_loopg [5] 199 (fun g s5 wr=>∃k:Nat,g+k=201∧2≤k∧s5=.int .i64 k∧Hid (MidN w P lo st (st+1) room k wr))
  case atStart=>exact ⟨2,by omega,by omega,rfl,HZ⟩
  case round =>
   obtain ⟨k,hg,hk2,rfl,HK⟩:=hrel
   by_cases hk:k≤200
   ·obtain ⟨c0,hq⟩:=HK.out.push hk2 hk
    have HQ:=Qa hq
    clear hq HK
    go_wp2_with fail
    refine HQ.out.mono ?_
    rintro e w7 ⟨rfl,hx⟩
    have HX:=Qa hx
    clear hx c0
    go_wp2_with fail
    go_roundg (gk - 1)
    case measure=>omega
    case rel=>exact ⟨k+1,by omega,by omega,by go_num,HX⟩
   ·have xa:k=201:=by omega
    have HE:=Qa (show NewE w lo room (.returned (Pq P)) wr by
     obtain ⟨qo,pl,tag,h,ht,hb⟩:=HK.out
     subst xa
     rw [upto_all] at h
     exact ⟨P,st,st+1,qo,pl,tag,rfl,h,ht,hb,by rw [hst];exact Qe.out⟩)
    have hn:¬((k:Int)≤200):=by omega
    clear HK xa hk
    go_wp2_with fail
    go_ret
    exact HE.out
end cb
namespace cb
open Go.RowKit
open qu (KN ins QL)
open dn (Du En lget lset ldel getV nerr dotB Sorted RetV)
open bl (AB Bod BodC StoC Only Pq cut cutR wr WR U8)
open br
def HB (S:BS) (n:Int):Prop:=∀k,(S.ino k).holds≤n
theorem HB.upd {S:BS} {n:Int} (h:HB S n) {k:Nat} {x:Ino} {u:Nat} (hx:x.holds≤n):HB ⟨upd S.ino k x,u⟩ n:=fun j=>by
 show (br.upd S.ino k x j).holds≤n
 by_cases e:j=k
 ·subst e;rw [upd_same];exact hx
 ·rw [upd_other _ _ e];exact h j
theorem HB.put {S:BS} {n:Int} (h:HB S n) {i:Int} {x:Ino} (hx:x.holds≤n):HB (S.put i x) n:=h.upd hx
theorem HB.putDir {S:BS} {n:Int} (h:HB S n) (d:Int) (L:List En):HB (S.putDir d L) n:=h.upd (h d.toNat)
theorem HB.less {S:BS} {n:Int} (h:HB S n) (i:Int) (dl dh:Int) (h0:0≤dh) (hn:0≤n):HB (S.less i dl dh) n:=by
 unfold BS.less
 dsimp only
 split
 ·exact h.upd (by show (0:Int)≤n;exact hn)
 ·exact h.upd (by show (S.at i).holds - dh≤n;have:(S.at i).holds≤n:=h i.toNat;omega)
theorem HB.make {S:BS} {n:Int} (h:HB S n) (hn:0≤n) (d:Int) (s:ByteArray) (k:Int) (t:ByteArray):HB (S.make d s k t).2 n:=by
 unfold BS.make
 split
 ·exact h
 ·split
  ·exact h
  ·dsimp only
   split
   ·exact h
   ·exact (h.put (by exact hn)).putDir _ _
theorem HB.drop {S:BS} {n:Int} (h:HB S n) (hn:0≤n) (d:Int) (s:ByteArray) (i:Int):HB (S.drop d s i) n:=(h.putDir _ _).less _ _ _ (by decide) hn
theorem HB.unlink {S:BS} {n:Int} (h:HB S n) (hn:0≤n) (d:Int) (s:ByteArray):HB (S.unlink d s).2 n:=by
 unfold BS.unlink
 split
 ·exact h
 ·split
  ·exact h
  ·split
   ·exact h
   ·exact h.drop hn _ _ _
theorem HB.move {S:BS} {n:Int} (h:HB S n) (d:Int) (s:ByteArray) (t:Int) (u:ByteArray) (i:Int):HB (S.move d s t u i) n:=by
 unfold BS.move
 dsimp only
 split
 ·exact ((h.putDir _ _).putDir _ _).put (by exact (((h.putDir _ _).putDir _ _) i.toNat))
 ·exact (h.putDir _ _).putDir _ _
theorem HB.rename {S:BS} {n:Int} (h:HB S n) (hn:0≤n) (d:Int) (s:ByteArray) (t:Int) (u:ByteArray):HB (S.rename d s t u).2 n:=by
 unfold BS.rename
 split
 ·exact h
 ·split
  ·exact h
  ·split
   ·exact h
   ·split
    ·exact h
    ·dsimp only
     split
     ·exact h
     ·split
      ·exact h.move _ _ _ _ _
      ·split
       ·exact h
       ·split
        ·exact h
        ·split
         ·exact h
         ·split
          ·exact h
          ·exact (h.drop hn _ _ _).move _ _ _ _ _
theorem HB.cutI {S:BS} {n:Int} (h:HB S n) (i off:Int):HB (S.cutI i off).2 n:=by
 unfold BS.cutI
 split
 ·exact h
 ·exact h.upd (by exact h i.toNat)
theorem HB.wrote {S:BS} {n:Int} (h:HB S n) (i off:Int) (p:Nat) (f:Nat→UInt8):HB (S.wrote i off p f) n:=h.upd (by exact h i.toNat)
theorem HB.mono {S:BS} {n m:Int} (h:HB S n) (hm:n≤m):HB S m:=fun k=>by have:=h k;omega
theorem HB.fresh:HB fresh 0:=fun k=>by rw [fresh_ino];split <;> exact Int.le_refl _
theorem cut_ok {b:AB} (h:b.Ok) (off:Int):(cut b off).Ok:=by
 unfold cut
 split
 ·refine ⟨by show off.toNat≤65536;omega,fun k hk=>?_,fun i hi=>?_⟩
  ·have:(b.th k && decide (16*k<off.toNat))=true:=hk
   simp only [Bool.and_eq_true,decide_eq_true_eq] at this
   exact this.2
  ·show (if i<off.toNat then b.dat i else 0)=0
   rw [Ja (by have:off.toNat≤i:=hi;omega)]
 ·exact h
theorem Good_cutI {S:BS} {room:Nat} (h:br.Good S room) (i off:Int):br.Good (S.cutI i off).2 room:=by
 unfold BS.cutI
 by_cases h1:S.fileE i=0
 ·rw [Ja (by omega)]
  obtain ⟨I,rfl,i1,i2,hk⟩:=fileE_ok h1
  have hb:=h.1.body I
  have hn:=bl.cut_n (S.ino I).body off
  have:=(Good_body h I).1
  have hr:=h.1.room
  show br.Good ⟨upd S.ino ((I:Int)).toNat { S.at (I:Int) with body:=cut (S.at (I:Int)).body off },_⟩ room
  rw [at_nat,Int.toNat_natCast]
  exact h.turn hk (cut_ok hb off) (by omega)
 ·rw [Jb h1];exact h
theorem Good_wr {S S':BS} {room:Nat} {i off:Int} {len p:Nat} {f:Nat→UInt8} {err:Int} (h:br.Good S room) (hw:WrI S room i off len f p err S'):br.Good S' room:=by
 rcases hw with ⟨_,_,_,rfl⟩|⟨h1,_,h3,h4,rfl⟩
 ·exact h
 ·obtain ⟨I,rfl,i1,i2,hk⟩:=fileE_ok h1
  unfold BS.wrote
  rw [at_nat] at h3 h4 ⊢
  rw [Int.toNat_natCast]
  exact h.turn hk h4 h3
def BrX (w0 w:World) (P:Nat) (X:Nat→Prop) (S:BS) (room T:Nat):Prop :=
 ∃st qb qo pl tag Tq,CB w P w0.heap.size st qb qo pl tag S room (freeL S) Tq∧Tq≤199+T∧br.Good S room∧room≤65536∧HB S T∧Below w0.heap.size w0 w∧∀b,X b→b<w.heap.size∧tag b=0
abbrev Same (X:Nat→Prop) (w w':World):Prop:=dn.Same X w w'
abbrev No:Nat→Prop:=fun _=>False
section
variable {w0 w w':World} {P room T:Nat} {X:Nat→Prop} {S:BS}
theorem BrX.bel (h:BrX w0 w P X S room T):Below w0.heap.size w0 w:=by obtain ⟨_,_,_,_,_,_,_,_,_,_,_,h,_⟩:=h;exact h
theorem BrX.good (h:BrX w0 w P X S room T):br.Good S room:=by obtain ⟨_,_,_,_,_,_,_,_,h,_⟩:=h;exact h
theorem BrX.below (h:BrX w0 w P X S room T) (hb:Below w.heap.size w w'):BrX w0 w' P X S room T:=by
 obtain ⟨st,qb,qo,pl,tag,Tq,h1,h2,h3,h4,h5,h6,h7⟩:=h
 exact ⟨st,qb,qo,pl,tag,Tq,h1.below hb,h2,h3,h4,h5,h6.trans (hb.mono h6.size),fun b hx=>⟨Nat.lt_of_lt_of_le (h7 b hx).1 hb.size,(h7 b hx).2⟩⟩
theorem BrX.forget (h:BrX w0 w P X S room T):BrX w0 w P No S room T:=by
 obtain ⟨st,qb,qo,pl,tag,Tq,h1,h2,h3,h4,h5,h6,h7⟩:=h
 exact ⟨st,qb,qo,pl,tag,Tq,h1,h2,h3,h4,h5,h6,fun _ h=>h.elim⟩
theorem BrX.sub (h:BrX w0 w P X S room T) {Y:Nat→Prop} (hy:∀b,Y b→X b):BrX w0 w P Y S room T:=by
 obtain ⟨st,qb,qo,pl,tag,Tq,h1,h2,h3,h4,h5,h6,h7⟩:=h
 exact ⟨st,qb,qo,pl,tag,Tq,h1,h2,h3,h4,h5,h6,fun b hb=>h7 b (hy b hb)⟩
theorem BrX.over (h:BrX w0 w P X S room T) (hb:Below w.heap.size w w'):BrX w0 w' P (fun b=>X b∨(w.heap.size≤b∧b<w'.heap.size)∨b<w0.heap.size) S room T:=by
 have h':=h.below hb
 obtain ⟨st,qb,qo,pl,tag,Tq,h1,h2,h3,h4,h5,h6,h7⟩:=h
 refine ⟨st,qb,qo,pl,tag,Tq,h1.below hb,h2,h3,h4,h5,h'.bel,fun b hx=>?_⟩
 rcases hx with hx|⟨h8,h9⟩|hx
 ·exact ⟨Nat.lt_of_lt_of_le (h7 b hx).1 hb.size,(h7 b hx).2⟩
 ·exact ⟨h9,h1.hi b h8⟩
 ·exact ⟨Nat.lt_of_lt_of_le hx (Nat.le_trans h6.size hb.size),h1.lo b hx⟩
theorem BrX.next {st qb:Nat} {qo:Option Nat} {pl:Nat→Pl} {tag:Nat→Nat} {Tq:Nat} {S':BS} {v:Value} {e:Ending} (h1:CB w P w0.heap.size st qb qo pl tag S room (freeL S) Tq) (h2:Tq≤199+T) (h4:room≤65536) (h6:Below w0.heap.size w0 w) (h7:∀b,X b→b<w.heap.size∧tag b=0)
  (hx:RetG w P w0.heap.size st qb tag v S' room Tq e w') (hG:br.Good S' room) (hH:HB S' ((T:Int)+1)):e=.returned v∧BrX w0 w' P X S' room (T+1)∧Same X w w':=by
 obtain ⟨he,qo',pl',tag',T',hT,k1,k2⟩:=hx
 refine ⟨he,⟨st,qb,qo',pl',tag',T',k1,by omega,hG,h4,by simpa using hH,?_,fun b hb=>?_⟩,fun b hb=>?_⟩
 ·exact h6.trans ⟨k2.o.os,k2.o.tape,k2.o.output,k2.o.size,fun k hk=>k2.o.block k (Nat.lt_of_lt_of_le hk h6.size) (by rw [h1.lo k hk];simp)⟩
 ·exact ⟨Nat.lt_of_lt_of_le (h7 b hb).1 k2.o.size,by rw [k2.tg b (h7 b hb).1];exact (h7 b hb).2⟩
 ·exact k2.o.block b (h7 b hb).1 (by rw [(h7 b hb).2];simp)
theorem x_make (h:BrX w0 w P X S room T) (hT:T≤1000) (d:Int) (s:ByteArray) (k:Int) (t:ByteArray) (hm:s.size≤9223372036854775807) (hmt:t.size≤9223372036854775807) :
  Calls Tryz.prog 33 #[Pq P,.int .i64 d,.string s,.int .i64 k,.string t] w (fun e w'=>e=.returned (.tuple #[.int .i64 (S.make d s k t).1.1,.int .i64 (S.make d s k t).1.2])∧BrX w0 w' P X (S.make d s k t).2 room (T+1)∧Same X w w'):=by
 obtain ⟨st,qb,qo,pl,tag,Tq,h1,h2,h3,h4,h5,h6,h7⟩:=h
 exact (make_any h1 h3 (by omega) d s k t hm hmt).mono fun _ _ hx=>BrX.next h1 h2 h4 h6 h7 hx (h3.make d s k t) ((h5.make (by omega) d s k t).mono (by omega))
theorem x_write (h:BrX w0 w P X S room T) (i off:Int) (A:Option Addr) (len dc:Nat) (f:Nat→UInt8) (hA:∀j,j<len→∃b o,A=some ⟨b,o,none⟩∧X b∧w.cell? ⟨b,o+j,none⟩=some (U8 (f j))) (hlc:len≤dc) (hdc:dc≤maxLen) :
  Calls Tryz.prog 39 #[Pq P,.int .i64 i,.int .i64 off,.slice A len dc] w (fun e w'=>∃p err S',WrI S room i off len f p err S'∧e=.returned (.tuple #[.int .i64 (p:Int),.int .i64 err])∧BrX w0 w' P X S' room (T+1)∧Same X w w'):=by
 obtain ⟨st,qb,qo,pl,tag,Tq,h1,h2,h3,h4,h5,h6,h7⟩:=h
 refine (write_any h1 h3 h4 i off A len dc f (fun j hj=>?_) hlc hdc).mono fun _ _ ⟨p,err,S',hw,hx⟩=>⟨p,err,S',hw,BrX.next h1 h2 h4 h6 h7 hx (Good_wr h3 hw) ?_⟩
 ·obtain ⟨b,o,e,hX,hc⟩:=hA j hj
  exact ⟨b,o,e,fun hn=>hn (h7 b hX).2,(h7 b hX).1,hc⟩
 ·rcases hw with ⟨_,_,_,rfl⟩|⟨_,_,_,_,rfl⟩
  ·exact h5.mono (by omega)
  ·exact (h5.wrote i off p f).mono (by omega)
theorem x_read (h:BrX w0 w P X S room T) (i off n:Int):Calls Tryz.prog 59 #[Pq P,.int .i64 i,.int .i64 off,.int .i64 n] w (ReadI w S i off n):=by
 obtain ⟨st,qb,qo,pl,tag,Tq,h1,h2,h3,_⟩:=h
 exact read_any h1 h3 i off n
theorem x_get (h:BrX w0 w P X S room T) (d:Int) (s:ByteArray):Calls Tryz.prog 72 #[Pq P,.int .i64 d,.string s] w (RetW w (.tuple #[.int .i64 (S.get d s).1,.int .i64 (S.get d s).2])):=by
 obtain ⟨st,qb,qo,pl,tag,Tq,h1,h2,h3,_⟩:=h
 exact get_any h1 h3 d s
theorem x_kind (h:BrX w0 w P X S room T) (i:Int):Calls Tryz.prog 61 #[Pq P,.int .i64 i] w (RetI w (S.kindOf i)):=by
 obtain ⟨st,qb,qo,pl,tag,Tq,h1,h2,h3,_⟩:=h
 exact kind_any h1 h3 i
theorem x_marks (h:BrX w0 w P X S room T) (i:Int):Calls Tryz.prog 146 #[Pq P,.int .i64 i] w (RetI w (S.marksOf i)):=by
 obtain ⟨st,qb,qo,pl,tag,Tq,h1,h2,h3,_⟩:=h
 exact marks_any h1 h3 i
theorem x_stat (h:BrX w0 w P X S room T) (i:Int):Calls Tryz.prog 58 #[Pq P,.int .i64 i] w (RetW w (statV S i)):=by
 obtain ⟨st,qb,qo,pl,tag,Tq,h1,h2,h3,_⟩:=h
 exact stat_any h1 h3 i
theorem x_target (h:BrX w0 w P X S room T) (i:Int):Calls Tryz.prog 60 #[Pq P,.int .i64 i] w (fun e w'=>e=.returned (.tuple #[.string (S.targetOf i).1,.int .i64 (S.targetOf i).2])∧w'=w):=by
 obtain ⟨st,qb,qo,pl,tag,Tq,h1,h2,h3,_⟩:=h
 exact target_any h1 h3 i
theorem x_all (h:BrX w0 w P X S room T) (i:Int):Calls Tryz.prog 53 #[Pq P,.int .i64 i] w (fun e w'=>∃o c,e=.returned (.tuple #[.slice (dn.Ao o) (S.all i).1.length c,.int .i64 (S.all i).2])∧(S.all i).1.length≤c∧c≤maxLen∧dn.Sl w' w.heap.size o c (S.all i).1∧Below w.heap.size w w'):=by
 obtain ⟨st,qb,qo,pl,tag,Tq,h1,h2,h3,_⟩:=h
 exact all_any h1 h3 i
theorem x_used (h:BrX w0 w P X S room T):Calls Tryz.prog 57 #[Pq P] w (fun e w'=>e=.returned (.int .i64 (S.used:Int))∧w'=w):=by
 obtain ⟨st,qb,qo,pl,tag,Tq,h1,h2,h3,_⟩:=h
 exact used_any h1
theorem x_new (room:Nat) (hr:room≤65536) (hb:Below w0.heap.size w0 w):Calls Tryz.prog 31 #[.int .i64 (room:Int)] w (fun e w'=>∃P,e=.returned (Pq P)∧BrX w0 w' P (fun b=>b<w.heap.size) fresh room 0∧Below w.heap.size w w'∧w.heap.size≤P):=by
 refine (new_yes room w0.heap.size w hr hb.size).mono ?_
 rintro e w' ⟨P,st,qb,qo,pl,tag,he,h1,h2,h3,h4⟩
 exact ⟨P,he,⟨st,qb,qo,pl,tag,199,h1,Nat.le_refl _,Good.fresh room,hr,HB.fresh,hb.trans (h3.mono hb.size),fun b hb'=>⟨Nat.lt_of_lt_of_le hb' h3.size,h2 b hb'⟩⟩,h3,h4⟩
end
end cb
namespace cb
open Go.RowKit
open br
open dn (En nerr lget lset ldel dotB Sorted lget_some lget_none ldel_mem ldel_sorted lset_mem lset_sorted)
theorem BrX.up {w0 w:World} {P room T T':Nat} {X:Nat→Prop} {S:BS} (h:BrX w0 w P X S room T) (hT:T≤T'):BrX w0 w P X S room T':=by
 obtain ⟨st,qb,qo,pl,tag,Tq,h1,h2,h3,h4,h5,h6,h7⟩:=h
 exact ⟨st,qb,qo,pl,tag,Tq,h1,by omega,h3,h4,h5.mono (by omega),h6,h7⟩
theorem nerr_len {s:ByteArray} (h:nerr s.data.toList=0):1≤s.size∧s.size≤60:=by
 unfold nerr at h
 have e:s.data.toList.length=s.size:=Array.length_toList
 split at h
 ·cases h
 ·rename_i h0
  split at h
  ·cases h
  ·have:s.data.toList.length≠0:=fun e0=>h0 (List.eq_nil_of_length_eq_zero e0)
   omega
theorem get_of {S:BS} {D:Nat} {s:ByteArray} {v:Int} (h1:1≤D) (h2:D≤200) (hk:(S.ino D).kind=2) (hg:lget s (S.ino D).dir=some v):S.get (D:Int) s=(v,0):=by
 have hd:S.dirE (D:Int) false=0:=by
  unfold BS.dirE BS.isI
  rw [at_nat,Ja (by simp only [decide_eq_false_iff_not,Decidable.not_not];exact ⟨by omega,by omega,by rw [hk];decide⟩),Ja (by rw [hk];decide),Ja (fun e=>by cases e.1)]
 rw [get_eq hd,hg]
theorem get_no {S:BS} {D:Nat} {s:ByteArray} (h1:1≤D) (h2:D≤200) (hk:(S.ino D).kind=2) (hg:lget s (S.ino D).dir=none):S.get (D:Int) s=(0,2):=by
 have hd:S.dirE (D:Int) false=0:=by
  unfold BS.dirE BS.isI
  rw [at_nat,Ja (by simp only [decide_eq_false_iff_not,Decidable.not_not];exact ⟨by omega,by omega,by rw [hk];decide⟩),Ja (by rw [hk];decide),Ja (fun e=>by cases e.1)]
 rw [get_eq hd,hg]
theorem dirE_yes {S:BS} {D:Nat} (h1:1≤D) (h2:D≤200) (hk:(S.ino D).kind=2) (hl:(S.ino D).links≠0):S.dirE (D:Int) true=0:=by
 unfold BS.dirE BS.isI
 rw [at_nat,Ja (by simp only [decide_eq_false_iff_not,Decidable.not_not];exact ⟨by omega,by omega,by rw [hk];decide⟩),Ja (by rw [hk];decide),Ja (fun e=>hl e.2)]
theorem nameE_yes {s:ByteArray} (h:nerr s.data.toList=0∧dotB s=false):nameE s=0:=by
 unfold nameE
 rw [Ja (fun e=>by rw [h.2] at e;cases e.2)]
 exact h.1
end cb
namespace cb
open Go.RowKit
open br
open dn (En nerr lget lset ldel dotB Sorted lget_some lget_none ldel_mem ldel_sorted lset_mem lset_sorted)
open bl (AB Pq U8 wr wrB WR strF over)
theorem stat_of {S:BS} {I:Nat} (h1:1≤I) (h2:I≤200) (hk:(S.ino I).kind≠0):S.stat (I:Int)=(((S.ino I).kind,(S.ino I).sizeOf,(S.ino I).links),0):=by
 have hI:S.isI (I:Int)=true:=by
  unfold BS.isI
  rw [at_nat]
  simp only [decide_eq_true_eq]
  exact ⟨by omega,by omega,hk⟩
 unfold BS.stat
 rw [Jb hI,at_nat]
theorem isI_of {S:BS} {I:Nat} (h1:1≤I) (h2:I≤200) (hk:(S.ino I).kind≠0):S.isI (I:Int)=true:=by
 unfold BS.isI
 rw [at_nat]
 simp only [decide_eq_true_eq]
 exact ⟨by omega,by omega,hk⟩
theorem kind_of {S:BS} {I:Nat} (h1:1≤I) (h2:I≤200):S.kindOf (I:Int)=(S.ino I).kind:=by
 unfold BS.kindOf
 by_cases hk:(S.ino I).kind=0
 ·rw [hk,Ja (by unfold BS.isI;rw [at_nat];simp [hk])]
 ·rw [Jb (isI_of h1 h2 hk),at_nat]
theorem fileE_of {S:BS} {I:Nat} (h1:1≤I) (h2:I≤200) (hk:(S.ino I).kind=1):S.fileE (I:Int)=0:=by
 unfold BS.fileE
 rw [kind_of h1 h2,hk];rfl
end cb
namespace cb
open Go.RowKit
open br
open dn (En lget lset ldel nerr dotB Sorted getV DuX LaidX)
open bl (AB Only StoC Pq cut cutR wr WR U8 RF)
open bl.rx (RB RS2 Kp)
structure Pd where
 vB:Value
 vT:Value
 T:Nat
 o:Option Nat
 c:Nat
def pd0:Pd:=⟨.slice none 0 0,.slice none 0 0,0,none,0⟩
def Own (p:Pd) (b:Nat):Prop:=p.vB.ownBlock=some b∨p.vT.ownBlock=some b∨p.o=some b
instance (p:Pd) (b:Nat):Decidable (Own p b):=by unfold Own;infer_instance
theorem own0 (b:Nat):¬Own pd0 b:=by rintro (h|h|h) <;> cases h
structure DI (w:World) (lo D k:Nat) (p:Pd) (x:Ino):Prop where
 c0:w.cell? ⟨D,1+k*9,none⟩=some (.int .i64 x.kind)
 c1:w.cell? ⟨D,1+k*9+1,none⟩=some (.int .i64 x.links)
 c2:w.cell? ⟨D,1+k*9+2,none⟩=some (.int .i64 x.holds)
 c3:w.cell? ⟨D,1+k*9+3,none⟩=some (.int .i64 x.marks)
 c4:w.cell? ⟨D,1+k*9+4,none⟩=some (.int .i64 x.parent)
 b:RB w lo D (1+k*9+5) p.vB p.vT x.body p.T
 d:DuX w D (1+k*9+7) lo p.o p.c x.dir
 c8:w.cell? ⟨D,1+k*9+8,none⟩=some (.string x.target)
 nb:x.kind≠1→p.vB=.slice none 0 0∧p.vT=.slice none 0 0∧p.T=0
 nd:x.kind≠2→p.o=none∧p.c=0
theorem own_keep {w w':World} {lo e n:Nat} {v:Value} {L:List Value} (h:w.ownsRow lo e 1 v n L) (hv:∀g,v.ownBlock=some g→w'.heap[g]?=w.heap[g]?):w'.ownsRow lo e 1 v n L:=by
 refine ⟨h.1,?_⟩
 rcases h.2 with h1|⟨g,cap,cur,h1,h2,h3,h4⟩
 ·exact .inl h1
 ·exact .inr ⟨g,cap,cur,h1,h2,(hv g (by rw [h1];rfl)).trans h3,h4⟩
theorem rb_keep {w w':World} {lo C x0 T:Nat} {vB vT:Value} {b:AB} (h:RB w lo C x0 vB vT b T) (h0:w'.cell? ⟨C,x0,none⟩=w.cell? ⟨C,x0,none⟩) (h1:w'.cell? ⟨C,x0+1,none⟩=w.cell? ⟨C,x0+1,none⟩) (hf:∀j,w'.frozen? ⟨C,j,none⟩=w.frozen? ⟨C,j,none⟩)
  (hB:∀g,vB.ownBlock=some g→w'.heap[g]?=w.heap[g]?) (hT:∀g,vT.ownBlock=some g→w'.heap[g]?=w.heap[g]?):RB w' lo C x0 vB vT b T :=
 ⟨h0.trans h.c0,h1.trans h.c1,(hf _).trans h.f0,(hf _).trans h.f1,own_keep h.rB hB,own_keep h.rT hT,h.tT,h.le,h.nB,h.nT,h.sep⟩
theorem DI.keep {w w':World} {lo D k:Nat} {p:Pd} {x:Ino} (h:DI w lo D k p x) (hc:∀j,j<9→w'.cell? ⟨D,1+k*9+j,none⟩=w.cell? ⟨D,1+k*9+j,none⟩) (hf:∀j,w'.frozen? ⟨D,j,none⟩=w.frozen? ⟨D,j,none⟩) (hb:∀b,Own p b→w'.heap[b]?=w.heap[b]?):DI w' lo D k p x :=
 ⟨(hc 0 (by omega)).trans h.c0,(hc 1 (by omega)).trans h.c1,(hc 2 (by omega)).trans h.c2,(hc 3 (by omega)).trans h.c3,(hc 4 (by omega)).trans h.c4,
  rb_keep h.b (hc 5 (by omega)) (hc 6 (by omega)) hf (fun g e=>hb g (.inl e)) (fun g e=>hb g (.inr (.inl e))),h.d.of_cell (hc 7 (by omega)) (hf _) (fun g e=>hb g (.inr (.inr e))),(hc 8 (by omega)).trans h.c8,h.nb,h.nd⟩
theorem DI.own {w:World} {lo D k:Nat} {p:Pd} {x:Ino} (h:DI w lo D k p x) {b:Nat} (hb:Own p b):lo≤b∧b<w.heap.size∧b≠D:=by
 rcases hb with e|e|e
 ·have:=h.b.rB.lt b e
  exact ⟨this.1,this.2,fun e1=>h.b.nB (by rw [e,e1])⟩
 ·have:=h.b.rT.lt b e
  exact ⟨this.1,this.2,fun e1=>h.b.nT (by rw [e,e1])⟩
 ·have:=h.d.glt b e
  exact ⟨this.2.1,this.1,fun e1=>this.2.2 e1.symm⟩
structure DB (w:World) (D lo RS:Nat) (pl:Nat→Pd) (tag:Nat→Nat) (S:BS) (room:Nat):Prop where
 c0:w.cell? ⟨D,0,none⟩=some (Pq RS)
 cf:∀j,w.frozen? ⟨D,j,none⟩=false
 sto:StoC w RS room S.used
 ino:∀k,k≤200→DI w lo D k (pl k) (S.ino k)
 tD:tag D=1
 tS:tag RS=2
 tI:∀k,k≤200→∀b,Own (pl k) b→tag b=3+k
 lo:∀b,b<lo→tag b=0
 hi:∀b,w.heap.size≤b→tag b=0
section
variable {w w':World} {D lo RS room:Nat} {pl:Nat→Pd} {tag:Nat→Nat} {S:BS}
theorem DB.lt (h:DB w D lo RS pl tag S room) {b:Nat} (hb:tag b≠0):b<w.heap.size∧lo≤b:=by
 refine ⟨?_,?_⟩
 ·rcases Nat.lt_or_ge b w.heap.size with h1|h1
  ·exact h1
  ·exact absurd (h.hi b h1) hb
 ·rcases Nat.lt_or_ge b lo with h1|h1
  ·exact absurd (h.lo b h1) hb
  ·exact h1
theorem DB.keepAll (h:DB w D lo RS pl tag S room) (hz:w.heap.size≤w'.heap.size) (ho:∀b,tag b≠0→w'.heap[b]?=w.heap[b]?):DB w' D lo RS pl tag S room:=by
 have hD:=ho D (by rw [h.tD];decide)
 have hc:∀j,w'.cell? ⟨D,j,none⟩=w.cell? ⟨D,j,none⟩:=fun j=>World.cell?_of_block (a:=⟨D,j,none⟩) hD
 have hf:∀j,w'.frozen? ⟨D,j,none⟩=w.frozen? ⟨D,j,none⟩:=fun j=>World.frozen?_of_block (a:=⟨D,j,none⟩) hD
 exact ⟨(hc 0).trans h.c0,fun j=>(hf j).trans (h.cf j),StoC.keep h.sto (ho RS (by rw [h.tS];decide)),fun k hk=>(h.ino k hk).keep (fun j _=>hc _) hf (fun b hb=>ho b (by rw [h.tI k hk b hb];omega)),h.tD,h.tS,h.tI,h.lo,fun b hb=>h.hi b (Nat.le_trans hz hb)⟩
theorem DB.below (h:DB w D lo RS pl tag S room) (hb:Below w.heap.size w w'):DB w' D lo RS pl tag S room :=
 h.keepAll hb.size (fun b ht=>hb.block b (h.lt ht).1)
theorem DB.turn (h:DB w D lo RS pl tag S room) {k:Nat} (hk:k≤200) {p':Pd} {x:Ino} {u:Nat} {F:Nat→Prop} (ho:Only F w w') (hF:∀b,F b→b=D∨b=RS∨Own (pl k) b)
  (hc:∀j,j<1+k*9∨1+k*9+9≤j→w'.cell? ⟨D,j,none⟩=w.cell? ⟨D,j,none⟩) (hf:∀j,w'.frozen? ⟨D,j,none⟩=w.frozen? ⟨D,j,none⟩)
  (hx:DI w' lo D k p' x) (hp:∀b,Own p' b→Own (pl k) b∨w.heap.size≤b) (hs:StoC w' RS room u) :
  ∃pl' tag',DB w' D lo RS pl' tag' ⟨br.upd S.ino k x,u⟩ room∧Stp w w' tag tag':=by
 have hT:∀b,b<w.heap.size→(if Own p' b then 3+k else tag b)=tag b:=fun b hb=>by
  split
  ·rename_i h1
   rcases hp b h1 with h2|h2
   ·exact (h.tI k hk b h2).symm
   ·omega
  ·rfl
 have oth:∀b,tag b≠0→tag b≠1→tag b≠2→tag b≠3+k→w'.heap[b]?=w.heap[b]?:=fun b h0 h1 h2 h3 =>
  ho.block b (h.lt h0).1 (fun hf=>by
   rcases hF b hf with e|e|e
   ·subst e;exact h1 h.tD
   ·subst e;exact h2 h.tS
   ·exact h3 (h.tI k hk b e))
 refine ⟨fun j=>if j=k then p' else pl j,fun b=>if Own p' b then 3+k else tag b,⟨(hc 0 (by omega)).trans h.c0,fun j=>(hf j).trans (h.cf j),hs,fun j hj=>?_,?_,?_,fun j hj b hb=>?_,fun b hb=>?_,fun b hb=>?_⟩,hT,?_⟩
 ·dsimp only
  by_cases e:j=k
  ·subst e;rw [Jb rfl,upd_same];exact hx
  ·rw [Ja e,upd_other _ _ e]
   exact (h.ino j hj).keep (fun i hi=>hc _ (by omega)) hf (fun b hb=>oth b (by rw [h.tI j hj b hb];omega) (by rw [h.tI j hj b hb];omega) (by rw [h.tI j hj b hb];omega) (by rw [h.tI j hj b hb];omega))
 ·exact (hT D (h.lt (by rw [h.tD];decide)).1).trans h.tD
 ·exact (hT RS (h.lt (by rw [h.tS];decide)).1).trans h.tS
 ·by_cases e:j=k
  ·subst e;rw [Jb rfl] at hb;rw [Jb hb]
  ·rw [Ja e] at hb
   have h1:=h.tI j hj b hb
   rw [hT b (h.lt (by rw [h1];omega)).1];exact h1
 ·by_cases e:Own p' b
  ·have:=hx.own e;omega
  ·rw [Ja e];exact h.lo b hb
 ·by_cases e:Own p' b
  ·have:=hx.own e;omega
  ·rw [Ja e];exact h.hi b (Nat.le_trans ho.size hb)
 ·refine ho.mono fun b hb=>?_
  rcases hF b hb with e|e|e
  ·subst e;rw [h.tD];decide
  ·subst e;rw [h.tS];decide
  ·rw [h.tI k hk b e];omega
theorem only_set (w:World) (D j:Nat) (v:Value):Only (fun b=>b=D) w (w.setCell ⟨D,j,none⟩ v):=⟨rfl,rfl,rfl,by simp [World.setCell],fun k hk hF=>Below.heap_setCell _ _ _ _ hF⟩
theorem cell_oth (w:World) (D j i:Nat) (v:Value) (h:i≠j):(w.setCell ⟨D,j,none⟩ v).cell? ⟨D,i,none⟩=w.cell? ⟨D,i,none⟩:=World.cell?_setCell_other _ _ _ _ (by intro e;injection e with _ e;exact h e.symm)
end

theorem rstore_yes (room:Nat) (w:World) (hr:room≤65536):Calls Tryz.prog 92 #[.int .i64 (room:Int)] w (fun e w'=>e=.returned (Pq w.heap.size)∧w'=w.alloc (.cells #[.int .i64 (room:Int),.int .i64 0] 233)):=by
 have h1:¬((65536:Int)<(room:Int)):=by omega
 have h0:¬((room:Int)<0):=by omega
 go_enter Tryz.func92,Tryz.ntmps92
 go_wp2
 go_ret
 exact ⟨rfl,rfl⟩
theorem rstore_no (room:Int) (w:World) (hr:room<0∨65536<room):Calls Tryz.prog 92 #[.int .i64 room] w (fun e w'=>e=.returned (.pointer none)∧w=w'):=by
 by_cases h:room<0
 ·go_enter Tryz.func92,Tryz.ntmps92
  go_wp2
  go_ret
  exact ⟨rfl,rfl⟩
 ·have h1:65536<room:=by omega
  go_enter Tryz.func92,Tryz.ntmps92
  go_wp2
  go_ret
  exact ⟨rfl,rfl⟩
theorem rb_new_no (room:Int) (w:World) (hr:room<0∨65536<room):Calls Tryz.prog 32 #[.int .i64 room] w (fun e w'=>e=.returned (.pointer none)∧w=w'):=by
 have HN:=Qa (rstore_no room w hr)
 clear hr
 go_enter Tryz.func32,Tryz.ntmps32
 go_wp2_with fail
 refine HN.out.mono ?_
 rintro e w2 ⟨rfl,rfl⟩
 go_wp2_with fail
 go_ret
 exact ⟨rfl,rfl⟩
def ino9:List Value:=[.int .i64 0,.int .i64 0,.int .i64 0,.int .i64 0,.int .i64 0,.slice none 0 0,.slice none 0 0,.slice none 0 0,.string ⟨#[]⟩]
theorem zero51:Tryz.zeroCells149=(.pointer none::(List.replicate 201 ino9).flatten).toArray:=by kernel_rfl
theorem flat_get {α:Type} (l:List α) (hl:l.length=9) (n k i:Nat) (hk:k<n) (hi:i<9):(List.replicate n l).flatten[k*9+i]?=l[i]?:=by
 induction n generalizing k with
 | zero=>omega
 | succ n ih =>
  rw [List.replicate_succ,List.flatten_cons]
  cases k with
  | zero=>rw [List.getElem?_append_left (by omega)];congr 1;omega
  | succ k =>
   rw [List.getElem?_append_right (by omega),←ih k (by omega)]
   congr 1
   omega
theorem flat_len {α:Type} (l:List α) (n:Nat):(List.replicate n l).flatten.length=n*l.length:=by
 induction n with
 | zero=>simp
 | succ n ih=>rw [List.replicate_succ,List.flatten_cons,List.length_append,ih,Nat.succ_mul];omega
theorem zero51_at (k i:Nat) (hk:k≤200) (hi:i<9):Tryz.zeroCells149[1+k*9+i]?=ino9[i]?:=by
 rw [zero51,List.getElem?_toArray,show 1+k*9+i=(k*9+i)+1 by omega,List.getElem?_cons_succ]
 exact flat_get ino9 rfl 201 k i (by omega) hi
theorem zero51_size:Tryz.zeroCells149.size=1810:=by
 rw [zero51,List.size_toArray,List.length_cons,flat_len]
 rfl
theorem DI.blank {w:World} {lo D k:Nat} {a0 a1 a2 a3 a4:Int} {t:ByteArray} (c0:w.cell? ⟨D,1+k*9,none⟩=some (.int .i64 a0)) (c1:w.cell? ⟨D,1+k*9+1,none⟩=some (.int .i64 a1)) (c2:w.cell? ⟨D,1+k*9+2,none⟩=some (.int .i64 a2)) (c3:w.cell? ⟨D,1+k*9+3,none⟩=some (.int .i64 a3)) (c4:w.cell? ⟨D,1+k*9+4,none⟩=some (.int .i64 a4))
  (c5:w.cell? ⟨D,1+k*9+5,none⟩=some (.slice none 0 0)) (c6:w.cell? ⟨D,1+k*9+6,none⟩=some (.slice none 0 0)) (c7:w.cell? ⟨D,1+k*9+7,none⟩=some (.slice none 0 0)) (c8:w.cell? ⟨D,1+k*9+8,none⟩=some (.string t)) (hf:∀j,w.frozen? ⟨D,j,none⟩=false) :
  DI w lo D k pd0 ⟨a0,a1,a2,a3,a4,abE,[],t⟩ :=
 ⟨c0,c1,c2,c3,c4,⟨c5,c6,hf _,hf _,World.ownsRow_nil _ _ _ _,World.ownsRow_nil _ _ _ _,(fun k h=>by cases h),Nat.zero_le _,(fun h=>by cases h),(fun h=>by cases h),(fun g h=>by cases h)⟩,⟨c7,hf _,rfl,rfl⟩,c8,fun _=>⟨rfl,rfl,rfl⟩,fun _=>⟨rfl,rfl⟩⟩
noncomputable def boxD (st:Value):Array Value:=(((((((((Tryz.zeroCells149.setIfInBounds 0 st).setIfInBounds 10 (.int .i64 2)).setIfInBounds 11 (.int .i64 1)).setIfInBounds 12 (.int .i64 0)).setIfInBounds 13 (.int .i64 0)).setIfInBounds 14 (.int .i64 1)).setIfInBounds 15 (.slice none 0 0)).setIfInBounds 16 (.slice none 0 0)).setIfInBounds 17 (.slice none 0 0)).setIfInBounds 18 (.string ⟨#[]⟩)
theorem boxD_zero (st:Value):(boxD st)[0]?=some st:=by
 have hz:=zero51_size
 unfold boxD
 generalize Tryz.zeroCells149=Z at *
 simp [Array.getElem?_setIfInBounds,hz]
theorem boxD_root (st:Value) (i:Nat) (hi:i<9):(boxD st)[1+1*9+i]?=some (match i with|0=>.int .i64 2|1=>.int .i64 1|2=>.int .i64 0|3=>.int .i64 0|4=>.int .i64 1|8=>.string ⟨#[]⟩|_=>.slice none 0 0):=by
 have hz:=zero51_size
 unfold boxD
 generalize Tryz.zeroCells149=Z at *
 match i,hi with
 | 0,_=>simp [Array.getElem?_setIfInBounds,hz]
 | 1,_=>simp [Array.getElem?_setIfInBounds,hz]
 | 2,_=>simp [Array.getElem?_setIfInBounds,hz]
 | 3,_=>simp [Array.getElem?_setIfInBounds,hz]
 | 4,_=>simp [Array.getElem?_setIfInBounds,hz]
 | 5,_=>simp [Array.getElem?_setIfInBounds,hz]
 | 6,_=>simp [Array.getElem?_setIfInBounds,hz]
 | 7,_=>simp [Array.getElem?_setIfInBounds,hz]
 | 8,_=>simp [Array.getElem?_setIfInBounds,hz]
theorem boxD_else (st:Value) (k i:Nat) (hk:k≤200) (h1:k≠1) (hi:i<9):(boxD st)[1+k*9+i]?=ino9[i]?:=by
 rw [←zero51_at k i hk hi]
 have hz:=zero51_size
 unfold boxD
 generalize Tryz.zeroCells149=Z at *
 have a0:¬(0=1+k*9+i):=by omega
 have a1:¬(10=1+k*9+i):=by omega
 have a2:¬(11=1+k*9+i):=by omega
 have a3:¬(12=1+k*9+i):=by omega
 have a4:¬(13=1+k*9+i):=by omega
 have a5:¬(14=1+k*9+i):=by omega
 have a6:¬(15=1+k*9+i):=by omega
 have a7:¬(16=1+k*9+i):=by omega
 have a8:¬(17=1+k*9+i):=by omega
 have a9:¬(18=1+k*9+i):=by omega
 simp only [Array.getElem?_setIfInBounds,Array.size_setIfInBounds,hz,a0,a1,a2,a3,a4,a5,a6,a7,a8,a9,if_false]
theorem DB.start {w:World} {room lo:Nat} (hlo:lo≤w.heap.size) {w1 w2:World} (h1:w1=w.alloc (.cells #[.int .i64 (room:Int),.int .i64 0] 233)) (h2:w2=w1.alloc (.cells (boxD (Pq w.heap.size)) 149)) :
  DB w2 (w.heap.size+1) lo w.heap.size (fun _=>pd0) (fun b=>if b=w.heap.size+1 then 1 else if b=w.heap.size then 2 else 0) fresh room∧Below w.heap.size w w2:=by
 have z1:w1.heap.size=w.heap.size+1:=by rw [h1];exact World.size_alloc _ _
 have z2:w2.heap.size=w.heap.size+2:=by rw [h2,World.size_alloc,z1]
 have b1:Below w.heap.size w w1:=by rw [h1];exact dn.below_alloc _ _
 have b2:Below w1.heap.size w1 w2:=by rw [h2];exact dn.below_alloc _ _
 have hc:∀j,w2.cell? ⟨w.heap.size+1,j,none⟩=(boxD (Pq w.heap.size))[j]?:=fun j=>by
  rw [h2,←z1]
  generalize boxD (Pq w.heap.size)=Z
  simp
 have hf:∀j,w2.frozen? ⟨w.heap.size+1,j,none⟩=false:=fun j=>by
  rw [h2,←z1]
  generalize boxD (Pq w.heap.size)=Z
  simp
 have hs:StoC w1 w.heap.size room 0:=by
  rw [h1]
  exact ⟨by simp,by simp,by simp⟩
 refine ⟨⟨(hc 0).trans (boxD_zero _),hf,StoC.keep hs (b2.block _ (by omega)),fun k hk=>?_,Jb rfl,?_,fun k _ b hb=>absurd hb (own0 b),fun b hb=>?_,fun b hb=>?_⟩,b1.trans (b2.mono (by omega))⟩
 ·rw [fresh_ino]
  by_cases e:k=1
  ·subst e
   rw [Jb rfl]
   exact DI.blank ((hc _).trans (boxD_root _ 0 (by omega))) ((hc _).trans (boxD_root _ 1 (by omega))) ((hc _).trans (boxD_root _ 2 (by omega))) ((hc _).trans (boxD_root _ 3 (by omega))) ((hc _).trans (boxD_root _ 4 (by omega))) ((hc _).trans (boxD_root _ 5 (by omega))) ((hc _).trans (boxD_root _ 6 (by omega))) ((hc _).trans (boxD_root _ 7 (by omega))) ((hc _).trans (boxD_root _ 8 (by omega))) hf
  ·rw [Ja e]
   exact DI.blank ((hc _).trans (boxD_else _ k 0 hk e (by omega))) ((hc _).trans (boxD_else _ k 1 hk e (by omega))) ((hc _).trans (boxD_else _ k 2 hk e (by omega))) ((hc _).trans (boxD_else _ k 3 hk e (by omega))) ((hc _).trans (boxD_else _ k 4 hk e (by omega))) ((hc _).trans (boxD_else _ k 5 hk e (by omega))) ((hc _).trans (boxD_else _ k 6 hk e (by omega))) ((hc _).trans (boxD_else _ k 7 hk e (by omega))) ((hc _).trans (boxD_else _ k 8 hk e (by omega))) hf
 ·show (if w.heap.size=w.heap.size+1 then 1 else if w.heap.size=w.heap.size then 2 else 0)=2
  rw [Ja (by omega),Jb rfl]
 ·show (if b=w.heap.size+1 then 1 else if b=w.heap.size then 2 else 0)=0
  rw [Ja (by omega),Ja (by omega)]
 ·show (if b=w.heap.size+1 then 1 else if b=w.heap.size then 2 else 0)=0
  rw [Ja (by omega),Ja (by omega)]
theorem rb_new (room lo:Nat) (w:World) (hr:room≤65536) (hlo:lo≤w.heap.size):Calls Tryz.prog 32 #[.int .i64 (room:Int)] w (fun e w'=>∃D RS pl tag,e=.returned (Pq D)∧DB w' D lo RS pl tag fresh room∧Below w.heap.size w w'∧∀b,tag b≠0→w.heap.size≤b):=by
 have HS:=Qa (rstore_yes room w hr)
 have HD:=Qa (fun w2 (h2:w2=(w.alloc (.cells #[.int .i64 (room:Int),.int .i64 0] 233)).alloc (.cells (boxD (Pq w.heap.size)) 149))=>DB.start (room:=room) hlo rfl h2)
 unfold boxD at HD
 go_enter Tryz.func32,Tryz.ntmps32
 go_wp2_with fail
 refine HS.out.mono ?_
 rintro e w2 ⟨rfl,rfl⟩
 go_wp2_with fail
 go_ret
 obtain ⟨h1,h2⟩:=HD.out _ rfl
 exact ⟨_,_,_,_,rfl,h1,h2,fun b hb=>by
  rcases Nat.lt_or_ge b w.heap.size with h3|h3
  ·rw [Ja (by omega),Ja (by omega)] at hb;exact absurd rfl hb
  ·exact h3⟩
def RetQ (w:World) (v:Value) (e:Ending) (w':World):Prop:=e=.returned v∧w'=w
section
variable {w w':World} {D lo RS room:Nat} {pl:Nat→Pd} {tag:Nat→Nat} {S:BS}
theorem q_is (h:DB w D lo RS pl tag S room) (i:Int):Calls Tryz.prog 105 #[Pq D,.int .i64 i] w (RetQ w (.bool (S.isI i))):=by
 unfold RetQ
 by_cases h1:1≤i
 ·by_cases h2:i≤200
  ·obtain ⟨I,rfl⟩:∃I:Nat,i=(I:Int):=⟨i.toNat,by omega⟩
   have c0:=(h.ino I (by omega)).c0
   have hv:S.isI (I:Int)=((S.ino I).kind != 0):=by
    unfold BS.isI
    rw [at_nat]
    by_cases e:(S.ino I).kind=0
    ·rw [e];simp
    ·simp [h1,h2,e]
   rw [hv]
   generalize (S.ino I).kind=kk at *
   clear h hv
   go_enter Tryz.func105,Tryz.ntmps105
   go_wp2_with fail
   go_ret
   exact ⟨rfl,rfl⟩
  ·have hv:S.isI i=false:=by unfold BS.isI;simp;omega
   rw [hv]
   clear h hv
   go_enter Tryz.func105,Tryz.ntmps105
   go_wp2_with fail
   go_ret
   exact ⟨rfl,rfl⟩
 ·have hv:S.isI i=false:=by unfold BS.isI;simp;omega
  rw [hv]
  clear h hv
  go_enter Tryz.func105,Tryz.ntmps105
  go_wp2_with fail
  go_ret
  exact ⟨rfl,rfl⟩
theorem q_dir (h:DB w D lo RS pl tag S room) (d:Int) (c:Bool):Calls Tryz.prog 101 #[Pq D,.int .i64 d,.bool c] w (RetQ w (.int .i64 (S.dirE d c))):=by
 have HI:=Qa (q_is h d)
 unfold RetQ at HI ⊢
 rcases dirE_cases S d with ⟨h1,h2⟩|⟨I,rfl,d1,d2,h1,h3,⟨h4,h5⟩|⟨h4,h5,h6⟩⟩
 ·rw [h1] at HI
  rw [h2]
  clear h h1 h2
  go_enter Tryz.func101,Tryz.ntmps101
  go_wp2_with fail
  refine HI.out.mono ?_
  rintro e w2 ⟨rfl,rfl⟩
  go_wp2_with fail
  go_ret
  exact ⟨rfl,rfl⟩
 ·rw [h1] at HI
  rw [h5]
  have c0:=(h.ino I d2).c0
  generalize (S.ino I).kind=kk at *
  have hk:(kk != 2)=true:=by simpa using h4
  clear h h1 h4 h5
  go_enter Tryz.func101,Tryz.ntmps101
  go_wp2_with fail
  refine HI.out.mono ?_
  rintro e w2 ⟨rfl,rfl⟩
  go_wp2_with fail
  go_ret
  exact ⟨rfl,rfl⟩
 ·rw [h1] at HI
  have c0:=(h.ino I d2).c0
  have c1:=(h.ino I d2).c1
  rw [h4] at c0
  cases c
  ·rw [h5]
   clear h h1 h4 h5 h6 h3
   go_enter Tryz.func101,Tryz.ntmps101
   go_wp2_with fail
   refine HI.out.mono ?_
   rintro e w2 ⟨rfl,rfl⟩
   go_wp2_with fail
   go_ret
   exact ⟨rfl,rfl⟩
  ·generalize (S.ino I).links=ll at *
   rcases h6 with ⟨h6,h7⟩|⟨h6,h7⟩
   ·rw [h7]
    subst h6
    clear h h1 h4 h5 h7 h3
    go_enter Tryz.func101,Tryz.ntmps101
    go_wp2_with fail
    refine HI.out.mono ?_
    rintro e w2 ⟨rfl,rfl⟩
    go_wp2_with fail
    go_ret
    exact ⟨rfl,rfl⟩
   ·rw [h7]
    have hq:(ll == 0)=false:=by simpa using h6
    clear h h1 h4 h5 h6 h7 h3
    go_enter Tryz.func101,Tryz.ntmps101
    go_wp2_with fail
    refine HI.out.mono ?_
    rintro e w2 ⟨rfl,rfl⟩
    go_wp2_with fail
    go_ret
    exact ⟨rfl,rfl⟩
theorem q_set (s:ByteArray) (w:World) (hm:s.size≤9223372036854775807):Calls Tryz.prog 144 #[.string s] w (RetI w (nameE s)):=by
 have HN:=Qa (dn.rname_any s w hm)
 unfold dn.NameE at HN
 unfold RetI
 by_cases he:nerr s.data.toList=0
 ·rw [he] at HN
  obtain ⟨q1,h1⟩:∃a,(s.toList == [46])=a:=⟨_,rfl⟩
  obtain ⟨q2,h2⟩:∃a,(s.toList == [46,46])=a:=⟨_,rfl⟩
  have hV:=Qa (show nameE s=if (q1 || q2)=true then 22 else 0 by unfold nameE dotB;rw [h1,h2,he];simp)
  generalize nameE s=r at *
  clear he
  rcases (show q1=true∨(q1=false∧q2=true)∨(q1=false∧q2=false) by cases q1 <;> cases q2 <;> simp) with rfl|⟨rfl,rfl⟩|⟨rfl,rfl⟩
  all_goals
   go_enter Tryz.func144,Tryz.ntmps144
   go_wp2_with fail
   refine HN.out.mono ?_
   rintro e w2 ⟨rfl,hb2⟩
   go_wp2_with fail
   go_ret
   exact ⟨by rw [hV.out];rfl,hb2⟩
 ·have hV:=Qa (show nameE s=nerr s.data.toList by unfold nameE;rw [Ja (fun h=>he h.1)])
  generalize nameE s=r at *
  generalize nerr s.data.toList=x at *
  have hr:(x == 0)=false:=by simpa using he
  clear he
  go_enter Tryz.func144,Tryz.ntmps144
  go_wp2_with fail
  refine HN.out.mono ?_
  rintro e w2 ⟨rfl,hb2⟩
  go_wp2_with fail
  go_ret
  exact ⟨by rw [hV.out];rfl,hb2⟩
theorem q_dget (h:DB w D lo RS pl tag S room) (hG:br.Good S room) {I:Nat} (hI:I≤200) (s:ByteArray):Calls Tryz.prog 147 #[dn.Px D (1+I*9+7),.string s] w (RetQ w (getV s (S.ino I).dir)) :=
 dn.rgetx_any D (1+I*9+7) lo _ _ _ s w (by have:=hG.1.dirLen I;omega) (h.ino I hI).d
theorem q_get (h:DB w D lo RS pl tag S room) (hG:br.Good S room) (d:Int) (s:ByteArray):Calls Tryz.prog 76 #[Pq D,.int .i64 d,.string s] w (RetQ w (.tuple #[.int .i64 (S.get d s).1,.int .i64 (S.get d s).2])):=by
 have HI:=Qa (q_dir h d false)
 unfold RetQ at HI ⊢
 by_cases h1:S.dirE d false=0
 ·obtain ⟨I,rfl,d1,d2,hD,_⟩:=dirE_ok h1
  have HG:=Qa (q_dget h hG d2 s)
  unfold RetQ at HG
  rw [getV_eq h1] at HG
  rw [h1] at HI
  generalize (S.get (I:Int) s).1=a at *
  generalize (S.get (I:Int) s).2=b at *
  clear h h1 hG
  go_enter Tryz.func76,Tryz.ntmps76
  go_wp2_with fail
  refine HI.out.mono ?_
  rintro e w2 ⟨rfl,rfl⟩
  go_wp2_with fail
  refine HG.out.mono ?_
  rintro e w2 ⟨rfl,rfl⟩
  go_wp2_with fail
  go_ret2
  exact ⟨rfl,rfl⟩
 ·have hv:S.get d s=(0,S.dirE d false):=by unfold BS.get;rw [Jb h1]
  rw [hv]
  generalize S.dirE d false=x at *
  have hr:(x != 0)=true:=by simpa using h1
  clear h h1 hG hv
  go_enter Tryz.func76,Tryz.ntmps76
  go_wp2_with fail
  refine HI.out.mono ?_
  rintro e w2 ⟨rfl,rfl⟩
  go_wp2_with fail
  go_ret2
  exact ⟨rfl,rfl⟩
theorem q_vacant (h:DB w D lo RS pl tag S room) (hG:br.Good S room) (d:Int) (s:ByteArray) (hm:s.size≤9223372036854775807):Calls Tryz.prog 97 #[Pq D,.int .i64 d,.string s] w (RetI w (S.vacant d s)):=by
 have HI:=Qa (q_dir h d true)
 unfold RetQ at HI
 unfold RetI
 by_cases h1:S.dirE d true=0
 ·rw [h1] at HI
  have HN:=Qa (q_set s w hm)
  unfold RetI at HN
  by_cases h2:nameE s=0
  ·rw [h2] at HN
   obtain ⟨I,rfl,d1,d2,hD,_⟩:=dirE_ok h1
   have HG:=Qa (fun w2 (hb:Below w.heap.size w w2)=>q_dget (h.below hb) hG d2 s)
   unfold RetQ at HG
   cases hg:lget s (S.ino I).dir with
   | none =>
    have hv:S.vacant (I:Int) s=0:=by unfold BS.vacant;rw [Ja (by omega),Ja (by omega),at_nat,hg];rfl
    rw [hv]
    rw [show getV s (S.ino I).dir=.tuple #[.int .i64 0,.int .i64 2] from by unfold getV;rw [hg]] at HG
    clear h h1 hG hv h2 hg
    go_enter Tryz.func97,Tryz.ntmps97
    go_wp2_with fail
    refine HI.out.mono ?_
    rintro e w2 ⟨rfl,rfl⟩
    go_wp2_with fail
    refine HN.out.mono ?_
    rintro e w3 ⟨rfl,hb3⟩
    have Qb:=Qa (HG.out w3 hb3)
    go_wp2_with fail
    refine Qb.out.mono ?_
    rintro e w4 ⟨rfl,rfl⟩
    go_wp2_with fail
    go_ret
    exact ⟨rfl,hb3⟩
   | some v =>
    have hv:S.vacant (I:Int) s=17:=by unfold BS.vacant;rw [Ja (by omega),Ja (by omega),at_nat,hg];rfl
    rw [hv]
    rw [show getV s (S.ino I).dir=.tuple #[.int .i64 v,.int .i64 0] from by unfold getV;rw [hg]] at HG
    clear h h1 hG hv h2 hg
    go_enter Tryz.func97,Tryz.ntmps97
    go_wp2_with fail
    refine HI.out.mono ?_
    rintro e w2 ⟨rfl,rfl⟩
    go_wp2_with fail
    refine HN.out.mono ?_
    rintro e w3 ⟨rfl,hb3⟩
    have Qb:=Qa (HG.out w3 hb3)
    go_wp2_with fail
    refine Qb.out.mono ?_
    rintro e w4 ⟨rfl,rfl⟩
    go_wp2_with fail
    go_ret
    exact ⟨rfl,hb3⟩
  ·have hv:S.vacant d s=nameE s:=by unfold BS.vacant;rw [Ja (by omega),Jb h2]
   rw [hv]
   generalize nameE s=x at *
   have hr:(x != 0)=true:=by simpa using h2
   clear h h1 hG hv h2
   go_enter Tryz.func97,Tryz.ntmps97
   go_wp2_with fail
   refine HI.out.mono ?_
   rintro e w2 ⟨rfl,rfl⟩
   go_wp2_with fail
   refine HN.out.mono ?_
   rintro e w3 ⟨rfl,hb3⟩
   go_wp2_with fail
   go_ret
   exact ⟨rfl,hb3⟩
 ·have hv:S.vacant d s=S.dirE d true:=by unfold BS.vacant;rw [Jb h1]
  rw [hv]
  generalize S.dirE d true=x at *
  have hr:(x != 0)=true:=by simpa using h1
  clear h h1 hG hv
  go_enter Tryz.func97,Tryz.ntmps97
  go_wp2_with fail
  refine HI.out.mono ?_
  rintro e w2 ⟨rfl,rfl⟩
  go_wp2_with fail
  go_ret
  exact ⟨rfl,Below.refl _ _⟩
end
section
variable {w w':World} {D lo RS room:Nat} {pl:Nat→Pd} {tag:Nat→Nat} {S:BS}
theorem q_kind (h:DB w D lo RS pl tag S room) (i:Int):Calls Tryz.prog 69 #[Pq D,.int .i64 i] w (RetQ w (.int .i64 (S.kindOf i))):=by
 have HI:=Qa (q_is h i)
 unfold RetQ at HI ⊢
 rcases isI_cases S i with hI|⟨I,rfl,i1,i2,hn,hI⟩
 ·rw [hI] at HI
  rw [show S.kindOf i=0 by unfold BS.kindOf;rw [hI];rfl]
  clear h hI
  go_enter Tryz.func69,Tryz.ntmps69
  go_wp2_with fail
  refine HI.out.mono ?_
  rintro e w2 ⟨rfl,rfl⟩
  go_wp2_with fail
  go_ret
  exact ⟨rfl,rfl⟩
 ·rw [hI] at HI
  rw [show S.kindOf (I:Int)=(S.ino I).kind from kind_of i1 i2]
  have c0:=(h.ino I i2).c0
  generalize (S.ino I).kind=kk at *
  clear h hI hn
  go_enter Tryz.func69,Tryz.ntmps69
  go_wp2_with fail
  refine HI.out.mono ?_
  rintro e w2 ⟨rfl,rfl⟩
  go_wp2_with fail
  go_ret
  exact ⟨rfl,rfl⟩
theorem q_target (h:DB w D lo RS pl tag S room) (i:Int):Calls Tryz.prog 85 #[Pq D,.int .i64 i] w (RetQ w (.tuple #[.string (S.targetOf i).1,.int .i64 (S.targetOf i).2])):=by
 have HI:=Qa (q_is h i)
 unfold RetQ at HI ⊢
 rcases isI_cases S i with hI|⟨I,rfl,i1,i2,hn,hI⟩
 ·rw [hI] at HI
  rw [show S.targetOf i=(⟨#[]⟩,2) by unfold BS.targetOf;rw [Jb hI]]
  clear h hI
  go_enter Tryz.func85,Tryz.ntmps85
  go_wp2_with fail
  refine HI.out.mono ?_
  rintro e w2 ⟨rfl,rfl⟩
  go_wp2_with fail
  go_ret2
  exact ⟨rfl,rfl⟩
 ·rw [hI] at HI
  have c0:=(h.ino I i2).c0
  have c8:=(h.ino I i2).c8
  by_cases hk:(S.ino I).kind=3
  ·rw [show S.targetOf (I:Int)=((S.ino I).target,0) by unfold BS.targetOf;rw [Ja (by rw [hI];decide),at_nat,Ja (by rw [hk];decide)]]
   rw [hk] at c0
   generalize (S.ino I).target=tt at *
   clear h hI hn hk
   go_enter Tryz.func85,Tryz.ntmps85
   go_wp2_with fail
   refine HI.out.mono ?_
   rintro e w2 ⟨rfl,rfl⟩
   go_wp2_with fail
   go_ret2
   exact ⟨rfl,rfl⟩
  ·rw [show S.targetOf (I:Int)=(⟨#[]⟩,22) by unfold BS.targetOf;rw [Ja (by rw [hI];decide),at_nat,Jb hk]]
   generalize (S.ino I).kind=kk at *
   have hq:(kk != 3)=true:=by simpa using hk
   clear h hI hn hk c8
   go_enter Tryz.func85,Tryz.ntmps85
   go_wp2_with fail
   refine HI.out.mono ?_
   rintro e w2 ⟨rfl,rfl⟩
   go_wp2_with fail
   go_ret2
   exact ⟨rfl,rfl⟩
theorem q_file (h:DB w D lo RS pl tag S room) (i:Int):Calls Tryz.prog 108 #[Pq D,.int .i64 i] w (RetQ w (.int .i64 (S.fileE i))):=by
 have HK:=Qa (q_kind h i)
 unfold RetQ at HK ⊢
 unfold BS.fileE
 generalize S.kindOf i=kk at *
 clear h
 by_cases h0:kk=0
 ·subst h0
  rw [Jb rfl]
  go_enter Tryz.func108,Tryz.ntmps108
  go_wp2_with fail
  refine HK.out.mono ?_
  rintro e w2 ⟨rfl,rfl⟩
  go_wp2_with fail
  go_ret
  exact ⟨rfl,rfl⟩
 rw [Ja h0]
 by_cases h2:kk=2
 ·subst h2
  rw [Jb rfl]
  go_enter Tryz.func108,Tryz.ntmps108
  go_wp2_with fail
  refine HK.out.mono ?_
  rintro e w2 ⟨rfl,rfl⟩
  go_wp2_with fail
  go_ret
  exact ⟨rfl,rfl⟩
 rw [Ja h2]
 by_cases h1:kk=1
 ·subst h1
  rw [Jb rfl]
  go_enter Tryz.func108,Tryz.ntmps108
  go_wp2_with fail
  refine HK.out.mono ?_
  rintro e w2 ⟨rfl,rfl⟩
  go_wp2_with fail
  go_ret
  exact ⟨rfl,rfl⟩
 rw [Ja h1]
 have q0:(kk == 0)=false:=by simpa using h0
 have q1:(kk == 1)=false:=by simpa using h1
 have q2:(kk == 2)=false:=by simpa using h2
 clear h0 h1 h2
 go_enter Tryz.func108,Tryz.ntmps108
 go_wp2_with fail
 refine HK.out.mono ?_
 rintro e w2 ⟨rfl,rfl⟩
 go_wp2_with fail
 go_ret
 exact ⟨rfl,rfl⟩
end
def NxD (w w':World) (D lo RS:Nat) (tag:Nat→Nat) (S':BS) (room:Nat):Prop:=∃pl' tag',DB w' D lo RS pl' tag' S' room∧Stp w w' tag tag'
def RetD (w:World) (D lo RS:Nat) (tag:Nat→Nat) (v:Value) (S':BS) (room:Nat) (e:Ending) (w':World):Prop:=e=.returned v∧NxD w w' D lo RS tag S' room
section
variable {w w' w2:World} {D lo RS room:Nat} {pl:Nat→Pd} {tag:Nat→Nat} {S S':BS}
theorem DB.nxb (h:DB w D lo RS pl tag S room) (hb:Below w.heap.size w w'):NxD w w' D lo RS tag S room:=⟨pl,tag,h.below hb,Stp.below hb⟩
theorem DB.drew (h:DB w D lo RS pl tag S room):DB w.drew D lo RS pl tag S room:=h.below (Below.refl _ _).drew
theorem NxD.trans {tag1:Nat→Nat} (h:Stp w w' tag tag1) (k:NxD w' w2 D lo RS tag1 S' room):NxD w w2 D lo RS tag S' room:=by
 obtain ⟨pl',tag',h1,h2⟩:=k
 exact ⟨pl',tag',h1,h.trans h2⟩
theorem DB.loD (h:DB w D lo RS pl tag S room):D<w.heap.size∧lo≤w.heap.size∧RS≠D:=by
 have:=h.lt (b:=D) (by rw [h.tD];decide)
 exact ⟨this.1,by omega,fun e=>by have h1:=h.tS;rw [e,h.tD] at h1;cases h1⟩
theorem DB.stoKeep (h:DB w D lo RS pl tag S room) {F:Nat→Prop} (ho:Only F w w') (hF:∀b,F b→b=D):StoC w' RS room S.used :=
 StoC.keep h.sto (ho.block RS (h.lt (by rw [h.tS];decide)).1 (fun hf=>h.loD.2.2 (hF RS hf)))
theorem DB.laid (h:DB w D lo RS pl tag S room) {k:Nat} (hk:k≤200) (hD:(S.ino k).kind=2) {K:List En} {v:Value} {e:Ending} (hl:LaidX w D (1+k*9+7) v K e w'):NxD w w' D lo RS tag ⟨br.upd S.ino k { S.ino k with dir:=K },S.used⟩ room:=by
 have hi:=h.ino k hk
 obtain ⟨gg,cap,hg,hd⟩:=hl.dux hi.d h.loD.2.1
 obtain ⟨_,gg1,cap1,w4,hb,hg1,hr1,rfl⟩:=hl
 have hc:∀j,j≠1+k*9+7→(w4.setCell ⟨D,1+k*9+7,none⟩ (.slice (some ⟨gg1,0,none⟩) K.length cap1)).cell? ⟨D,j,none⟩=w.cell? ⟨D,j,none⟩:=fun j hj=>by
  rw [cell_oth _ _ _ _ _ hj]
  exact World.cell?_of_block (a:=⟨D,j,none⟩) (hb.block D h.loD.1)
 have hf:∀j,(w4.setCell ⟨D,1+k*9+7,none⟩ (.slice (some ⟨gg1,0,none⟩) K.length cap1)).frozen? ⟨D,j,none⟩=w.frozen? ⟨D,j,none⟩:=fun j=>by
  rw [World.frozen?_setCell]
  exact World.frozen?_of_block (a:=⟨D,j,none⟩) (hb.block D h.loD.1)
 have ma:∀b,b<w.heap.size→b≠D→(w4.setCell ⟨D,1+k*9+7,none⟩ (.slice (some ⟨gg1,0,none⟩) K.length cap1)).heap[b]?=w.heap[b]?:=fun b h1 h2=>(Below.heap_setCell _ _ _ _ h2).trans (hb.block b h1)
 have ho:Only (fun b=>b=D) w (w4.setCell ⟨D,1+k*9+7,none⟩ (.slice (some ⟨gg1,0,none⟩) K.length cap1)):=⟨hb.os,hb.tape,hb.output,by simpa [World.setCell] using hb.size,ma⟩
 refine h.turn hk (p':=⟨(pl k).vB,(pl k).vT,(pl k).T,some gg,cap⟩) ho (fun b hb=>.inl hb) (fun j hj=>hc j (by omega)) hf ?_ (fun b hb=>?_) (h.stoKeep ho (fun b hb=>hb))
 ·exact ⟨(hc _ (by omega)).trans hi.c0,(hc _ (by omega)).trans hi.c1,(hc _ (by omega)).trans hi.c2,(hc _ (by omega)).trans hi.c3,(hc _ (by omega)).trans hi.c4,
   rb_keep hi.b (hc _ (by omega)) (hc _ (by omega)) hf (fun g e=>ma g (hi.own (.inl e)).2.1 (hi.own (.inl e)).2.2) (fun g e=>ma g (hi.own (.inr (.inl e))).2.1 (hi.own (.inr (.inl e))).2.2),hd,(hc _ (by omega)).trans hi.c8,hi.nb,fun h2=>absurd hD h2⟩
 ·rcases hb with e|e|e
  ·exact .inl (.inl e)
  ·exact .inl (.inr (.inl e))
  ·right
   have:gg=b:=by injection e
   omega
theorem DB.body (h:DB w D lo RS pl tag S room) {k:Nat} (hk:k≤200) (hD:(S.ino k).kind=1) {u T:Nat} {vB vT:Value} {b':AB} (hr:RS2 w w' lo D (1+k*9+5) RS room u (RF D (pl k).vB (pl k).vT) vB vT b' T):NxD w w' D lo RS tag ⟨br.upd S.ino k { S.ino k with body:=b' },u⟩ room:=by
 have hi:=h.ino k hk
 have ma:=hi.nd (by rw [hD];decide)
 have hc:∀j,j≠1+k*9+5→j≠1+k*9+6→w'.cell? ⟨D,j,none⟩=w.cell? ⟨D,j,none⟩:=fun j h1 h2=>(hr.kp j h1 h2).1
 have hf:∀j,w'.frozen? ⟨D,j,none⟩=w.frozen? ⟨D,j,none⟩:=fun j=>by
  by_cases e1:j=1+k*9+5
  ·subst e1;rw [hr.r.f0,h.cf]
  ·by_cases e2:j=1+k*9+6
   ·subst e2;rw [show 1+k*9+6=1+k*9+5+1 from rfl,hr.r.f1,h.cf]
   ·exact (hr.kp j e1 e2).2
 refine h.turn hk (p':=⟨vB,vT,T,(pl k).o,(pl k).c⟩) hr.o (fun b hb=>?_) (fun j hj=>hc j (by omega) (by omega)) hf ?_ (fun b hb=>?_) hr.s
 ·rcases hb with (e|e|e)|e
  ·exact .inl e
  ·exact .inr (.inr (.inl e))
  ·exact .inr (.inr (.inr (.inl e)))
  ·exact .inr (.inl e)
 ·exact ⟨(hc _ (by omega) (by omega)).trans hi.c0,(hc _ (by omega) (by omega)).trans hi.c1,(hc _ (by omega) (by omega)).trans hi.c2,(hc _ (by omega) (by omega)).trans hi.c3,(hc _ (by omega) (by omega)).trans hi.c4,hr.r,
   hi.d.of_cell (hc _ (by omega) (by omega)) (hf _) (fun G e=>by rw [ma.1] at e;cases e),(hc _ (by omega) (by omega)).trans hi.c8,fun h2=>absurd hD h2,hi.nd⟩
 ·rcases hb with e|e|e
  ·rcases hr.f b (.inr (.inl e)) with (h1|h1|h1)|h1
   ·exact absurd h1 (fun e1=>hr.r.nB (by rw [e,e1]))
   ·exact .inl (.inl h1)
   ·exact .inl (.inr (.inl h1))
   ·exact .inr h1
  ·rcases hr.f b (.inr (.inr e)) with (h1|h1|h1)|h1
   ·exact absurd h1 (fun e1=>hr.r.nT (by rw [e,e1]))
   ·exact .inl (.inl h1)
   ·exact .inl (.inr (.inl h1))
   ·exact .inr h1
  ·exact .inl (.inr (.inr e))
theorem DB.blank (h:DB w D lo RS pl tag S room) {k:Nat} (hk:k≤200) {u:Nat} {F:Nat→Prop} {a0 a1 a2 a3 a4:Int} {t:ByteArray} (ho:Only F w w') (hF:∀b,F b→b=D∨b=RS∨Own (pl k) b)
  (hc:∀j,j<1+k*9∨1+k*9+9≤j→w'.cell? ⟨D,j,none⟩=w.cell? ⟨D,j,none⟩) (hf:∀j,w'.frozen? ⟨D,j,none⟩=w.frozen? ⟨D,j,none⟩) (hs:StoC w' RS room u)
  (c0:w'.cell? ⟨D,1+k*9,none⟩=some (.int .i64 a0)) (c1:w'.cell? ⟨D,1+k*9+1,none⟩=some (.int .i64 a1)) (c2:w'.cell? ⟨D,1+k*9+2,none⟩=some (.int .i64 a2)) (c3:w'.cell? ⟨D,1+k*9+3,none⟩=some (.int .i64 a3)) (c4:w'.cell? ⟨D,1+k*9+4,none⟩=some (.int .i64 a4))
  (c5:w'.cell? ⟨D,1+k*9+5,none⟩=some (.slice none 0 0)) (c6:w'.cell? ⟨D,1+k*9+6,none⟩=some (.slice none 0 0)) (c7:w'.cell? ⟨D,1+k*9+7,none⟩=some (.slice none 0 0)) (c8:w'.cell? ⟨D,1+k*9+8,none⟩=some (.string t)) :
  NxD w w' D lo RS tag ⟨br.upd S.ino k ⟨a0,a1,a2,a3,a4,abE,[],t⟩,u⟩ room :=
 h.turn hk (p':=pd0) ho hF hc hf (DI.blank c0 c1 c2 c3 c4 c5 c6 c7 c8 (fun j=>(hf j).trans (h.cf j))) (fun b hb=>absurd hb (own0 b)) hs
def blankL (a0 a1 a2 a3 a4:Int) (t:ByteArray):List Value:=[.int .i64 a0,.int .i64 a1,.int .i64 a2,.int .i64 a3,.int .i64 a4,.slice none 0 0,.slice none 0 0,.slice none 0 0,.string t]
theorem one9 (a0 a1 a2 a3 a4:Int) (t:ByteArray):(#[Value.int .i64 a0,.int .i64 a1,.int .i64 a2,.int .i64 a3,.int .i64 a4,.slice none 0 0,.slice none 0 0,.slice none 0 0,.string t]:Array Value).all (·.oneCell')=true:=by
 simp [Value.oneCell']
theorem only_sets (D:Nat):∀(vs:List Value) (o:Nat) (w:World),Only (fun b=>b=D) w (w.setCells D o vs)
 | [],_,w=>Only.refl _ w
 | v::r,o,w=>(only_set w D o v).trans (only_sets D r (o+1) _)
theorem DB.there (h:DB w D lo RS pl tag S room) {k:Nat} (hk:k≤200):w.there D (1+k*9) 9:=fun j hj=>by
 have hi:=h.ino k hk
 refine ⟨?_,h.cf _⟩
 match j,hj with
 | 0,_=>rw [Nat.add_zero,hi.c0];rfl
 | 1,_=>rw [hi.c1];rfl
 | 2,_=>rw [hi.c2];rfl
 | 3,_=>rw [hi.c3];rfl
 | 4,_=>rw [hi.c4];rfl
 | 5,_=>rw [hi.b.c0];rfl
 | 6,_=>have:=hi.b.c1;rw [show 1+k*9+6=1+k*9+5+1 from rfl,this];rfl
 | 7,_=>rw [hi.d.d0];rfl
 | 8,_=>rw [hi.c8];rfl
theorem DB.layOver (h:DB w D lo RS pl tag S room) {k:Nat} (hk:k≤200) {u:Nat} {F:Nat→Prop} {w3:World} (ho:Only F w w3) (hF:∀b,F b→b=D∨b=RS∨Own (pl k) b)
  (hc:∀j,j<1+k*9∨1+k*9+9≤j→w3.cell? ⟨D,j,none⟩=w.cell? ⟨D,j,none⟩) (hf:∀j,w3.frozen? ⟨D,j,none⟩=w.frozen? ⟨D,j,none⟩) (hs:StoC w3 RS room u) (ht:w3.there D (1+k*9) 9) (a0 a1 a2 a3 a4:Int) (t:ByteArray) :
  NxD w (w3.setCells D (1+k*9) (blankL a0 a1 a2 a3 a4 t)) D lo RS tag ⟨br.upd S.ino k ⟨a0,a1,a2,a3,a4,abE,[],t⟩,u⟩ room:=by
 have hr:=World.rangeAt_setCells_same w3 D (1+k*9) (blankL a0 a1 a2 a3 a4 t) ht
 have o2:=only_sets D (blankL a0 a1 a2 a3 a4 t) (1+k*9) w3
 refine h.blank hk (F:=fun b=>F b∨b=D) ((ho.mono fun b hb=>.inl hb).trans (o2.mono fun b hb=>.inr hb)) (fun b hb=>?_) (fun j hj=>?_) (fun j=>?_) (StoC.keep hs (o2.block RS (World.block_lt_of_cell? w3 _ hs.c0) h.loD.2.2))
  (hr 0 _ rfl) (hr 1 _ rfl) (hr 2 _ rfl) (hr 3 _ rfl) (hr 4 _ rfl) (hr 5 _ rfl) (hr 6 _ rfl) (hr 7 _ rfl) (hr 8 _ rfl)
 ·rcases hb with hb|hb
  ·exact hF b hb
  ·exact .inl hb
 ·rw [World.cell?_setCells_out D _ _ w3 ⟨D,j,none⟩ (fun _ _=>hj)];exact hc j hj
 ·rw [World.frozen?_setCells];exact hf j
theorem DB.lay (h:DB w D lo RS pl tag S room) {k:Nat} (hk:k≤200) (a0 a1 a2 a3 a4:Int) (t:ByteArray) :
  NxD w (w.setCells D (1+k*9) (blankL a0 a1 a2 a3 a4 t)) D lo RS tag ⟨br.upd S.ino k ⟨a0,a1,a2,a3,a4,abE,[],t⟩,S.used⟩ room :=
 h.layOver hk (Only.refl (fun _=>False) w) (fun _ h=>h.elim) (fun _ _=>rfl) (fun _=>rfl) h.sto (h.there hk) a0 a1 a2 a3 a4 t
theorem q_dset (h:DB w D lo RS pl tag S room) {I:Nat} (hI:I≤200) (hk:(S.ino I).kind=2) (hs:Sorted (S.ino I).dir) (hl:(S.ino I).dir.length≤4000) (hg:∀e∈(S.ino I).dir,e.1.size≤9223372036854775807) (s:ByteArray) (v:Int) (hm:s.size≤9223372036854775807) (he:nerr s.data.toList=0) (hd:dotB s=false) (hv:1≤v) :
  Calls Tryz.prog 98 #[dn.Px D (1+I*9+7),.string s,.int .i64 v] w (RetD w D lo RS tag (.int .i64 0) ⟨br.upd S.ino I { S.ino I with dir:=lset s v (S.ino I).dir },S.used⟩ room) :=
 (dn.rsetx_ok D (1+I*9+7) lo _ _ _ s v w hm hg (h.ino I hI).d hs (by omega) he hd (by omega)).mono fun _ _ hl=>⟨hl.1,h.laid hI hk hl⟩
end
section
variable {w w':World} {D lo RS room:Nat} {pl:Nat→Pd} {tag:Nat→Nat} {S:BS}
theorem Good_body2 {S:BS} {room:Nat} (h:br.Good S room) (hr:room≤65536) (I:Nat):(S.ino I).body.Ok∧(S.ino I).body.n≤S.used∧S.used≤65536:=by
 refine ⟨h.1.body I,?_,by have:=h.1.room;omega⟩
 by_cases e:1≤I∧I≤200
 ·rw [h.1.used];exact sumF_le (f:=fun k=>(S.ino k).body.n) e.1 e.2
 ·rw [h.1.out I (by omega)];show abE.n≤_;rw [abE_n];exact Nat.zero_le _
end
end cb
end Go.Proofs.YtgoddboicjfkcaaGreat
