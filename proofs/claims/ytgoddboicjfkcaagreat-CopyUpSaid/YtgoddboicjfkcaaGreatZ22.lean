/- Contracts and mathematics, part 22. -/
import Derived.Test.YtgoddboicjfkcaaGreatZ20
set_option linter.unusedVariables false
set_option linter.unusedSimpArgs false
set_option maxRecDepth 100000
set_option maxHeartbeats 8000000
namespace Go.Proofs.YtgoddboicjfkcaaGreat
namespace cb
open Go.RowKit
open br
open bl (AB WR Pq U8)
def sF (s:ByteArray):Nat→UInt8:=fun j=>s.data.toList.getD j 0
theorem conv_bytes (w:World) (s:ByteArray) (hs:s.size≤1000000):∃c w',(convert 9 53 (.string s)).run Tryz.prog w=.ok (.slice (some ⟨w.heap.size,0,none⟩) s.size c) w'∧s.size≤c∧c≤maxLen∧Below w.heap.size w w'∧w.heap.size<w'.heap.size∧∀j,j<s.size→w'.cell? ⟨w.heap.size,0+j,none⟩=some (U8 (sF s j)):=by
 refine ⟨_,_,Lib.run_convert_string_bytes w 9 53 5 s Tryz.underlying9 Tryz.underlying53 Tryz.underlying5,grownCap_ge _ _ _ _,grownCap_le_maxLen _ _ _ _ (by unfold maxLen;omega),?_,by rw [Lib.bytesWorld_size];omega,fun j hj=>?_⟩
 ·refine ⟨?_,?_,?_,by rw [Lib.bytesWorld_size];omega,fun k hk=>Lib.bytesWorld_at_old w 5 s k hk⟩
  ·simp [Lib.bytesWorld,World.freeze] <;> rfl
  ·simp [Lib.bytesWorld,World.freeze] <;> rfl
  ·simp [Lib.bytesWorld,World.freeze] <;> rfl
 ·rw [Nat.zero_add];exact Lib.bytesWorld_cell w 5 s j hj

end cb
namespace mg
open Go.RowKit
open dn (En lget lset ldel nerr dotB Sorted lessB)
open br (BS Ino Inv fresh)
open cb (Act7 WrI sF MadeI)
open bl (Pq WR IsStop)
abbrev zL:ByteArray:=⟨#[108]⟩
end mg
namespace mg
open Go.RowKit
open br (BS Ino Inv fresh)
open cb (BrX RetW RetI No Act7 ReadI)
open bl (Pq Only)
def AwakeE (w:World) (e:Ending) (w':World):Prop:=e=.returned (.bool true)∧Below w.heap.size w w'
end mg
namespace mg
open Go.RowKit Go.Deep
open br (BS Ino Inv fresh)
open cb (BrX RetW RetI No DB RetQ Pd)
open bl (Pq)
structure Vd (w:World) (D1 D2:Nat) (U L:BS):Prop where
 d1:∃lo RS pl tg r,DB w D1 lo RS pl tg U r∧br.Good U r
 d2:∃lo RS pl tg r,DB w D2 lo RS pl tg L r∧br.Good L r
abbrev Rv (D1 D2:Nat) (u l:Int):Value:=.agg #[Pq D1,Pq D2,.int .i64 u,.int .i64 l]
structure R4 (w:World) (g:Nat) (D1 D2:Nat) (u l:Int):Prop where
 c0:w.cell? ⟨g,0,none⟩=some (Pq D1)
 c1:w.cell? ⟨g,1,none⟩=some (Pq D2)
 c2:w.cell? ⟨g,2,none⟩=some (.int .i64 u)
 c3:w.cell? ⟨g,3,none⟩=some (.int .i64 l)
section
variable {w w':World} {D1 D2 g:Nat} {U L:BS} {u l:Int}
theorem Vd.below (h:Vd w D1 D2 U L) (hb:Below w.heap.size w w'):Vd w' D1 D2 U L :=
 ⟨by obtain ⟨a,b,c,d,r,e,g⟩:=h.d1;exact ⟨a,b,c,d,r,e.below hb,g⟩,by obtain ⟨a,b,c,d,r,e,g⟩:=h.d2;exact ⟨a,b,c,d,r,e.below hb,g⟩⟩
theorem Vd.i1 (h:Vd w D1 D2 U L):∃r,Inv U r:=by obtain ⟨_,_,_,_,r,_,g⟩:=h.d1;exact ⟨r,g.1⟩
theorem Vd.i2 (h:Vd w D1 D2 U L):∃r,Inv L r:=by obtain ⟨_,_,_,_,r,_,g⟩:=h.d2;exact ⟨r,g.1⟩
theorem R4.new (w:World) (D1 D2:Nat) (u l:Int):R4 (w.alloc (.cells #[Pq D1,Pq D2,.int .i64 u,.int .i64 l] 36)) w.heap.size D1 D2 u l:=⟨by simp,by simp,by simp,by simp⟩
theorem R4.lt (h:R4 w g D1 D2 u l):g<w.heap.size:=World.block_lt_of_cell? _ _ h.c0
theorem R4.below (h:R4 w g D1 D2 u l) (hb:Below w.heap.size w w'):R4 w' g D1 D2 u l :=
 ⟨(hb.cell (p:=⟨g,0,none⟩) h.lt).trans h.c0,(hb.cell (p:=⟨g,1,none⟩) h.lt).trans h.c1,(hb.cell (p:=⟨g,2,none⟩) h.lt).trans h.c2,(hb.cell (p:=⟨g,3,none⟩) h.lt).trans h.c3⟩
theorem quiet_below {f:FuncId} {args:Array Value} {v:Value} (h:Calls Tryz.prog f args w (RetQ w v)):Calls Tryz.prog f args w (fun e w'=>e=.returned v∧Below w.heap.size w w'):=h.mono fun _ _ ⟨a,b⟩=>⟨a,by rw [b];exact Below.refl _ _⟩
theorem Vd.kind1 (h:Vd w D1 D2 U L) (i:Int):Calls Tryz.prog 69 #[Pq D1,.int .i64 i] w (fun e w'=>e=.returned (.int .i64 (U.kindOf i))∧Below w.heap.size w w'):=by obtain ⟨_,_,_,_,_,k,g⟩:=h.d1;exact quiet_below (cb.q_kind k i)
theorem Vd.kind2 (h:Vd w D1 D2 U L) (i:Int):Calls Tryz.prog 69 #[Pq D2,.int .i64 i] w (fun e w'=>e=.returned (.int .i64 (L.kindOf i))∧Below w.heap.size w w'):=by obtain ⟨_,_,_,_,_,k,g⟩:=h.d2;exact quiet_below (cb.q_kind k i)
theorem Vd.get1 (h:Vd w D1 D2 U L) (i:Int) (s:ByteArray):Calls Tryz.prog 76 #[Pq D1,.int .i64 i,.string s] w (fun e w'=>e=.returned (.tuple #[.int .i64 (U.get i s).1,.int .i64 (U.get i s).2])∧Below w.heap.size w w'):=by obtain ⟨_,_,_,_,_,k,g⟩:=h.d1;exact quiet_below (cb.q_get k g i s)
theorem Vd.get2 (h:Vd w D1 D2 U L) (i:Int) (s:ByteArray):Calls Tryz.prog 76 #[Pq D2,.int .i64 i,.string s] w (fun e w'=>e=.returned (.tuple #[.int .i64 (L.get i s).1,.int .i64 (L.get i s).2])∧Below w.heap.size w w'):=by obtain ⟨_,_,_,_,_,k,g⟩:=h.d2;exact quiet_below (cb.q_get k g i s)
end
theorem rkind_any {w:World} {D1 D2:Nat} {U L:BS} {u l:Int} (h:Vd w D1 D2 U L) (n:Nd):Calls Tryz.prog 20 #[Rv D1 D2 u l,Nv n] w (RetI w (kindV U L n)):=by
 obtain ⟨n1,n2⟩:=n
 obtain ⟨w1,hw1⟩:∃w1,(w.alloc (.cells #[Pq D1,Pq D2,.int .i64 u,.int .i64 l] 36)).alloc (.cells #[.int .i64 n1,.int .i64 n2] 24)=w1:=⟨_,rfl⟩
 have ma:Below w.heap.size w w1:=by rw [←hw1];exact bel_step (bel_alloc _ _) (bel_alloc _ _)
 have HR:=Qa (show R4 w1 w.heap.size D1 D2 u l by rw [←hw1];exact (R4.new w D1 D2 u l).below (bel_alloc _ _))
 have HN:=Qa (show Nb w1 (w.heap.size+1) (n1,n2) by rw [←hw1];have:=Nb.new (w.alloc (.cells #[Pq D1,Pq D2,.int .i64 u,.int .i64 l] 36)) n1 n2;rwa [World.size_alloc] at this)
 have HD:=Qa (fun W (hb:Below w1.heap.size w1 W)=>(h.below ma).below hb)
 have Qc:=Qa (fun W (hb:Below w1.heap.size w1 W)=>(HD.out W hb).kind1 n1)
 have Qe:=Qa (fun W (hb:Below w1.heap.size w1 W)=>(HD.out W hb).kind2 n2)
 have Qd:=Qa ma
 have HV:=Qa (show kindV U L (n1,n2)=if (if n1≠0 then U.kindOf n1 else L.kindOf n2)=4 then 0 else (if n1≠0 then U.kindOf n1 else L.kindOf n2) from rfl)
 generalize kindV U L (n1,n2)=kv at *
 generalize U.kindOf n1=k1 at *
 generalize L.kindOf n2=k2 at *
 obtain ⟨g,hg⟩:∃g,w.heap.size=g:=⟨_,rfl⟩
 rw [hg] at HR HN
 obtain ⟨a0,a1,a2,a3⟩:=HR.out
 obtain ⟨b0,b1⟩:=HN.out
 dsimp only at b0 b1
 clear h ma HD
 unfold RetI
 go_enter Tryz.func20,Tryz.ntmps20
 go_wp2_with fail
 refine (Qc.out _ (Below.refl _ _)).mono ?_
 rintro _ w2 ⟨rfl,hb2⟩
 have Qb:=Qa hb2
 have Qf:=Qa (HR.out.below hb2)
 have Qg:=Qa (HN.out.below hb2)
 clear hb2 a0 a1 a2 a3 b0 b1 Qc
 obtain ⟨a0,a1,a2,a3⟩:=Qf.out
 obtain ⟨b0,b1⟩:=Qg.out
 dsimp only at b0 b1
 by_cases h1:n1=0
 ·subst h1
  go_wp2_with fail
  refine (Qe.out _ Qb.out).mono ?_
  rintro _ w3 ⟨rfl,hb3⟩
  have HE:=Qa (bel_step Qd.out (bel_step Qb.out hb3))
  have hv:=HV.out
  clear hb3 HV
  by_cases h4:k2=4
  ·subst h4
   simp at hv
   subst hv
   go_wp2_with fail
   go_ret
   exact ⟨rfl,HE.out⟩
  ·have q4:(k2 == 4)=false:=by simpa using h4
   simp [h4] at hv
   subst hv
   go_wp2_with fail
   go_ret
   exact ⟨rfl,HE.out⟩
 ·have q1:(n1 == 0)=false:=by simpa using h1
  have HE:=Qa (bel_step Qd.out Qb.out)
  have hv:=HV.out
  clear HV
  by_cases h4:k1=4
  ·subst h4
   simp [h1] at hv
   subst hv
   clear h1
   go_wp2_with fail
   go_ret
   exact ⟨rfl,HE.out⟩
  ·have q4:(k1 == 4)=false:=by simpa using h4
   simp [h1,h4] at hv
   subst hv
   clear h1 h4
   go_wp2_with fail
   go_ret
   exact ⟨rfl,HE.out⟩
end mg
namespace cu
open Go.RowKit Go.Deep
open br (BS Ino Inv at_nat)
open cb (BrX RetW RetI No KB KD Res HB Stab NxR Same CB InoC)
open bl (Pq Only)
open mg (bel_step bel_alloc Vd)
theorem du_lower {w:World} {D lo lo' c:Nat} {o:Option Nat} {L:List dn.En} (h:dn.Du w D lo o c L) (hl:lo'≤lo):dn.Du w D lo' o c L:=by
 refine ⟨h.d0,h.f0,?_⟩
 cases o with
 | none=>exact h.row
 | some G=>exact ⟨Nat.le_trans hl h.row.1,h.row.2⟩
theorem ql_lower {w:World} {Q lo lo' T:Nat} {o:Option Nat} {L:List qu.KN} (h:qu.QL w Q lo o L T) (hl:lo'≤lo):qu.QL w Q lo' o L T:=by
 obtain ⟨c,xs,h,r⟩:=h
 refine ⟨c,xs,⟨h.q0,h.q1,h.f0,h.f1,?_⟩,r⟩
 have hr:=h.row
 cases o with
 | none=>exact hr
 | some G=>exact ⟨Nat.le_trans hl hr.1,hr.2⟩
theorem cb_lower {w:World} {P lo lo' st qb room T:Nat} {qo:Option Nat} {pl:Nat→cb.Pl} {tag:Nat→Nat} {S:BS} {L:List qu.KN} (h:CB w P lo st qb qo pl tag S room L T) (hl:lo'≤lo):CB w P lo' st qb qo pl tag S room L T :=
 { h with
  q:=ql_lower h.q hl
  ino:=fun k hk hn=>{ h.ino k hk hn with dir:=fun e=>du_lower ((h.ino k hk hn).dir e) hl }
  lo:=fun b hb=>h.lo b (Nat.lt_of_lt_of_le hb hl) }
theorem brx_lower {w0 w w':World} {P room T:Nat} {X:Nat→Prop} {S:BS} (h:BrX w w' P X S room T) (hb:Below w0.heap.size w0 w):BrX w0 w' P X S room T:=by
 obtain ⟨st,qb,qo,pl,tag,Tq,h1,h2,h3,h4,h5,h6,h7⟩:=h
 exact ⟨st,qb,qo,pl,tag,Tq,cb_lower h1 hb.size,h2,h3,h4,h5,bel_step hb h6,h7⟩
theorem add_made {w0 w w':World} {L:List Res} {X:Nat→Prop} {P r T:Nat} {S:BS} (h:cb.Sys w0 w L X) (hm:BrX w w' P (fun b=>b<w.heap.size) S r T):cb.Sys w0 w' (L++[KB w0 P S r T]) X:=by
 obtain ⟨O,h1,h2⟩:=KB.made (brx_lower hm h.bel)
 exact h.add hm.bel KB.stab h1 h2
section
variable {w0 w:World} {L L':List Res} {X:Nat→Prop}
theorem Sys.perm (h:cb.Sys w0 w L X) (σ:Nat→Nat) (hinj:∀i j,i<L'.length→j<L'.length→σ i=σ j→i=j) (hL:∀i r,L'[i]?=some r→L[σ i]?=some r):cb.Sys w0 w L' X:=by
 classical
 obtain ⟨g,h1,h3,h2⟩:=h.tag
 have key:∀i,i<L'.length→∀b,((if e:∃j,j<L'.length∧g b=σ j+1 then e.choose+1 else 0)=i+1↔g b=σ i+1):=fun i hi b=>by
  by_cases e:∃j,j<L'.length∧g b=σ j+1
  ·rw [dif_pos e]
   have hs:=e.choose_spec
   constructor
   ·intro e2
    rw [show i=e.choose from by omega];exact hs.2
   ·intro e2
    rw [hinj _ _ hs.1 hi (by omega)]
  ·rw [dif_neg e]
   exact ⟨fun e2=>by omega,fun e2=>absurd ⟨i,hi,e2⟩ e⟩
 have zero:∀b,g b=0→(if e:∃j,j<L'.length∧g b=σ j+1 then e.choose+1 else 0)=0:=fun b hb=>by
  rw [dif_neg]
  rintro ⟨j,_,hj⟩
  omega
 refine ⟨h.bel,fun i r hi=>h.stab _ r (hL i r hi),fun b=>if e:∃j,j<L'.length∧g b=σ j+1 then e.choose+1 else 0,fun i r hi=>?_,fun b hb=>zero b (h3 b hb),fun b hb=>⟨(h2 b hb).1,zero b (h2 b hb).2⟩⟩
 have hlt:=(List.getElem?_eq_some_iff.1 hi).1
 have:(fun b=>(if e:∃j,j<L'.length∧g b=σ j+1 then e.choose+1 else 0)=i+1)=fun b=>g b=σ i+1:=funext fun b=>propext (key i hlt b)
 rw [this]
 exact h1 _ r (hL i r hi)
end
theorem quiet2 {f:FuncId} {args:Array Value} {w:World} {v:Value} (h:Calls Tryz.prog f args w (cb.RetQ w v)):Calls Tryz.prog f args w (fun e w'=>e=.returned v∧w'=w):=h.mono fun _ _ ⟨a,b⟩=>⟨a,b⟩
theorem cnew_any {w0 w:World} {P1 P2 r T r2 T2:Nat} {S L:BS} {X X2:Nat→Prop} (h1:BrX w0 w P1 X S r T) (u l wk:Int) (hne:u≠wk) (hu:S.kindOf u=2) (hw:S.kindOf wk=2) :
  Calls Tryz.prog 113 #[Pq P1,Pq P2,.int .i64 u,.int .i64 l,.int .i64 wk] w (fun e w'=>∃C V,e=.returned (Pq C)∧Below w.heap.size w w'∧w.heap.size≤V∧V<w'.heap.size∧w.heap.size≤C∧C<w'.heap.size∧C≠V∧Cx w' ⟨C,V,P1,P2,u,l,wk⟩∧w'.heap[C]?=some (.cells #[Pq P1,Pq V,.int .i64 u,.int .i64 wk] 195 (0,0))):=by
 have Qb:=Qa (fun W (hb:Below w.heap.size w W)=>cb.x_kind (h1.below hb) u)
 have Qc:=Qa (fun W (hb:Below w.heap.size w W)=>cb.x_kind (h1.below hb) wk)
 rw [hu] at Qb
 rw [hw] at Qc
 unfold cb.RetI at Qb Qc
 have HN:=Qa (fun W=>mg.new_any P1 P2 u l W)
 have hq:(u == wk)=false:=by simpa using hne
 clear h1 hu hw hne
 go_enter Tryz.func113,Tryz.ntmps113
 go_wp2_with fail
 refine (Qb.out w (Below.refl _ _)).mono ?_
 rintro _ w1 ⟨rfl,hb1⟩
 have Qd:=Qa hb1
 clear hb1
 go_wp2_with fail
 refine (Qc.out w1 Qd.out).mono ?_
 rintro _ w2 ⟨rfl,hb2⟩
 have Qe:=Qa (bel_step Qd.out hb2)
 clear hb2
 go_wp2_with fail
 refine (HN.out w2).mono ?_
 rintro _ w3 ⟨rfl,rfl⟩
 go_wp2_with fail
 go_ret
 obtain ⟨w4,hw4⟩:∃w4,w2.alloc (.cells #[Pq P1,Pq P2,.int .i64 u,.int .i64 l] 111)=w4:=⟨_,rfl⟩
 have hz:w4.heap.size=w2.heap.size+1:=by rw [←hw4,World.size_alloc]
 have ma:Below w.heap.size w w4:=by rw [←hw4];exact bel_step Qe.out (bel_alloc _ _)
 rw [hw4,←hz]
 have h2:=Qe.out.size
 refine ⟨_,w2.heap.size,rfl,bel_step ma (bel_alloc _ _),h2,by rw [World.size_alloc];omega,by omega,by rw [World.size_alloc];omega,by omega,?_,heap_alloc_new _ _⟩
 have hv:∀j,(w4.alloc (.cells #[Pq P1,Pq w2.heap.size,.int .i64 u,.int .i64 wk] 195)).cell? ⟨w2.heap.size,j,none⟩=w4.cell? ⟨w2.heap.size,j,none⟩:=fun j=>World.cell?_alloc_lt _ _ _ (by show w2.heap.size<_;omega)
 exact ⟨by simp,by simp,by simp,by simp,(hv 0).trans (by rw [←hw4];simp),(hv 1).trans (by rw [←hw4];simp),(hv 2).trans (by rw [←hw4];simp),(hv 3).trans (by rw [←hw4];simp)⟩
structure Rx (w:World) (R D1 D2:Nat) (u l wk:Int):Prop where
 c0:w.cell? ⟨R,0,none⟩=some (Pq D1)
 c1:w.cell? ⟨R,1,none⟩=some (Pq D2)
 c2:w.cell? ⟨R,2,none⟩=some (.int .i64 u)
 c3:w.cell? ⟨R,3,none⟩=some (.int .i64 l)
 c4:w.cell? ⟨R,4,none⟩=some (.int .i64 wk)
theorem rnew_any {w:World} {D1 D2:Nat} {U L:BS} (h:Vd w D1 D2 U L) (u l wk:Int) (hne:u≠wk) (hu:U.kindOf u=2) (hw:U.kindOf wk=2) :
  Calls Tryz.prog 115 #[Pq D1,Pq D2,.int .i64 u,.int .i64 l,.int .i64 wk] w (fun e w'=>∃R,e=.returned (Pq R)∧Below w.heap.size w w'∧w.heap.size≤R∧R<w'.heap.size∧Rx w' R D1 D2 u l wk):=by
 have Qb:=Qa (fun W (hb:Below w.heap.size w W)=>(h.below hb).kind1 u)
 have Qc:=Qa (fun W (hb:Below w.heap.size w W)=>(h.below hb).kind1 wk)
 rw [hu] at Qb
 rw [hw] at Qc
 have hq:(u == wk)=false:=by simpa using hne
 clear h hu hw hne
 go_enter Tryz.func115,Tryz.ntmps115
 go_wp2_with fail
 refine (Qb.out w (Below.refl _ _)).mono ?_
 rintro _ w1 ⟨rfl,hb1⟩
 have Qd:=Qa hb1
 clear hb1
 go_wp2_with fail
 refine (Qc.out w1 Qd.out).mono ?_
 rintro _ w2 ⟨rfl,hb2⟩
 have Qe:=Qa (bel_step Qd.out hb2)
 clear hb2
 go_wp2_with fail
 go_ret
 exact ⟨w2.heap.size,rfl,bel_step Qe.out (bel_alloc _ _),Qe.out.size,by rw [World.size_alloc];omega,by simp,by simp,by simp,by simp,by simp⟩
end cu
namespace mg
open Go.RowKit Go.Deep
open br (BS Ino Inv fresh)
open cb (BrX RetW RetI No DB RetQ Pd)
open bl (Pq)
theorem ropq_any {w:World} {D1 D2:Nat} {U L:BS} {u l:Int} (h:Vd w D1 D2 U L) (i:Int):Calls Tryz.prog 70 #[Rv D1 D2 u l,.int .i64 i] w (fun e w'=>e=.returned (.bool (opq U i))∧Below w.heap.size w w'):=by
 obtain ⟨w1,hw1⟩:∃w1,w.alloc (.cells #[Pq D1,Pq D2,.int .i64 u,.int .i64 l] 36)=w1:=⟨_,rfl⟩
 have ma:Below w.heap.size w w1:=by rw [←hw1];exact bel_alloc _ _
 have HR:=Qa (show R4 w1 w.heap.size D1 D2 u l by rw [←hw1];exact R4.new w D1 D2 u l)
 have HD:=Qa (h.below ma)
 have Qc:=Qa ma
 have Qb:=Qa (show Calls Tryz.prog 105 #[Pq D1,.int .i64 i] w1 (RetQ w1 (.bool (U.isI i))) by obtain ⟨_,_,_,_,_,k,g⟩:=HD.out.d1;exact cb.q_is k i)
 obtain ⟨g,hg⟩:∃g,w.heap.size=g:=⟨_,rfl⟩
 rw [hg] at HR
 obtain ⟨a0,a1,a2,a3⟩:=HR.out
 unfold RetQ at Qb
 rcases cb.isI_cases U i with hI|⟨I,rfl,i1,i2,hn,hI⟩
 ·rw [hI] at Qb
  have ho:opq U i=false:=by unfold opq br.BS.marksOf;rw [Ja (by rw [hI];decide)];rfl
  rw [ho]
  clear h ma HD ho hI
  go_enter Tryz.func70,Tryz.ntmps70
  go_wp2_with fail
  refine Qb.out.mono ?_
  rintro _ w2 ⟨rfl,rfl⟩
  go_wp2_with fail
  go_ret
  exact ⟨rfl,Qc.out⟩
 ·rw [hI] at Qb
  have hm:U.marksOf (I:Int)=(U.ino I).marks:=by unfold br.BS.marksOf br.BS.at;rw [Jb hI,Int.toNat_natCast]
  have HO:=Qa (show opq U (I:Int)=decide ((U.ino I).marks % 2=1) by unfold opq;rw [hm])
  have c3:w1.cell? ⟨D1,1+I*9+3,none⟩=some (.int .i64 (U.ino I).marks):=by obtain ⟨_,_,_,_,_,k,g⟩:=HD.out.d1;exact (k.ino I i2).c3
  generalize (U.ino I).marks=mk at *
  generalize opq U (I:Int)=o at *
  clear h ma HD hI hn hm
  go_enter Tryz.func70,Tryz.ntmps70
  go_wp2_with fail
  refine Qb.out.mono ?_
  rintro _ w2 ⟨rfl,rfl⟩
  go_wp2_with fail
  go_ret
  refine ⟨?_,Qc.out⟩
  have e:((IntKind.u64.wrap mk).tmod 2 == 1)=o:=by
   rw [HO.out]
   have hw:IntKind.u64.wrap mk=mk % 18446744073709551616:=by unfold IntKind.wrap;simp [IntKind.bits,IntKind.signed]
   rw [hw,Int.tmod_eq_emod_of_nonneg (Int.emod_nonneg _ (by decide)),Bool.eq_iff_iff,beq_iff_eq,decide_eq_true_eq]
   omega
  rw [←e]
  rfl
theorem rcounts_any {w:World} {D1 D2:Nat} {U L:BS} {u l:Int} (h:Vd w D1 D2 U L) (n:Nd):Calls Tryz.prog 75 #[Rv D1 D2 u l,Nv n] w (fun e w'=>e=.returned (.bool (decide (n.2≠0) && (decide (n.1=0) || !opq U n.1)))∧Below w.heap.size w w'):=by
 obtain ⟨n1,n2⟩:=n
 obtain ⟨w1,hw1⟩:∃w1,(w.alloc (.cells #[Pq D1,Pq D2,.int .i64 u,.int .i64 l] 36)).alloc (.cells #[.int .i64 n1,.int .i64 n2] 24)=w1:=⟨_,rfl⟩
 have ma:Below w.heap.size w w1:=by rw [←hw1];exact bel_step (bel_alloc _ _) (bel_alloc _ _)
 have HR:=Qa (show R4 w1 w.heap.size D1 D2 u l by rw [←hw1];exact (R4.new w D1 D2 u l).below (bel_alloc _ _))
 have HN:=Qa (show Nb w1 (w.heap.size+1) (n1,n2) by rw [←hw1];have:=Nb.new (w.alloc (.cells #[Pq D1,Pq D2,.int .i64 u,.int .i64 l] 36)) n1 n2;rwa [World.size_alloc] at this)
 have HO:=Qa (ropq_any (u:=u) (l:=l) (h.below ma) n1)
 have Qb:=Qa ma
 obtain ⟨g,hg⟩:∃g,w.heap.size=g:=⟨_,rfl⟩
 rw [hg] at HR HN
 obtain ⟨a0,a1,a2,a3⟩:=HR.out
 obtain ⟨b0,b1⟩:=HN.out
 dsimp only at b0 b1 ⊢
 generalize opq U n1=o at *
 clear h ma
 by_cases h2:n2=0
 ·subst h2
  go_enter Tryz.func75,Tryz.ntmps75
  go_wp2_with fail
  go_ret
  exact ⟨rfl,Qb.out⟩
 ·have q2:(n2 != 0)=true:=by simpa using h2
  have e2:decide (n2≠0)=true:=by simpa using h2
  by_cases h1:n1=0
  ·subst h1
   rw [e2]
   clear h2 e2
   go_enter Tryz.func75,Tryz.ntmps75
   go_wp2_with fail
   go_ret
   exact ⟨rfl,Qb.out⟩
  ·have q1:(n1 == 0)=false:=by simpa using h1
   rw [e2,decide_eq_false h1]
   clear h2 e2 h1
   go_enter Tryz.func75,Tryz.ntmps75
   go_wp2_with fail
   refine HO.out.mono ?_
   rintro _ w2 ⟨rfl,hb2⟩
   have HE:=Qa (bel_step Qb.out hb2)
   clear hb2
   go_wp2_with fail
   go_ret
   exact ⟨by cases o <;> rfl,HE.out⟩
end mg
namespace mg
open Go.RowKit Go.Deep
open br (BS Ino Inv fresh)
open cb (BrX RetW RetI No)
open bl (Pq)
theorem R4.same {w w':World} {g D1 D2:Nat} {u l:Int} (h:R4 w g D1 D2 u l) (e:w'.heap[g]?=w.heap[g]?):R4 w' g D1 D2 u l :=
 ⟨(World.cell?_of_block (a:=⟨g,0,none⟩) e).trans h.c0,(World.cell?_of_block (a:=⟨g,1,none⟩) e).trans h.c1,(World.cell?_of_block (a:=⟨g,2,none⟩) e).trans h.c2,(World.cell?_of_block (a:=⟨g,3,none⟩) e).trans h.c3⟩
theorem rroot_any {w:World} {D1 D2:Nat} {u l:Int} {U L:BS} (h:Vd w D1 D2 U L):Calls Tryz.prog 16 #[Rv D1 D2 u l] w (fun e w'=>e=.returned (Nv (rootV U L u l))∧Below w.heap.size w w'):=by
 have HF:=Qa (show ∀w1,((w.alloc (.cells #[Pq D1,Pq D2,.int .i64 u,.int .i64 l] 36)).alloc (.cells #[.int .i64 0,.int .i64 0] 24)).alloc (.cells #[.int .i64 0,.int .i64 0] 24)=w1→Below w.heap.size w w1∧R4 w1 w.heap.size D1 D2 u l∧R2 w1 (w.heap.size+1) 0 0∧R2 w1 (w.heap.size+2) 0 0 from fun w1 hw1=>by
  refine ⟨?_,?_,?_,?_⟩
  ·rw [←hw1];exact bel_step (bel_step (bel_alloc _ _) (bel_alloc _ _)) (bel_alloc _ _)
  ·rw [←hw1];exact (R4.new w D1 D2 u l).below (bel_step (bel_alloc _ _) (bel_alloc _ _))
  ·rw [←hw1];have:=(R2.new (w.alloc (.cells #[Pq D1,Pq D2,.int .i64 u,.int .i64 l] 36)) 0 0).below (bel_alloc _ (.cells #[.int .i64 0,.int .i64 0] 24));rwa [World.size_alloc] at this
  ·rw [←hw1];have:=R2.new ((w.alloc (.cells #[Pq D1,Pq D2,.int .i64 u,.int .i64 l] 36)).alloc (.cells #[.int .i64 0,.int .i64 0] 24)) 0 0;rwa [World.size_alloc,World.size_alloc] at this)
 have Q4:=Qa (fun W (hb:Below w.heap.size w W)=>(h.below hb).kind1 u)
 have Qt:=Qa (fun W (hb:Below w.heap.size w W)=>(h.below hb).kind2 l)
 have Qw:=Qa (fun W x (hb:Below w.heap.size w W)=>ropq_any (u:=u) (l:=l) (h.below hb) x)
 have Qd:=Qa (show rootV U L u l=((if U.kindOf u=2 then u else 0),(if L.kindOf l=2∧opq U (if U.kindOf u=2 then u else 0)=false then l else 0)) from rfl)
 have Q5:=Qa (opq_zero U)
 have Qx:=Qa (show U.kindOf u=2→(u != 0)=true from fun e=>by simp;intro e0;rw [e0,kind_zero] at e;cases e)
 generalize rootV U L u l=r at *
 generalize L.kindOf l=lk at *
 generalize U.kindOf u=uk at *
 obtain ⟨g,hg⟩:∃g,w.heap.size=g:=⟨_,rfl⟩
 have Qi:=Qa hg
 rw [hg] at HF
 clear h
 go_enter Tryz.func16,Tryz.ntmps16
 go_upto_region 2 with fail
 generalize hw1:((w.alloc (.cells #[Pq D1,Pq D2,.int .i64 u,.int .i64 l] 36)).alloc (.cells #[.int .i64 0,.int .i64 0] 24)).alloc (.cells #[.int .i64 0,.int .i64 0] 24)=w1
 obtain ⟨ma,hg0,hg1,hg2⟩:=HF.out w1 hw1
 have HB:=Qa (show Below w.heap.size w w1 by rw [hg];exact ma)
 have Qy:=Qa hg0
 have Q6:=Qa hg1
 have Q7:=Qa hg2
 obtain ⟨k0,k1,k2,k3⟩:=Qy.out
 clear ma hg0 hg1 hg2 HF
 go_wp2_with fail
 refine (Q4.out _ HB.out).mono ?_
 rintro _ w8 ⟨rfl,hb8⟩
 have Qv:=Qa (bel_step HB.out hb8)
 have Qe:=Qa (Qy.out.below hb8)
 have Qj:=Qa (Q6.out.below hb8)
 have Qf:=Qa (Q7.out.below hb8)
 clear k0 k1 k2 k3 hb8 Q4 Qy Q6 Q7 HB hw1
 obtain ⟨k0,k1,k2,k3⟩:=Qe.out
 obtain ⟨r0,r1,f0,f1⟩:=Qf.out
 have END:∀(W:World) (x y:Int),Below w.heap.size w W→R2 W (g+1) 0 0→Below w.heap.size w ((W.setCell ⟨g+1,0,none⟩ (.int .i64 x)).setCell ⟨g+1,1,none⟩ (.int .i64 y)):=fun W x y hb _=>set2_below hb (by have:=Qi.out;omega) _ _
 have Q8:=Qa END
 clear END
 by_cases e2:uk=2
 ·subst e2
  rw [Jb rfl] at Qd
  have HN:=Qa (show Below w.heap.size w (w8.setCell ⟨g+2,0,none⟩ (.int .i64 u)) from set_below Qv.out (by have:=Qi.out;omega) _)
  have Qo:=Qa (show R4 (w8.setCell ⟨g+2,0,none⟩ (.int .i64 u)) g D1 D2 u l from Qe.out.same (heap_set (by omega)))
  have Qs:=Qa (show R2 (w8.setCell ⟨g+2,0,none⟩ (.int .i64 u)) (g+1) 0 0 from Qj.out.same (heap_set (by omega)))
  have Qp:=Qa (Qf.out.up u)
  go_upto_region 4 with fail
  clear Qv Qe Qj Qf k0 k1 k2 k3 r0 r1 f0 f1
  generalize w8.setCell ⟨g+2,0,none⟩ (.int .i64 u)=w9 at *
  have HO:=Qa (fun V' (hb:Below w.heap.size w V')=>Qw.out V' u hb)
  clear Qw Q5
  generalize opq U u=oq at *
  have Q9:=Qa (Qx.out (by first|rfl|trivial))
  clear Qx
  obtain ⟨k0,k1,k2,k3⟩:=Qo.out
  obtain ⟨r0,r1,f0,f1⟩:=Qp.out
  go_wp2_with fail
  refine (Qt.out _ HN.out).mono ?_
  rintro _ wa ⟨rfl,hba⟩
  have Qn:=Qa (bel_step HN.out hba)
  have Qg:=Qa (Qo.out.below hba)
  have Qb:=Qa (Qs.out.below hba)
  have Qc:=Qa (Qp.out.below hba)
  clear k0 k1 k2 k3 r0 r1 f0 f1 hba HN Qo Qs Qp Qt
  obtain ⟨k0,k1,k2,k3⟩:=Qg.out
  obtain ⟨r0,r1,f0,f1⟩:=Qc.out
  by_cases l2:lk=2
  case neg =>
   have ql:(lk == 2)=false:=by simpa using l2
   rw [Ja (fun e=>l2 e.1)] at Qd
   clear l2
   have Qk:=Qa (fun a b=>Qb.out.range a b)
   have Ql:=Qa (fun a b=>set2_below Qn.out (show w.heap.size≤g+1 by have:=Qi.out;omega) a b)
   obtain ⟨s0,s1,v0,v1⟩:=Qb.out
   go_wp2_with fail
   refine bodyPost_ret (results_cell1 rfl _ _ (g+1) _ _ rfl (Qk.out _ _) Tryz.underlying24 (by rfl) (by rfl)) rfl ?_
   exact ⟨by rw [Qd.out],Ql.out _ _⟩
  subst l2
  have qu:=Q9.out
  go_wp2_with fail
  refine (HO.out _ Qn.out).mono ?_
  rintro _ wb ⟨rfl,hbb⟩
  have Qz:=Qa (bel_step Qn.out hbb)
  have Q2:=Qa (Qg.out.below hbb)
  have Qm:=Qa (Qb.out.below hbb)
  have Qq:=Qa (Qc.out.below hbb)
  clear k0 k1 k2 k3 r0 r1 f0 f1 hbb Qn Qg Qb Qc HO
  obtain ⟨k0,k1,k2,k3⟩:=Q2.out
  obtain ⟨r0,r1,f0,f1⟩:=Qq.out
  cases oq with
  | true =>
   rw [Ja (by decide)] at Qd
   have Qk:=Qa (fun a b=>Qm.out.range a b)
   have Ql:=Qa (fun a b=>set2_below Qz.out (show w.heap.size≤g+1 by have:=Qi.out;omega) a b)
   obtain ⟨s0,s1,v0,v1⟩:=Qm.out
   go_wp2_with fail
   refine bodyPost_ret (results_cell1 rfl _ _ (g+1) _ _ rfl (Qk.out _ _) Tryz.underlying24 (by rfl) (by rfl)) rfl ?_
   exact ⟨by rw [Qd.out],Ql.out _ _⟩
  | false =>
   rw [Jb (by decide)] at Qd
   have Q3:=Qa (show Below w.heap.size w (wb.setCell ⟨g+2,1,none⟩ (.int .i64 l)) from set_below Qz.out (by have:=Qi.out;omega) _)
   have Qh:=Qa (show R2 (wb.setCell ⟨g+2,1,none⟩ (.int .i64 l)) (g+1) 0 0 from Qm.out.same (heap_set (by omega)))
   have Qr:=Qa (Qq.out.lo l)
   go_upto_region 6 with fail
   clear k0 k1 k2 k3 r0 r1 f0 f1 Qq Qm Qz
   generalize wb.setCell ⟨g+2,1,none⟩ (.int .i64 l)=w12 at *
   obtain ⟨r0,r1,f0,f1⟩:=Qr.out
   have Qk:=Qa (fun a b=>Qh.out.range a b)
   have Ql:=Qa (fun a b=>set2_below Q3.out (show w.heap.size≤g+1 by have:=Qi.out;omega) a b)
   obtain ⟨s0,s1,v0,v1⟩:=Qh.out
   go_wp2_with fail
   refine bodyPost_ret (results_cell1 rfl _ _ (g+1) _ _ rfl (Qk.out _ _) Tryz.underlying24 (by rfl) (by rfl)) rfl ?_
   exact ⟨by rw [Qd.out],Ql.out _ _⟩
 ·have q2:(uk == 2)=false:=by simpa using e2
  rw [Ja e2] at Qd
  clear e2 Qx Qw
  have HN:=Qv
  have Qo:=Qe
  have Qs:=Qj
  have Qp:=Qf
  clear Qv Qe Qj Qf k0 k1 k2 k3 r0 r1 f0 f1
  obtain ⟨k0,k1,k2,k3⟩:=Qo.out
  obtain ⟨r0,r1,f0,f1⟩:=Qp.out
  go_wp2_with fail
  refine (Qt.out _ HN.out).mono ?_
  rintro _ wa ⟨rfl,hba⟩
  have Qn:=Qa (bel_step HN.out hba)
  have Qg:=Qa (Qo.out.below hba)
  have Qb:=Qa (Qs.out.below hba)
  have Qc:=Qa (Qp.out.below hba)
  clear k0 k1 k2 k3 r0 r1 f0 f1 hba HN Qo Qs Qp Qt
  obtain ⟨k0,k1,k2,k3⟩:=Qg.out
  obtain ⟨r0,r1,f0,f1⟩:=Qc.out
  by_cases l2:lk=2
  case neg =>
   have ql:(lk == 2)=false:=by simpa using l2
   rw [Ja (fun e=>l2 e.1)] at Qd
   clear l2
   have Qk:=Qa (fun a b=>Qb.out.range a b)
   have Ql:=Qa (fun a b=>set2_below Qn.out (show w.heap.size≤g+1 by have:=Qi.out;omega) a b)
   obtain ⟨s0,s1,v0,v1⟩:=Qb.out
   go_wp2_with fail
   refine bodyPost_ret (results_cell1 rfl _ _ (g+1) _ _ rfl (Qk.out _ _) Tryz.underlying24 (by rfl) (by rfl)) rfl ?_
   exact ⟨by rw [Qd.out],Ql.out _ _⟩
  subst l2
  rw [Jb ⟨rfl,Q5.out⟩] at Qd
  have Q3:=Qa (show Below w.heap.size w (wa.setCell ⟨g+2,1,none⟩ (.int .i64 l)) from set_below Qn.out (by have:=Qi.out;omega) _)
  have Qh:=Qa (show R2 (wa.setCell ⟨g+2,1,none⟩ (.int .i64 l)) (g+1) 0 0 from Qb.out.same (heap_set (by omega)))
  have Qr:=Qa (Qc.out.lo l)
  go_upto_region 6 with fail
  clear k0 k1 k2 k3 r0 r1 f0 f1 Qc Qb Qn
  generalize wa.setCell ⟨g+2,1,none⟩ (.int .i64 l)=w12 at *
  obtain ⟨r0,r1,f0,f1⟩:=Qr.out
  have Qk:=Qa (fun a b=>Qh.out.range a b)
  have Ql:=Qa (fun a b=>set2_below Q3.out (show w.heap.size≤g+1 by have:=Qi.out;omega) a b)
  obtain ⟨s0,s1,v0,v1⟩:=Qh.out
  go_wp2_with fail
  refine bodyPost_ret (results_cell1 rfl _ _ (g+1) _ _ rfl (Qk.out _ _) Tryz.underlying24 (by rfl) (by rfl)) rfl ?_
  exact ⟨by rw [Qd.out],Ql.out _ _⟩
end mg
namespace mg
open Go.RowKit Go.Deep
open br (BS Ino Inv fresh)
def cntV (U:BS) (n:Nd):Bool:=decide (n.2≠0) && (decide (n.1=0) || !opq U n.1)
def lowV (U L:BS) (n:Nd) (s:ByteArray):Int:=if cntV U n=true then (L.get n.2 s).1 else 0
def upV (U:BS) (n:Nd) (s:ByteArray):Int:=if n.1≠0 then (U.get n.1 s).1 else 0
theorem upV_is (U:BS) (n:Nd) (s:ByteArray):upV U n s=(U.get n.1 s).1:=by
 unfold upV
 by_cases h:n.1=0
 ·rw [Ja (by simpa using h),h,get_at_zero]
 ·rw [Jb h]
theorem lowV_is (U L:BS) (n:Nd) (s:ByteArray):lowV U L n s=(L.get (belV U n) s).1:=by
 unfold lowV cntV belV
 by_cases h2:n.2=0
 ·have e:(if opq U n.1=true then 0 else n.2)=0:=by split;rfl;exact h2
  rw [e,get_at_zero,Ja (by simp [h2])]
 ·by_cases h1:n.1=0
  ·rw [h1,opq_zero,Jb (by simp [h2]),Ja (by decide)]
  ·cases ho:opq U n.1
   ·rw [Jb (by simp [h2]),Ja (by decide)]
   ·rw [Ja (by simp [h1]),Jb rfl,get_at_zero]
theorem getV_doc {U L:BS} {room room2:Nat} (hU:Inv U room) (hL:Inv L room2) (n:Nd) (s:ByteArray) (hk:kindV U L n=2) :
  getV U L n s=if upV U n s≠0 then (if U.kindOf (upV U n s)=4 then ((0,0),2) else if U.kindOf (upV U n s)=2∧opq U (upV U n s)=false∧L.kindOf (lowV U L n s)=2 then ((upV U n s,lowV U L n s),0) else ((upV U n s,0),0))
   else if lowV U L n s=0∨L.kindOf (lowV U L n s)=4 then ((0,0),2) else ((0,lowV U L n s),0):=by
 have hl:lstV U L n=0:=by unfold lstV;rw [hk];rfl
 have hp:pairV U L n s=(upV U n s,lowV U L n s):=by rw [upV_is,lowV_is];rfl
 have hz:upV U n s=0↔U.kindOf (upV U n s)=0:=by rw [upV_is];exact (get_kind hU n.1 s).symm
 unfold getV
 rw [Ja (by rw [hl];decide),hp]
 generalize upV U n s=x at *
 generalize lowV U L n s=y at *
 by_cases hx:x=0
 ·have ma:=hz.1 hx
  by_cases h4:L.kindOf y=4
  ·have hs:seenV U L (x,y)=(0,0):=by unfold seenV;dsimp only;rw [Jb ma,Jb h4]
   rw [hs];simp [hx,h4]
  ·have hs:seenV U L (x,y)=(0,y):=by unfold seenV;dsimp only;rw [Jb ma,Ja h4]
   rw [hs]
   by_cases hy:y=0
   ·simp [hx,hy]
   ·simp [hx,hy,h4]
 ·have ma:U.kindOf x≠0:=fun e=>hx (hz.2 e)
  by_cases h4:U.kindOf x=4
  ·have hs:seenV U L (x,y)=(0,0):=by unfold seenV;dsimp only;rw [Ja ma,Jb h4]
   rw [hs];simp [hx,h4]
  ·by_cases hc:U.kindOf x=2∧opq U x=false∧L.kindOf y=2
   ·have hs:seenV U L (x,y)=(x,y):=by unfold seenV;dsimp only;rw [Ja ma,Ja h4,Jb ⟨hc.1,hc.2.2,hc.2.1⟩]
    rw [hs,Ja (fun e=>hx (by injection e)),Jb hx,Ja h4,Jb hc]
   ·have hs:seenV U L (x,y)=(x,0):=by unfold seenV;dsimp only;rw [Ja ma,Ja h4,Ja (fun e=>hc ⟨e.1,e.2.2,e.2.1⟩)]
    rw [hs,Ja (fun e=>hx (by injection e)),Jb hx,Ja h4,Ja hc]
end mg
namespace mg
open Go.RowKit Go.Deep
open br (BS Ino Inv fresh)
open cb (BrX RetW RetI No)
open bl (Pq)
structure G4 (w:World) (g:Nat) (D1 D2:Nat) (u l n1 n2:Int):Prop where
 v:R4 w g D1 D2 u l
 n:Nb w (g+1) (n1,n2)
 r:R2 w (g+2) 0 0
 z:Nb w (g+3) (0,0)
theorem G4.below {w w':World} {g D1 D2:Nat} {u l n1 n2:Int} (h:G4 w g D1 D2 u l n1 n2) (hb:Below w.heap.size w w'):G4 w' g D1 D2 u l n1 n2:=⟨h.v.below hb,h.n.below hb,h.r.below hb,h.z.below hb⟩
theorem G4.new (w:World) (D1 D2:Nat) (u l n1 n2:Int):G4 ((((w.alloc (.cells #[Pq D1,Pq D2,.int .i64 u,.int .i64 l] 36)).alloc (.cells #[.int .i64 n1,.int .i64 n2] 24)).alloc (.cells #[.int .i64 0,.int .i64 0] 24)).alloc (.cells #[.int .i64 0,.int .i64 0] 24)) w.heap.size D1 D2 u l n1 n2 where
 v:=(R4.new w D1 D2 u l).below (bel_step (bel_step (bel_alloc _ _) (bel_alloc _ _)) (bel_alloc _ _))
 n:=by have:=(Nb.new (w.alloc (.cells #[Pq D1,Pq D2,.int .i64 u,.int .i64 l] 36)) n1 n2).below (bel_step (bel_alloc ((w.alloc (.cells #[Pq D1,Pq D2,.int .i64 u,.int .i64 l] 36)).alloc (.cells #[.int .i64 n1,.int .i64 n2] 24)) (.cells #[.int .i64 0,.int .i64 0] 24)) (bel_alloc _ (.cells #[.int .i64 0,.int .i64 0] 24)));rwa [World.size_alloc] at this
 r:=by have:=(R2.new ((w.alloc (.cells #[Pq D1,Pq D2,.int .i64 u,.int .i64 l] 36)).alloc (.cells #[.int .i64 n1,.int .i64 n2] 24)) 0 0).below (bel_alloc _ (.cells #[.int .i64 0,.int .i64 0] 24));rwa [World.size_alloc,World.size_alloc] at this
 z:=by have:=Nb.new (((w.alloc (.cells #[Pq D1,Pq D2,.int .i64 u,.int .i64 l] 36)).alloc (.cells #[.int .i64 n1,.int .i64 n2] 24)).alloc (.cells #[.int .i64 0,.int .i64 0] 24)) 0 0;rwa [World.size_alloc,World.size_alloc,World.size_alloc] at this
theorem rget_any {w:World} {D1 D2:Nat} {u l:Int} {U L:BS} (h:Vd w D1 D2 U L) (n:Nd) (s:ByteArray):Calls Tryz.prog 18 #[Rv D1 D2 u l,Nv n,.string s] w (fun e w'=>e=.returned (.tuple #[Nv (getV U L n s).1,.int .i64 (getV U L n s).2])∧Below w.heap.size w w'):=by
 obtain ⟨n1,n2⟩:=n
 have HF:=Qa (show ∀w1,(((w.alloc (.cells #[Pq D1,Pq D2,.int .i64 u,.int .i64 l] 36)).alloc (.cells #[.int .i64 n1,.int .i64 n2] 24)).alloc (.cells #[.int .i64 0,.int .i64 0] 24)).alloc (.cells #[.int .i64 0,.int .i64 0] 24)=w1→Below w.heap.size w w1∧G4 w1 w.heap.size D1 D2 u l n1 n2 from fun w1 hw1=>by
  refine ⟨?_,?_⟩
  ·rw [←hw1];exact bel_step (bel_step (bel_step (bel_alloc _ _) (bel_alloc _ _)) (bel_alloc _ _)) (bel_alloc _ _)
  ·rw [←hw1];exact G4.new w D1 D2 u l n1 n2)
 have HK:=Qa (fun W (hb:Below w.heap.size w W)=>rkind_any (u:=u) (l:=l) (h.below hb) (n1,n2))
 have Q3:=Qa (fun W (hb:Below w.heap.size w W)=>rcounts_any (u:=u) (l:=l) (h.below hb) (n1,n2))
 have Q4:=Qa (fun W x (hb:Below w.heap.size w W)=>ropq_any (u:=u) (l:=l) (h.below hb) x)
 have Q5:=Qa (fun W x (hb:Below w.heap.size w W)=>(h.below hb).kind1 x)
 have Qp:=Qa (fun W x (hb:Below w.heap.size w W)=>(h.below hb).kind2 x)
 have Qr:=Qa (fun W (hb:Below w.heap.size w W)=>(h.below hb).get1 n1 s)
 have Q6:=Qa (fun W (hb:Below w.heap.size w W)=>(h.below hb).get2 n2 s)
 unfold RetI at HK
 have HL:=Qa (show lstV U L (n1,n2)=if kindV U L (n1,n2)=0 then 2 else if kindV U L (n1,n2)=2 then 0 else 20 from rfl)
 have HS:=Qa (getV_lst (U:=U) (L:=L) (n:=(n1,n2)) (s:=s))
 obtain ⟨rU,iU⟩:=h.i1
 obtain ⟨rL,iL⟩:=h.i2
 have Q7:=Qa (getV_doc iU iL (n1,n2) s)
 clear iU iL
 have Qs:=Qa (show lowV U L (n1,n2) s=if cntV U (n1,n2)=true then (L.get n2 s).1 else 0 from rfl)
 have Qk:=Qa (show upV U (n1,n2) s=if n1≠0 then (U.get n1 s).1 else 0 from rfl)
 have Xd:=Qa (show cntV U (n1,n2)=(decide ((n1,n2).2≠0) && (decide ((n1,n2).1=0) || !opq U (n1,n2).1)) from rfl)
 rw [←Xd.out] at Q3
 clear Xd
 generalize lowV U L (n1,n2) s=low at *
 generalize upV U (n1,n2) s=x at *
 generalize cntV U (n1,n2)=cnt at *
 generalize getV U L (n1,n2) s=r at *
 generalize lstV U L (n1,n2)=le at *
 generalize kindV U L (n1,n2)=kv at *
 generalize U.get n1 s=gu at *
 generalize L.get n2 s=gl at *
 obtain ⟨gu1,gu2⟩:=gu
 obtain ⟨gl1,gl2⟩:=gl
 dsimp only at Qr Q6 Qs Qk
 obtain ⟨g,hg⟩:∃g,w.heap.size=g:=⟨_,rfl⟩
 have Qd:=Qa hg
 rw [hg] at HF
 clear h
 go_enter Tryz.func18,Tryz.ntmps18
 go_upto_region 2 with fail
 generalize hw1:(((w.alloc (.cells #[Pq D1,Pq D2,.int .i64 u,.int .i64 l] 36)).alloc (.cells #[.int .i64 n1,.int .i64 n2] 24)).alloc (.cells #[.int .i64 0,.int .i64 0] 24)).alloc (.cells #[.int .i64 0,.int .i64 0] 24)=w1
 obtain ⟨ma,hg1⟩:=HF.out w1 hw1
 have Xa:=Qa (show Below w.heap.size w w1 by rw [hg];exact ma)
 have Xb:=Qa hg1
 clear ma hg1 HF hw1
 obtain ⟨⟨k0,k1,k2,k3⟩,⟨m0,m1⟩,⟨r0,r1,f0,f1⟩,⟨z0,z1⟩⟩:=Xb.out
 dsimp only at m0 m1 z0 z1
 go_wp2_with fail
 refine (HK.out _ Xa.out).mono ?_
 rintro _ w2 ⟨rfl,hb2⟩
 have Q8:=Qa (bel_step Xa.out hb2)
 have Qx:=Qa (Xb.out.below hb2)
 clear k0 k1 k2 k3 m0 m1 r0 r1 f0 f1 z0 z1
 clear hb2 Xa Xb
 by_cases h0:kv=0
 case pos =>
  subst h0
  have hr:=HS.out (by rw [HL.out,Jb (by first|rfl|trivial)];decide)
  rw [HL.out,Jb (by first|rfl|trivial)] at hr
  clear HS HL Q7 Qs Qk
  obtain ⟨⟨k0,k1,k2,k3⟩,⟨m0,m1⟩,⟨r0,r1,f0,f1⟩,⟨z0,z1⟩⟩:=Qx.out
  dsimp only at m0 m1 z0 z1
  have Qb:=Qa (fun a b=>Qx.out.r.range a b)
  have Qc:=Qa (fun a b=>set2_below Q8.out (show w.heap.size≤g+2 by have:=Qd.out;omega) a b)
  go_wp2_with fail
  refine bodyPost_ret (results_row_tmp rfl _ _ (g+2) _ _ rfl (Qb.out _ _) Tryz.underlying24 (by rfl) (by rfl)) rfl ?_
  exact ⟨by rw [hr];rfl,Qc.out _ _⟩
 have q0:(kv == 0)=false:=by simpa using h0
 obtain ⟨⟨k0,k1,k2,k3⟩,⟨m0,m1⟩,⟨r0,r1,f0,f1⟩,⟨z0,z1⟩⟩:=Qx.out
 dsimp only at m0 m1 z0 z1
 go_wp2_with fail
 refine (HK.out _ Q8.out).mono ?_
 rintro _ w3 ⟨rfl,hb3⟩
 have Q9:=Qa (bel_step Q8.out hb3)
 have Qy:=Qa (Qx.out.below hb3)
 clear k0 k1 k2 k3 m0 m1 r0 r1 f0 f1 z0 z1
 clear hb3 Q8 Qx
 by_cases h2:kv=2
 case neg =>
  have q2:(kv != 2)=true:=by simpa using h2
  have hr:=HS.out (by rw [HL.out,Ja h0,Ja h2];decide)
  rw [HL.out,Ja h0,Ja h2] at hr
  clear HS HL Q7 Qs Qk h0 h2
  obtain ⟨⟨k0,k1,k2,k3⟩,⟨m0,m1⟩,⟨r0,r1,f0,f1⟩,⟨z0,z1⟩⟩:=Qy.out
  dsimp only at m0 m1 z0 z1
  have Qb:=Qa (fun a b=>Qy.out.r.range a b)
  have Qc:=Qa (fun a b=>set2_below Q9.out (show w.heap.size≤g+2 by have:=Qd.out;omega) a b)
  go_wp2_with fail
  refine bodyPost_ret (results_row_tmp rfl _ _ (g+2) _ _ rfl (Qb.out _ _) Tryz.underlying24 (by rfl) (by rfl)) rfl ?_
  exact ⟨by rw [hr];rfl,Qc.out _ _⟩
 have qa:=Q7.out h2
 subst h2
 have HR:=Qa qa
 clear qa Q7 HS HL h0
 obtain ⟨⟨k0,k1,k2,k3⟩,⟨m0,m1⟩,⟨r0,r1,f0,f1⟩,⟨z0,z1⟩⟩:=Qy.out
 dsimp only at m0 m1 z0 z1
 go_wp2_with fail
 refine (Q3.out _ Q9.out).mono ?_
 rintro _ w4 ⟨rfl,hb4⟩
 have Qt:=Qa (bel_step Q9.out hb4)
 have Qq:=Qa (Qy.out.below hb4)
 clear k0 k1 k2 k3 m0 m1 r0 r1 f0 f1 z0 z1
 clear hb4 Q9 Qy
 cases cnt with
 | true =>
  have hl:=Qs.out
  rw [Jb (by first|rfl|trivial)] at hl
  subst hl
  clear Qs
  obtain ⟨⟨k0,k1,k2,k3⟩,⟨m0,m1⟩,⟨r0,r1,f0,f1⟩,⟨z0,z1⟩⟩:=Qq.out
  dsimp only at m0 m1 z0 z1
  go_wp2_with fail
  refine (Q6.out _ Qt.out).mono ?_
  rintro _ w5 ⟨rfl,hb5⟩
  have Qi:=Qa (bel_step Qt.out hb5)
  have Qh:=Qa (Qq.out.below hb5)
  clear k0 k1 k2 k3 m0 m1 r0 r1 f0 f1 z0 z1
  clear hb5 Qt Qq
  clear Q3 HK Q6
  by_cases hn:n1=0
  ·subst hn
   have hx:x=0:=by rw [Qk.out];simp
   subst hx
   clear Qk Qr
   have hr:=HR.out
   rw [Ja (by simp)] at hr
   clear HR
   by_cases hl0:low=0
   ·rw [Jb (.inl hl0)] at hr
    subst hl0
    obtain ⟨⟨k0,k1,k2,k3⟩,⟨m0,m1⟩,⟨r0,r1,f0,f1⟩,⟨z0,z1⟩⟩:=Qh.out
    dsimp only at m0 m1 z0 z1
    have Qb:=Qa (fun a b=>Qh.out.r.range a b)
    have Qc:=Qa (fun a b=>set2_below Qi.out (show w.heap.size≤g+2 by have:=Qd.out;omega) a b)
    go_wp2_with fail
    refine bodyPost_ret (results_row_tmp rfl _ _ (g+2) _ _ rfl (Qb.out _ _) Tryz.underlying24 (by rfl) (by rfl)) rfl ?_
    exact ⟨by rw [hr];rfl,Qc.out _ _⟩
   have ql0:(low == 0)=false:=by simpa using hl0
   have Qv:=Qa (fun W (hb:Below w.heap.size w W)=>Qp.out W low hb)
   clear Qp
   generalize L.kindOf low=kl at *
   obtain ⟨⟨k0,k1,k2,k3⟩,⟨m0,m1⟩,⟨r0,r1,f0,f1⟩,⟨z0,z1⟩⟩:=Qh.out
   dsimp only at m0 m1 z0 z1
   go_wp2_with fail
   refine (Qv.out _ Qi.out).mono ?_
   rintro _ w6 ⟨rfl,hb6⟩
   have Qg:=Qa (bel_step Qi.out hb6)
   have Qe:=Qa (Qh.out.below hb6)
   clear k0 k1 k2 k3 m0 m1 r0 r1 f0 f1 z0 z1
   clear hb6 Qi Qh
   by_cases h4:kl=4
   ·rw [Jb (.inr h4)] at hr
    subst h4
    clear hl0
    obtain ⟨⟨k0,k1,k2,k3⟩,⟨m0,m1⟩,⟨r0,r1,f0,f1⟩,⟨z0,z1⟩⟩:=Qe.out
    dsimp only at m0 m1 z0 z1
    have Qb:=Qa (fun a b=>Qe.out.r.range a b)
    have Qc:=Qa (fun a b=>set2_below Qg.out (show w.heap.size≤g+2 by have:=Qd.out;omega) a b)
    go_wp2_with fail
    refine bodyPost_ret (results_row_tmp rfl _ _ (g+2) _ _ rfl (Qb.out _ _) Tryz.underlying24 (by rfl) (by rfl)) rfl ?_
    exact ⟨by rw [hr];rfl,Qc.out _ _⟩
   have q4:(kl == 4)=false:=by simpa using h4
   rw [Ja (fun e=>e.elim hl0 h4)] at hr
   clear h4 hl0
   obtain ⟨⟨k0,k1,k2,k3⟩,⟨m0,m1⟩,⟨r0,r1,f0,f1⟩,⟨z0,z1⟩⟩:=Qe.out
   dsimp only at m0 m1 z0 z1
   have Qb:=Qa (fun a b=>Qe.out.r.range a b)
   have Qc:=Qa (fun a b=>set2_below Qg.out (show w.heap.size≤g+2 by have:=Qd.out;omega) a b)
   go_wp2_with fail
   refine bodyPost_ret (results_row_tmp rfl _ _ (g+2) _ _ rfl (Qb.out _ _) Tryz.underlying24 (by rfl) (by rfl)) rfl ?_
   exact ⟨by rw [hr];rfl,Qc.out _ _⟩
  have qn:(n1 != 0)=true:=by simpa using hn
  have hx:x=gu1:=by rw [Qk.out,Jb hn]
  subst hx
  clear Qk hn
  obtain ⟨⟨k0,k1,k2,k3⟩,⟨m0,m1⟩,⟨r0,r1,f0,f1⟩,⟨z0,z1⟩⟩:=Qh.out
  dsimp only at m0 m1 z0 z1
  go_wp2_with fail
  refine (Qr.out _ Qi.out).mono ?_
  rintro _ w6 ⟨rfl,hb6⟩
  have Qg:=Qa (bel_step Qi.out hb6)
  have Qe:=Qa (Qh.out.below hb6)
  clear k0 k1 k2 k3 m0 m1 r0 r1 f0 f1 z0 z1
  clear hb6 Qi Qh
  clear Qr
  by_cases hx0:x=0
  ·subst hx0
   have hr:=HR.out
   rw [Ja (by simp)] at hr
   clear HR
   by_cases hl0:low=0
   ·rw [Jb (.inl hl0)] at hr
    subst hl0
    obtain ⟨⟨k0,k1,k2,k3⟩,⟨m0,m1⟩,⟨r0,r1,f0,f1⟩,⟨z0,z1⟩⟩:=Qe.out
    dsimp only at m0 m1 z0 z1
    have Qb:=Qa (fun a b=>Qe.out.r.range a b)
    have Qc:=Qa (fun a b=>set2_below Qg.out (show w.heap.size≤g+2 by have:=Qd.out;omega) a b)
    go_wp2_with fail
    refine bodyPost_ret (results_row_tmp rfl _ _ (g+2) _ _ rfl (Qb.out _ _) Tryz.underlying24 (by rfl) (by rfl)) rfl ?_
    exact ⟨by rw [hr];rfl,Qc.out _ _⟩
   have ql0:(low == 0)=false:=by simpa using hl0
   have Qv:=Qa (fun W (hb:Below w.heap.size w W)=>Qp.out W low hb)
   clear Qp
   generalize L.kindOf low=kl at *
   obtain ⟨⟨k0,k1,k2,k3⟩,⟨m0,m1⟩,⟨r0,r1,f0,f1⟩,⟨z0,z1⟩⟩:=Qe.out
   dsimp only at m0 m1 z0 z1
   go_wp2_with fail
   refine (Qv.out _ Qg.out).mono ?_
   rintro _ w7 ⟨rfl,hb7⟩
   have Qj:=Qa (bel_step Qg.out hb7)
   have Qf:=Qa (Qe.out.below hb7)
   clear k0 k1 k2 k3 m0 m1 r0 r1 f0 f1 z0 z1
   clear hb7 Qg Qe
   by_cases h4:kl=4
   ·rw [Jb (.inr h4)] at hr
    subst h4
    clear hl0
    obtain ⟨⟨k0,k1,k2,k3⟩,⟨m0,m1⟩,⟨r0,r1,f0,f1⟩,⟨z0,z1⟩⟩:=Qf.out
    dsimp only at m0 m1 z0 z1
    have Qb:=Qa (fun a b=>Qf.out.r.range a b)
    have Qc:=Qa (fun a b=>set2_below Qj.out (show w.heap.size≤g+2 by have:=Qd.out;omega) a b)
    go_wp2_with fail
    refine bodyPost_ret (results_row_tmp rfl _ _ (g+2) _ _ rfl (Qb.out _ _) Tryz.underlying24 (by rfl) (by rfl)) rfl ?_
    exact ⟨by rw [hr];rfl,Qc.out _ _⟩
   have q4:(kl == 4)=false:=by simpa using h4
   rw [Ja (fun e=>e.elim hl0 h4)] at hr
   clear h4 hl0
   obtain ⟨⟨k0,k1,k2,k3⟩,⟨m0,m1⟩,⟨r0,r1,f0,f1⟩,⟨z0,z1⟩⟩:=Qf.out
   dsimp only at m0 m1 z0 z1
   have Qb:=Qa (fun a b=>Qf.out.r.range a b)
   have Qc:=Qa (fun a b=>set2_below Qj.out (show w.heap.size≤g+2 by have:=Qd.out;omega) a b)
   go_wp2_with fail
   refine bodyPost_ret (results_row_tmp rfl _ _ (g+2) _ _ rfl (Qb.out _ _) Tryz.underlying24 (by rfl) (by rfl)) rfl ?_
   exact ⟨by rw [hr];rfl,Qc.out _ _⟩
  have qx:(x != 0)=true:=by simpa using hx0
  have hr:=HR.out
  rw [Jb hx0] at hr
  clear HR hx0
  have Qz:=Qa (fun W (hb:Below w.heap.size w W)=>Q5.out W x hb)
  have Qv:=Qa (fun W (hb:Below w.heap.size w W)=>Qp.out W low hb)
  have Xc:=Qa (fun W (hb:Below w.heap.size w W)=>Q4.out W x hb)
  clear Q5 Qp Q4
  generalize U.kindOf x=kx at *
  generalize L.kindOf low=kl at *
  generalize opq U x=ox at *
  obtain ⟨⟨k0,k1,k2,k3⟩,⟨m0,m1⟩,⟨r0,r1,f0,f1⟩,⟨z0,z1⟩⟩:=Qe.out
  dsimp only at m0 m1 z0 z1
  go_wp2_with fail
  refine (Qz.out _ Qg.out).mono ?_
  rintro _ w7 ⟨rfl,hb7⟩
  have Qj:=Qa (bel_step Qg.out hb7)
  have Qf:=Qa (Qe.out.below hb7)
  clear k0 k1 k2 k3 m0 m1 r0 r1 f0 f1 z0 z1
  clear hb7 Qg Qe
  by_cases h4:kx=4
  ·rw [Jb h4] at hr
   subst h4
   obtain ⟨⟨k0,k1,k2,k3⟩,⟨m0,m1⟩,⟨r0,r1,f0,f1⟩,⟨z0,z1⟩⟩:=Qf.out
   dsimp only at m0 m1 z0 z1
   have Qb:=Qa (fun a b=>Qf.out.r.range a b)
   have Qc:=Qa (fun a b=>set2_below Qj.out (show w.heap.size≤g+2 by have:=Qd.out;omega) a b)
   go_wp2_with fail
   refine bodyPost_ret (results_row_tmp rfl _ _ (g+2) _ _ rfl (Qb.out _ _) Tryz.underlying24 (by rfl) (by rfl)) rfl ?_
   exact ⟨by rw [hr];rfl,Qc.out _ _⟩
  have q4:(kx == 4)=false:=by simpa using h4
  rw [Ja h4] at hr
  clear h4
  obtain ⟨⟨k0,k1,k2,k3⟩,⟨m0,m1⟩,⟨r0,r1,f0,f1⟩,⟨z0,z1⟩⟩:=Qf.out
  dsimp only at m0 m1 z0 z1
  go_wp2_with fail
  refine (Qz.out _ Qj.out).mono ?_
  rintro _ w8 ⟨rfl,hb8⟩
  have Qn:=Qa (bel_step Qj.out hb8)
  have Ql:=Qa (Qf.out.below hb8)
  clear k0 k1 k2 k3 m0 m1 r0 r1 f0 f1 z0 z1
  clear hb8 Qj Qf
  by_cases h2:kx=2
  ·subst h2
   clear q4
   obtain ⟨⟨k0,k1,k2,k3⟩,⟨m0,m1⟩,⟨r0,r1,f0,f1⟩,⟨z0,z1⟩⟩:=Ql.out
   dsimp only at m0 m1 z0 z1
   go_wp2_with fail
   refine (Xc.out _ Qn.out).mono ?_
   rintro _ w9 ⟨rfl,hb9⟩
   have Qw:=Qa (bel_step Qn.out hb9)
   have Qm:=Qa (Ql.out.below hb9)
   clear k0 k1 k2 k3 m0 m1 r0 r1 f0 f1 z0 z1
   clear hb9 Qn Ql
   cases ox with
   | true =>
    rw [Ja (fun e=>by cases e.2.1)] at hr
    obtain ⟨⟨k0,k1,k2,k3⟩,⟨m0,m1⟩,⟨r0,r1,f0,f1⟩,⟨z0,z1⟩⟩:=Qm.out
    dsimp only at m0 m1 z0 z1
    have Qb:=Qa (fun a b=>Qm.out.r.range a b)
    have Qc:=Qa (fun a b=>set2_below Qw.out (show w.heap.size≤g+2 by have:=Qd.out;omega) a b)
    go_wp2_with fail
    refine bodyPost_ret (results_row_tmp rfl _ _ (g+2) _ _ rfl (Qb.out _ _) Tryz.underlying24 (by rfl) (by rfl)) rfl ?_
    exact ⟨by rw [hr];rfl,Qc.out _ _⟩
   | false =>
    obtain ⟨⟨k0,k1,k2,k3⟩,⟨m0,m1⟩,⟨r0,r1,f0,f1⟩,⟨z0,z1⟩⟩:=Qm.out
    dsimp only at m0 m1 z0 z1
    go_wp2_with fail
    refine (Qv.out _ Qw.out).mono ?_
    rintro _ w10 ⟨rfl,hb10⟩
    have Q2:=Qa (bel_step Qw.out hb10)
    have Qo:=Qa (Qm.out.below hb10)
    clear k0 k1 k2 k3 m0 m1 r0 r1 f0 f1 z0 z1
    clear hb10 Qw Qm
    by_cases hl:kl=2
    ·rw [Jb ⟨by first|rfl|trivial,by first|rfl|trivial,hl⟩] at hr
     subst hl
     obtain ⟨⟨k0,k1,k2,k3⟩,⟨m0,m1⟩,⟨r0,r1,f0,f1⟩,⟨z0,z1⟩⟩:=Qo.out
     dsimp only at m0 m1 z0 z1
     have Qb:=Qa (fun a b=>Qo.out.r.range a b)
     have Qc:=Qa (fun a b=>set2_below Q2.out (show w.heap.size≤g+2 by have:=Qd.out;omega) a b)
     go_wp2_with fail
     refine bodyPost_ret (results_row_tmp rfl _ _ (g+2) _ _ rfl (Qb.out _ _) Tryz.underlying24 (by rfl) (by rfl)) rfl ?_
     exact ⟨by rw [hr];rfl,Qc.out _ _⟩
    have ql:(kl == 2)=false:=by simpa using hl
    rw [Ja (fun e=>hl e.2.2)] at hr
    clear hl
    obtain ⟨⟨k0,k1,k2,k3⟩,⟨m0,m1⟩,⟨r0,r1,f0,f1⟩,⟨z0,z1⟩⟩:=Qo.out
    dsimp only at m0 m1 z0 z1
    have Qb:=Qa (fun a b=>Qo.out.r.range a b)
    have Qc:=Qa (fun a b=>set2_below Q2.out (show w.heap.size≤g+2 by have:=Qd.out;omega) a b)
    go_wp2_with fail
    refine bodyPost_ret (results_row_tmp rfl _ _ (g+2) _ _ rfl (Qb.out _ _) Tryz.underlying24 (by rfl) (by rfl)) rfl ?_
    exact ⟨by rw [hr];rfl,Qc.out _ _⟩
  have q2:(kx == 2)=false:=by simpa using h2
  rw [Ja (fun e=>h2 e.1)] at hr
  clear h2
  obtain ⟨⟨k0,k1,k2,k3⟩,⟨m0,m1⟩,⟨r0,r1,f0,f1⟩,⟨z0,z1⟩⟩:=Ql.out
  dsimp only at m0 m1 z0 z1
  have Qb:=Qa (fun a b=>Ql.out.r.range a b)
  have Qc:=Qa (fun a b=>set2_below Qn.out (show w.heap.size≤g+2 by have:=Qd.out;omega) a b)
  go_wp2_with fail
  refine bodyPost_ret (results_row_tmp rfl _ _ (g+2) _ _ rfl (Qb.out _ _) Tryz.underlying24 (by rfl) (by rfl)) rfl ?_
  exact ⟨by rw [hr];rfl,Qc.out _ _⟩
 | false =>
  have hl:=Qs.out
  rw [Ja (by first|decide|simp)] at hl
  subst hl
  clear Qs
  clear Q3 HK Q6
  by_cases hn:n1=0
  ·subst hn
   have hx:x=0:=by rw [Qk.out];simp
   subst hx
   clear Qk Qr
   have hr:=HR.out
   rw [Ja (by simp)] at hr
   clear HR
   rw [Jb (.inl (by first|rfl|trivial))] at hr
   obtain ⟨⟨k0,k1,k2,k3⟩,⟨m0,m1⟩,⟨r0,r1,f0,f1⟩,⟨z0,z1⟩⟩:=Qq.out
   dsimp only at m0 m1 z0 z1
   have Qb:=Qa (fun a b=>Qq.out.r.range a b)
   have Qc:=Qa (fun a b=>set2_below Qt.out (show w.heap.size≤g+2 by have:=Qd.out;omega) a b)
   go_wp2_with fail
   refine bodyPost_ret (results_row_tmp rfl _ _ (g+2) _ _ rfl (Qb.out _ _) Tryz.underlying24 (by rfl) (by rfl)) rfl ?_
   exact ⟨by rw [hr];rfl,Qc.out _ _⟩
  have qn:(n1 != 0)=true:=by simpa using hn
  have hx:x=gu1:=by rw [Qk.out,Jb hn]
  subst hx
  clear Qk hn
  obtain ⟨⟨k0,k1,k2,k3⟩,⟨m0,m1⟩,⟨r0,r1,f0,f1⟩,⟨z0,z1⟩⟩:=Qq.out
  dsimp only at m0 m1 z0 z1
  go_wp2_with fail
  refine (Qr.out _ Qt.out).mono ?_
  rintro _ w5 ⟨rfl,hb5⟩
  have Qi:=Qa (bel_step Qt.out hb5)
  have Qh:=Qa (Qq.out.below hb5)
  clear k0 k1 k2 k3 m0 m1 r0 r1 f0 f1 z0 z1
  clear hb5 Qt Qq
  clear Qr
  by_cases hx0:x=0
  ·subst hx0
   have hr:=HR.out
   rw [Ja (by simp)] at hr
   clear HR
   rw [Jb (.inl (by first|rfl|trivial))] at hr
   obtain ⟨⟨k0,k1,k2,k3⟩,⟨m0,m1⟩,⟨r0,r1,f0,f1⟩,⟨z0,z1⟩⟩:=Qh.out
   dsimp only at m0 m1 z0 z1
   have Qb:=Qa (fun a b=>Qh.out.r.range a b)
   have Qc:=Qa (fun a b=>set2_below Qi.out (show w.heap.size≤g+2 by have:=Qd.out;omega) a b)
   go_wp2_with fail
   refine bodyPost_ret (results_row_tmp rfl _ _ (g+2) _ _ rfl (Qb.out _ _) Tryz.underlying24 (by rfl) (by rfl)) rfl ?_
   exact ⟨by rw [hr];rfl,Qc.out _ _⟩
  have qx:(x != 0)=true:=by simpa using hx0
  have hr:=HR.out
  rw [Jb hx0] at hr
  clear HR hx0
  have Qz:=Qa (fun W (hb:Below w.heap.size w W)=>Q5.out W x hb)
  have Qv:=Qa (fun W (hb:Below w.heap.size w W)=>Qp.out W 0 hb)
  have Xc:=Qa (fun W (hb:Below w.heap.size w W)=>Q4.out W x hb)
  clear Q5 Qp Q4
  generalize U.kindOf x=kx at *
  generalize L.kindOf 0=kl at *
  generalize opq U x=ox at *
  obtain ⟨⟨k0,k1,k2,k3⟩,⟨m0,m1⟩,⟨r0,r1,f0,f1⟩,⟨z0,z1⟩⟩:=Qh.out
  dsimp only at m0 m1 z0 z1
  go_wp2_with fail
  refine (Qz.out _ Qi.out).mono ?_
  rintro _ w6 ⟨rfl,hb6⟩
  have Qg:=Qa (bel_step Qi.out hb6)
  have Qe:=Qa (Qh.out.below hb6)
  clear k0 k1 k2 k3 m0 m1 r0 r1 f0 f1 z0 z1
  clear hb6 Qi Qh
  by_cases h4:kx=4
  ·rw [Jb h4] at hr
   subst h4
   obtain ⟨⟨k0,k1,k2,k3⟩,⟨m0,m1⟩,⟨r0,r1,f0,f1⟩,⟨z0,z1⟩⟩:=Qe.out
   dsimp only at m0 m1 z0 z1
   have Qb:=Qa (fun a b=>Qe.out.r.range a b)
   have Qc:=Qa (fun a b=>set2_below Qg.out (show w.heap.size≤g+2 by have:=Qd.out;omega) a b)
   go_wp2_with fail
   refine bodyPost_ret (results_row_tmp rfl _ _ (g+2) _ _ rfl (Qb.out _ _) Tryz.underlying24 (by rfl) (by rfl)) rfl ?_
   exact ⟨by rw [hr];rfl,Qc.out _ _⟩
  have q4:(kx == 4)=false:=by simpa using h4
  rw [Ja h4] at hr
  clear h4
  obtain ⟨⟨k0,k1,k2,k3⟩,⟨m0,m1⟩,⟨r0,r1,f0,f1⟩,⟨z0,z1⟩⟩:=Qe.out
  dsimp only at m0 m1 z0 z1
  go_wp2_with fail
  refine (Qz.out _ Qg.out).mono ?_
  rintro _ w7 ⟨rfl,hb7⟩
  have Qj:=Qa (bel_step Qg.out hb7)
  have Qf:=Qa (Qe.out.below hb7)
  clear k0 k1 k2 k3 m0 m1 r0 r1 f0 f1 z0 z1
  clear hb7 Qg Qe
  by_cases h2:kx=2
  ·subst h2
   clear q4
   obtain ⟨⟨k0,k1,k2,k3⟩,⟨m0,m1⟩,⟨r0,r1,f0,f1⟩,⟨z0,z1⟩⟩:=Qf.out
   dsimp only at m0 m1 z0 z1
   go_wp2_with fail
   refine (Xc.out _ Qj.out).mono ?_
   rintro _ w8 ⟨rfl,hb8⟩
   have Qn:=Qa (bel_step Qj.out hb8)
   have Ql:=Qa (Qf.out.below hb8)
   clear k0 k1 k2 k3 m0 m1 r0 r1 f0 f1 z0 z1
   clear hb8 Qj Qf
   cases ox with
   | true =>
    rw [Ja (fun e=>by cases e.2.1)] at hr
    obtain ⟨⟨k0,k1,k2,k3⟩,⟨m0,m1⟩,⟨r0,r1,f0,f1⟩,⟨z0,z1⟩⟩:=Ql.out
    dsimp only at m0 m1 z0 z1
    have Qb:=Qa (fun a b=>Ql.out.r.range a b)
    have Qc:=Qa (fun a b=>set2_below Qn.out (show w.heap.size≤g+2 by have:=Qd.out;omega) a b)
    go_wp2_with fail
    refine bodyPost_ret (results_row_tmp rfl _ _ (g+2) _ _ rfl (Qb.out _ _) Tryz.underlying24 (by rfl) (by rfl)) rfl ?_
    exact ⟨by rw [hr];rfl,Qc.out _ _⟩
   | false =>
    obtain ⟨⟨k0,k1,k2,k3⟩,⟨m0,m1⟩,⟨r0,r1,f0,f1⟩,⟨z0,z1⟩⟩:=Ql.out
    dsimp only at m0 m1 z0 z1
    go_wp2_with fail
    refine (Qv.out _ Qn.out).mono ?_
    rintro _ w9 ⟨rfl,hb9⟩
    have Qw:=Qa (bel_step Qn.out hb9)
    have Qm:=Qa (Ql.out.below hb9)
    clear k0 k1 k2 k3 m0 m1 r0 r1 f0 f1 z0 z1
    clear hb9 Qn Ql
    by_cases hl:kl=2
    ·rw [Jb ⟨by first|rfl|trivial,by first|rfl|trivial,hl⟩] at hr
     subst hl
     obtain ⟨⟨k0,k1,k2,k3⟩,⟨m0,m1⟩,⟨r0,r1,f0,f1⟩,⟨z0,z1⟩⟩:=Qm.out
     dsimp only at m0 m1 z0 z1
     have Qb:=Qa (fun a b=>Qm.out.r.range a b)
     have Qc:=Qa (fun a b=>set2_below Qw.out (show w.heap.size≤g+2 by have:=Qd.out;omega) a b)
     go_wp2_with fail
     refine bodyPost_ret (results_row_tmp rfl _ _ (g+2) _ _ rfl (Qb.out _ _) Tryz.underlying24 (by rfl) (by rfl)) rfl ?_
     exact ⟨by rw [hr];rfl,Qc.out _ _⟩
    have ql:(kl == 2)=false:=by simpa using hl
    rw [Ja (fun e=>hl e.2.2)] at hr
    clear hl
    obtain ⟨⟨k0,k1,k2,k3⟩,⟨m0,m1⟩,⟨r0,r1,f0,f1⟩,⟨z0,z1⟩⟩:=Qm.out
    dsimp only at m0 m1 z0 z1
    have Qb:=Qa (fun a b=>Qm.out.r.range a b)
    have Qc:=Qa (fun a b=>set2_below Qw.out (show w.heap.size≤g+2 by have:=Qd.out;omega) a b)
    go_wp2_with fail
    refine bodyPost_ret (results_row_tmp rfl _ _ (g+2) _ _ rfl (Qb.out _ _) Tryz.underlying24 (by rfl) (by rfl)) rfl ?_
    exact ⟨by rw [hr];rfl,Qc.out _ _⟩
  have q2:(kx == 2)=false:=by simpa using h2
  rw [Ja (fun e=>h2 e.1)] at hr
  clear h2
  obtain ⟨⟨k0,k1,k2,k3⟩,⟨m0,m1⟩,⟨r0,r1,f0,f1⟩,⟨z0,z1⟩⟩:=Qf.out
  dsimp only at m0 m1 z0 z1
  have Qb:=Qa (fun a b=>Qf.out.r.range a b)
  have Qc:=Qa (fun a b=>set2_below Qj.out (show w.heap.size≤g+2 by have:=Qd.out;omega) a b)
  go_wp2_with fail
  refine bodyPost_ret (results_row_tmp rfl _ _ (g+2) _ _ rfl (Qb.out _ _) Tryz.underlying24 (by rfl) (by rfl)) rfl ?_
  exact ⟨by rw [hr];rfl,Qc.out _ _⟩
end mg
namespace mg
open Go.RowKit
open dn (En lget lset ldel nerr dotB Sorted lessB)
open br (BS Ino Inv fresh)
theorem get_in {S:BS} {room:Nat} (hI:Inv S room) {d:Int} {s:ByteArray} (e:(S.get d s).2=0):s∈(S.all d).1.map (·.1)∧s≠⟨#[]⟩:=by
 obtain ⟨D,rfl,h1,h2,h3,h4⟩:=br.get_ok e
 have hm:=(dn.lget_some (hI.sorted D)).1 h4
 refine ⟨List.mem_map.2 ⟨(s,(S.get (D:Int) s).1),?_,rfl⟩,?_⟩
 ·unfold BS.all
  rw [Ja,br.at_nat]
  ·exact hm
  ·unfold BS.dirE BS.isI
   rw [br.at_nat,decide_eq_true ⟨by omega,by omega,by rw [h3];decide⟩,h3]
   simp
 ·rintro rfl
  have:=(hI.good D _ hm).1
  unfold nerr at this
  rw [Jb rfl] at this
  cases this
theorem name_in {U L:BS} {room room2:Nat} (hU:Inv U room) (hL:Inv L room2) {n:Nd} {s:ByteArray} (h:(getV U L n s).2=0) :
  s∈((U.all n.1).1++(L.all n.2).1).map (·.1)∧s≠⟨#[]⟩:=by
 have hd:=get_down hU hL n s h
 rw [List.map_append,List.mem_append]
 by_cases e:(getV U L n s).1.1=0
 ·have e2:(getV U L n s).1.2≠0:=fun e2=>hd.some (Prod.ext e e2)
  have:=get_in hL (d:=n.2) (s:=s) (by rw [hd.low e2])
  exact ⟨.inr this.1,this.2⟩
 ·have:=get_in hU (d:=n.1) (s:=s) (by rw [hd.up e])
  exact ⟨.inl this.1,this.2⟩
def bhd (l:List ByteArray) (j:Nat) (x:ByteArray):Bool:=decide (j=0) || lessB ((l[j - 1]?).getD ⟨#[]⟩) x
def stA (U L:BS) (n:Nd) (l:List ByteArray) (j:Nat) (b x:ByteArray):ByteArray :=
 if (bhd l j x && (decide (b=⟨#[]⟩) || lessB x b))=true∧(getV U L n x).2=0 then x else b
def bestA (U L:BS) (n:Nd) (l:List ByteArray) (j:Nat) (A:List ByteArray):ByteArray:=A.foldl (stA U L n l j) ⟨#[]⟩
def Cand (U L:BS) (n:Nd) (l:List ByteArray) (j:Nat) (x:ByteArray):Prop:=bhd l j x=true∧(getV U L n x).2=0
theorem best_inv {U L:BS} {room room2:Nat} (hU:Inv U room) (hL:Inv L room2) (n:Nd) (l:List ByteArray) (j:Nat):∀(A D:List ByteArray) (b:ByteArray),
  ((b=⟨#[]⟩∧∀x∈D,¬Cand U L n l j x)∨(b≠⟨#[]⟩∧Cand U L n l j b∧∀x∈D,Cand U L n l j x→lessB x b=false)) →
  ((A.foldl (stA U L n l j) b=⟨#[]⟩∧∀x∈D++A,¬Cand U L n l j x)∨(A.foldl (stA U L n l j) b≠⟨#[]⟩∧Cand U L n l j (A.foldl (stA U L n l j) b)∧∀x∈D++A,Cand U L n l j x→lessB x (A.foldl (stA U L n l j) b)=false))
 | [],D,b,h=>by simpa using h
 | x::A,D,b,h=>by
  rw [List.foldl_cons]
  have e0:D++x::A=(D++[x])++A:=by simp
  rw [e0]
  clear e0
  refine best_inv hU hL n l j A (D++[x]) (stA U L n l j b x) ?_
  unfold stA
  by_cases hc:(bhd l j x && (decide (b=⟨#[]⟩) || lessB x b))=true∧(getV U L n x).2=0
  ·rw [Jb hc]
   obtain ⟨h1,h2⟩:=hc
   rw [Bool.and_eq_true,Bool.or_eq_true,decide_eq_true_eq] at h1
   refine .inr ⟨(name_in hU hL h2).2,⟨h1.1,h2⟩,fun y hy hcy=>?_⟩
   rcases List.mem_append.1 hy with hy|hy
   ·rcases h with ⟨e,h⟩|⟨e,h3,h⟩
    ·exact absurd hcy (h y hy)
    ·rcases h1.2 with h1|h1
     ·exact absurd h1 e
     ·have h4:=h y hy hcy
      cases h5:lessB y x with
      | false=>rfl
      | true=>rw [dn.less_trans h5 h1] at h4;cases h4
   ·rw [List.mem_singleton] at hy;subst hy;exact dn.less_irrefl _
  ·rw [Ja hc]
   rcases h with ⟨e,h⟩|⟨e,h3,h⟩
   ·refine .inl ⟨e,fun y hy hcy=>?_⟩
    rcases List.mem_append.1 hy with hy|hy
    ·exact h y hy hcy
    ·rw [List.mem_singleton] at hy
     subst hy
     exact hc ⟨by rw [hcy.1,decide_eq_true e];rfl,hcy.2⟩
   ·refine .inr ⟨e,h3,fun y hy hcy=>?_⟩
    rcases List.mem_append.1 hy with hy|hy
    ·exact h y hy hcy
    ·rw [List.mem_singleton] at hy
     subst hy
     cases h5:lessB y b with
     | false=>rfl
     | true=>exact absurd ⟨by rw [hcy.1,h5];simp,hcy.2⟩ hc
theorem rise_lt {l:List ByteArray} (h:l.Pairwise fun a b=>lessB a b=true) {i k:Nat} {x y:ByteArray} (hx:l[i]?=some x) (hy:l[k]?=some y) (hik:i<k):lessB x y=true:=by
 obtain ⟨h1,rfl⟩:=List.getElem?_eq_some_iff.1 hx
 obtain ⟨h2,rfl⟩:=List.getElem?_eq_some_iff.1 hy
 exact List.pairwise_iff_getElem.1 h i k h1 h2 hik
theorem best_is {U L:BS} {room room2:Nat} (hU:Inv U room) (hL:Inv L room2) {n:Nd} {l:List ByteArray} (hl:AllV U L n l) (j:Nat) (hjl:j≤l.length) :
  bestA U L n l j (((U.all n.1).1++(L.all n.2).1).map (·.1))=(l[j]?).getD ⟨#[]⟩:=by
 have H:=best_inv hU hL n l j (((U.all n.1).1++(L.all n.2).1).map (·.1)) [] ⟨#[]⟩ (.inl ⟨rfl,fun x h=>(nomatch h)⟩)
 rw [List.nil_append] at H
 unfold bestA
 generalize (((U.all n.1).1++(L.all n.2).1).map (·.1)).foldl (stA U L n l j) ⟨#[]⟩=b at H
 have qa:∀x,l[j]?=some x→Cand U L n l j x∧x∈((U.all n.1).1++(L.all n.2).1).map (·.1):=fun x hx=>by
  have hm:=(hl.mem x).1 (List.mem_of_getElem? hx)
  refine ⟨⟨?_,hm⟩,(name_in hU hL hm).1⟩
  unfold bhd
  by_cases h0:j=0
  ·rw [decide_eq_true h0];rfl
  ·obtain ⟨hj,_⟩:=List.getElem?_eq_some_iff.1 hx
   have hp:l[j - 1]?=some l[j - 1]:=List.getElem?_eq_getElem _
   rw [hp,Option.getD_some,rise_lt hl.rise hp hx (by omega),Bool.or_true]
 have ma:∀x,Cand U L n l j x→∃k,j≤k∧l[k]?=some x:=fun x hc=>by
  obtain ⟨k,hk⟩:=List.mem_iff_getElem?.1 ((hl.mem x).2 hc.2)
  refine ⟨k,?_,hk⟩
  refine Nat.le_of_not_lt fun hkj=>?_
  have h1:=hc.1
  unfold bhd at h1
  rw [decide_eq_false (show ¬j=0 by omega),Bool.false_or] at h1
  by_cases hj:j - 1<l.length
  ·have hp:l[j - 1]?=some l[j - 1]:=List.getElem?_eq_getElem _
   rw [hp,Option.getD_some] at h1
   by_cases e:k=j - 1
   ·subst e
    rw [hp] at hk
    injection hk with hk
    rw [hk,dn.less_irrefl] at h1
    cases h1
   ·have h2:=rise_lt hl.rise hk hp (by omega)
    rw [dn.less_asymm h2] at h1
    cases h1
  ·omega
 cases hj:l[j]? with
 | none =>
  rcases H with ⟨e,h⟩|⟨e,h1,h⟩
  ·exact e
  ·obtain ⟨k,h2,h3⟩:=ma b h1
   rw [List.getElem?_eq_none_iff] at hj
   obtain ⟨h4,_⟩:=List.getElem?_eq_some_iff.1 h3
   omega
 | some x =>
  obtain ⟨c1,c2⟩:=qa x hj
  rcases H with ⟨e,h⟩|⟨e,h1,h⟩
  ·exact absurd c1 (h x c2)
  ·obtain ⟨k,h2,h3⟩:=ma b h1
   by_cases e2:k=j
   ·subst e2
    rw [hj] at h3
    injection h3 with h3
    exact h3.symm
   ·have h4:=rise_lt hl.rise hj h3 (by omega)
    rw [h x c2 c1] at h4
    cases h4
theorem best_short {U L:BS} {n:Nd} {l:List ByteArray} {j:Nat}:∀(A:List ByteArray) (b:ByteArray),b.size≤60→(∀x∈A,x.size≤60)→(A.foldl (stA U L n l j) b).size≤60
 | [],b,h,_=>h
 | x::A,b,h,k=>by
  rw [List.foldl_cons]
  refine best_short A _ ?_ fun y hy=>k y (List.mem_cons_of_mem _ hy)
  unfold stA
  split
  ·exact k x List.mem_cons_self
  ·exact h
theorem best_next {U L:BS} {n:Nd} {l:List ByteArray} {j i:Nat} {A:List ByteArray} {x:ByteArray} (h:A[i]?=some x):bestA U L n l j (A.take (i+1))=stA U L n l j (bestA U L n l j (A.take i)) x:=by
 unfold bestA;rw [List.take_add_one,h,List.foldl_append];rfl
theorem st_no1 {U L:BS} {n:Nd} {l:List ByteArray} {j:Nat} {b x:ByteArray} (h:bhd l j x=false):stA U L n l j b x=b:=by unfold stA;rw [h];exact Ja (by simp)
theorem st_no2 {U L:BS} {n:Nd} {l:List ByteArray} {j:Nat} {b x:ByteArray} (h:b≠⟨#[]⟩) (h2:lessB x b=false):stA U L n l j b x=b:=by unfold stA;rw [h2,decide_eq_false h];exact Ja (by simp)
theorem st_no3 {U L:BS} {n:Nd} {l:List ByteArray} {j:Nat} {b x:ByteArray} (h:(getV U L n x).2≠0):stA U L n l j b x=b:=Ja fun e=>h e.2
theorem st_yes {U L:BS} {n:Nd} {l:List ByteArray} {j:Nat} {b x:ByteArray} (h:bhd l j x=true) (h2:b=⟨#[]⟩∨lessB x b=true) (h3:(getV U L n x).2=0):stA U L n l j b x=x:=by
 refine Jb ⟨?_,h3⟩
 rw [h,Bool.true_and,Bool.or_eq_true,decide_eq_true_eq]
 exact h2
theorem bhd_zero (l:List ByteArray) (x:ByteArray):bhd l 0 x=true:=rfl
theorem bhd_succ {l:List ByteArray} {j:Nat} {o:ByteArray} (h:l[j]?=some o) (x:ByteArray):bhd l (j+1) x=lessB o x:=by unfold bhd;rw [Nat.add_sub_cancel,h];rfl
end mg
end Go.Proofs.YtgoddboicjfkcaaGreat
