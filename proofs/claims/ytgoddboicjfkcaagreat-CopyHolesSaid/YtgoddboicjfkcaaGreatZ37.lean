/- Part 37 of what is known of the program's functions and of the document's words: contracts, and the mathematics beneath them. -/
import Derived.Test.YtgoddboicjfkcaaGreatProg
import Derived.Test.YtgoddboicjfkcaaGreatZ27
import Derived.Test.YtgoddboicjfkcaaGreatZ35
import Derived.Lib.ConvBytes
import Derived.StillTailTactics
import Derived.Deep.LoopGhost
import Derived.Test.YtgoddboicjfkcaaGreatZ32
import Derived.BigQuiet
import Derived.Test.YtgoddboicjfkcaaGreatZ26
set_option linter.unusedVariables false
set_option linter.unusedSimpArgs false
set_option maxRecDepth 100000
set_option maxHeartbeats 8000000
namespace Go.Proofs.YtgoddboicjfkcaaGreat.cb
open Go.RowKit
open br
open bl (AB WR Pq U8)
def sF (s:ByteArray):Nat→UInt8:=fun j=>s.data.toList.getD j 0
theorem conv_bytes (w:World) (s:ByteArray) (hs:s.size≤1000000):∃ c w',(convert 9 53 (.string s)).run Tryz.prog w=.ok (.slice (some ⟨w.heap.size,0,none⟩) s.size c) w'∧s.size≤c∧c≤maxLen∧Below w.heap.size w w'∧w.heap.size<w'.heap.size∧∀ j,j<s.size→w'.cell? ⟨w.heap.size,0+j,none⟩=some (U8 (sF s j)):=by
 refine ⟨_,_,Lib.run_convert_string_bytes w 9 53 5 s Tryz.underlying9 Tryz.underlying53 Tryz.underlying5,grownCap_ge _ _ _ _,grownCap_le_maxLen _ _ _ _ (by unfold maxLen;omega),?_,by rw [Lib.bytesWorld_size];omega,fun j hj=>?_⟩
 ·refine ⟨?_,?_,?_,by rw [Lib.bytesWorld_size];omega,fun k hk=>Lib.bytesWorld_at_old w 5 s k hk⟩
  ·simp [Lib.bytesWorld,World.freeze] <;> rfl
  ·simp [Lib.bytesWorld,World.freeze] <;> rfl
  ·simp [Lib.bytesWorld,World.freeze] <;> rfl
 ·rw [Nat.zero_add];exact Lib.bytesWorld_cell w 5 s j hj

end Go.Proofs.YtgoddboicjfkcaaGreat.cb
namespace Go.Proofs.YtgoddboicjfkcaaGreat.mg
open Go.RowKit
open dn (En lget lset ldel nerr dotB Sorted lessB)
open br (BS Ino Inv fresh)
open cb (Act7 WrI sF MadeI)
open bl (Pq WR IsStop)
abbrev zL:ByteArray:=⟨#[108]⟩
end Go.Proofs.YtgoddboicjfkcaaGreat.mg
namespace Go.Proofs.YtgoddboicjfkcaaGreat.mg
open Go.RowKit
open br (BS Ino Inv fresh)
open cb (BrX RetW RetI No Act7 ReadI)
open bl (Pq Only)
def AwakeE (w:World) (e:Ending) (w':World):Prop:=e=.returned (.bool true)∧Below w.heap.size w w'
end Go.Proofs.YtgoddboicjfkcaaGreat.mg
namespace Go.Proofs.YtgoddboicjfkcaaGreat.mg
open Go.RowKit Go.Deep
open br (BS Ino Inv fresh)
open cb (BrX RetW RetI No DB RetQ Pd)
open bl (Pq)
structure Vd (w:World) (D1 D2:Nat) (U L:BS):Prop where
 d1:∃ lo RS pl tg r,DB w D1 lo RS pl tg U r∧br.Good U r
 d2:∃ lo RS pl tg r,DB w D2 lo RS pl tg L r∧br.Good L r
abbrev Rv (D1 D2:Nat) (u l:Int):Value:=.agg #[Pq D1,Pq D2,.int .i64 u,.int .i64 l]
structure R4 (w:World) (g:Nat) (D1 D2:Nat) (u l:Int):Prop where
 c0:w.cell? ⟨g,0,none⟩=some (Pq D1)
 c1:w.cell? ⟨g,1,none⟩=some (Pq D2)
 c2:w.cell? ⟨g,2,none⟩=some (.int .i64 u)
 c3:w.cell? ⟨g,3,none⟩=some (.int .i64 l)
section
variable {w w':World} {D1 D2 g:Nat} {U L:BS} {u l:Int}
theorem Vd.below (h:Vd w D1 D2 U L) (hb:Below w.heap.size w w'):Vd w' D1 D2 U L :=
 ⟨by obtain ⟨a,b,c,d,r,e,g⟩:=h.d1;exact ⟨a,b,c,d,r,e.below hb,g⟩,by obtain ⟨a,b,c,d,r,e,g⟩:=h.d2;exact ⟨a,b,c,d,r,e.below hb,g⟩⟩
theorem Vd.i1 (h:Vd w D1 D2 U L):∃ r,Inv U r:=by obtain ⟨_,_,_,_,r,_,g⟩:=h.d1;exact ⟨r,g.1⟩
theorem Vd.i2 (h:Vd w D1 D2 U L):∃ r,Inv L r:=by obtain ⟨_,_,_,_,r,_,g⟩:=h.d2;exact ⟨r,g.1⟩
theorem R4.new (w:World) (D1 D2:Nat) (u l:Int):R4 (w.alloc (.cells #[Pq D1,Pq D2,.int .i64 u,.int .i64 l] 36)) w.heap.size D1 D2 u l:=⟨by simp,by simp,by simp,by simp⟩
theorem R4.lt (h:R4 w g D1 D2 u l):g<w.heap.size:=World.block_lt_of_cell? _ _ h.c0
theorem R4.below (h:R4 w g D1 D2 u l) (hb:Below w.heap.size w w'):R4 w' g D1 D2 u l :=
 ⟨(hb.cell (p:=⟨g,0,none⟩) h.lt).trans h.c0,(hb.cell (p:=⟨g,1,none⟩) h.lt).trans h.c1,(hb.cell (p:=⟨g,2,none⟩) h.lt).trans h.c2,(hb.cell (p:=⟨g,3,none⟩) h.lt).trans h.c3⟩
theorem quiet_below {f:FuncId} {args:Array Value} {v:Value} (h:Calls Tryz.prog f args w (RetQ w v)):Calls Tryz.prog f args w (fun e w'=>e=.returned v∧Below w.heap.size w w'):=h.mono fun _ _ ⟨a,b⟩=>⟨a,by rw [b];exact Below.refl _ _⟩
theorem Vd.kind1 (h:Vd w D1 D2 U L) (i:Int):Calls Tryz.prog 69 #[Pq D1,.int .i64 i] w (fun e w'=>e=.returned (.int .i64 (U.kindOf i))∧Below w.heap.size w w'):=by obtain ⟨_,_,_,_,_,k,g⟩:=h.d1;exact quiet_below (cb.q_kind k i)
theorem Vd.kind2 (h:Vd w D1 D2 U L) (i:Int):Calls Tryz.prog 69 #[Pq D2,.int .i64 i] w (fun e w'=>e=.returned (.int .i64 (L.kindOf i))∧Below w.heap.size w w'):=by obtain ⟨_,_,_,_,_,k,g⟩:=h.d2;exact quiet_below (cb.q_kind k i)
theorem Vd.get1 (h:Vd w D1 D2 U L) (i:Int) (s:ByteArray):Calls Tryz.prog 76 #[Pq D1,.int .i64 i,.string s] w (fun e w'=>e=.returned (.tuple #[.int .i64 (U.get i s).1,.int .i64 (U.get i s).2])∧Below w.heap.size w w'):=by obtain ⟨_,_,_,_,_,k,g⟩:=h.d1;exact quiet_below (cb.q_get k g i s)
theorem Vd.get2 (h:Vd w D1 D2 U L) (i:Int) (s:ByteArray):Calls Tryz.prog 76 #[Pq D2,.int .i64 i,.string s] w (fun e w'=>e=.returned (.tuple #[.int .i64 (L.get i s).1,.int .i64 (L.get i s).2])∧Below w.heap.size w w'):=by obtain ⟨_,_,_,_,_,k,g⟩:=h.d2;exact quiet_below (cb.q_get k g i s)
end
theorem rkind_any {w:World} {D1 D2:Nat} {U L:BS} {u l:Int} (h:Vd w D1 D2 U L) (n:Nd):Calls Tryz.prog 20 #[Rv D1 D2 u l,Nv n] w (RetI w (kindV U L n)):=by
 obtain ⟨n1,n2⟩:=n
 obtain ⟨w1,hw1⟩:∃ w1,(w.alloc (.cells #[Pq D1,Pq D2,.int .i64 u,.int .i64 l] 36)).alloc (.cells #[.int .i64 n1,.int .i64 n2] 24)=w1:=⟨_,rfl⟩
 have hb1:Below w.heap.size w w1:=by rw [← hw1];exact bel_step (bel_alloc _ _) (bel_alloc _ _)
 have HR:=Lib.hid (show R4 w1 w.heap.size D1 D2 u l by rw [← hw1];exact (R4.new w D1 D2 u l).below (bel_alloc _ _))
 have HN:=Lib.hid (show Nb w1 (w.heap.size+1) (n1,n2) by rw [← hw1];have:=Nb.new (w.alloc (.cells #[Pq D1,Pq D2,.int .i64 u,.int .i64 l] 36)) n1 n2;rwa [World.size_alloc] at this)
 have HD:=Lib.hid (fun W (hb:Below w1.heap.size w1 W)=>(h.below hb1).below hb)
 have HK1:=Lib.hid (fun W (hb:Below w1.heap.size w1 W)=>(HD.out W hb).kind1 n1)
 have HK2:=Lib.hid (fun W (hb:Below w1.heap.size w1 W)=>(HD.out W hb).kind2 n2)
 have HB1:=Lib.hid hb1
 have HV:=Lib.hid (show kindV U L (n1,n2)=if (if n1≠0 then U.kindOf n1 else L.kindOf n2)=4 then 0 else (if n1≠0 then U.kindOf n1 else L.kindOf n2) from rfl)
 generalize kindV U L (n1,n2)=kv at *
 generalize U.kindOf n1=k1 at *
 generalize L.kindOf n2=k2 at *
 obtain ⟨g,hg⟩:∃ g,w.heap.size=g:=⟨_,rfl⟩
 rw [hg] at HR HN
 obtain ⟨a0,a1,a2,a3⟩:=HR.out
 obtain ⟨b0,b1⟩:=HN.out
 dsimp only at b0 b1
 clear h hb1 HD
 unfold RetI
 go_enter Tryz.func20,Tryz.ntmps20
 go_wp2_with fail
 refine (HK1.out _ (Below.refl _ _)).mono ?_
 rintro _ w2 ⟨rfl,hb2⟩
 have HB2:=Lib.hid hb2
 have HR2:=Lib.hid (HR.out.below hb2)
 have HN2:=Lib.hid (HN.out.below hb2)
 clear hb2 a0 a1 a2 a3 b0 b1 HK1
 obtain ⟨a0,a1,a2,a3⟩:=HR2.out
 obtain ⟨b0,b1⟩:=HN2.out
 dsimp only at b0 b1
 by_cases h1:n1=0
 ·subst h1
  go_wp2_with fail
  refine (HK2.out _ HB2.out).mono ?_
  rintro _ w3 ⟨rfl,hb3⟩
  have HE:=Lib.hid (bel_step HB1.out (bel_step HB2.out hb3))
  have hv:=HV.out
  clear hb3 HV
  by_cases h4:k2=4
  ·subst h4
   simp at hv
   subst hv
   go_wp2_with fail
   go_ret
   exact ⟨rfl,HE.out⟩
  ·have q4:(k2 == 4)=false:=by simpa using h4
   simp [h4] at hv
   subst hv
   go_wp2_with fail
   go_ret
   exact ⟨rfl,HE.out⟩
 ·have q1:(n1 == 0)=false:=by simpa using h1
  have HE:=Lib.hid (bel_step HB1.out HB2.out)
  have hv:=HV.out
  clear HV
  by_cases h4:k1=4
  ·subst h4
   simp [h1] at hv
   subst hv
   clear h1
   go_wp2_with fail
   go_ret
   exact ⟨rfl,HE.out⟩
  ·have q4:(k1 == 4)=false:=by simpa using h4
   simp [h1,h4] at hv
   subst hv
   clear h1 h4
   go_wp2_with fail
   go_ret
   exact ⟨rfl,HE.out⟩
end Go.Proofs.YtgoddboicjfkcaaGreat.mg
namespace Go.Proofs.YtgoddboicjfkcaaGreat.cu
open Go.RowKit Go.Deep
open br (BS Ino Inv at_nat)
open cb (BrX RetW RetI No KB KD Res HB Stab NxR Same CB InoC)
open bl (Pq Only)
open mg (bel_step bel_alloc Vd)
theorem du_lower {w:World} {D lo lo' c:Nat} {o:Option Nat} {L:List dn.En} (h:dn.Du w D lo o c L) (hl:lo'≤lo):dn.Du w D lo' o c L:=by
 refine ⟨h.d0,h.f0,?_⟩
 cases o with
 | none=>exact h.row
 | some G=>exact ⟨Nat.le_trans hl h.row.1,h.row.2⟩
theorem ql_lower {w:World} {Q lo lo' T:Nat} {o:Option Nat} {L:List qu.KN} (h:qu.QL w Q lo o L T) (hl:lo'≤lo):qu.QL w Q lo' o L T:=by
 obtain ⟨c,xs,h,r⟩:=h
 refine ⟨c,xs,⟨h.q0,h.q1,h.f0,h.f1,?_⟩,r⟩
 have hr:=h.row
 cases o with
 | none=>exact hr
 | some G=>exact ⟨Nat.le_trans hl hr.1,hr.2⟩
theorem cb_lower {w:World} {P lo lo' st qb room T:Nat} {qo:Option Nat} {pl:Nat→cb.Pl} {tag:Nat→Nat} {S:BS} {L:List qu.KN} (h:CB w P lo st qb qo pl tag S room L T) (hl:lo'≤lo):CB w P lo' st qb qo pl tag S room L T :=
 { h with
  q:=ql_lower h.q hl
  ino:=fun k hk hn=>{ h.ino k hk hn with dir:=fun e=>du_lower ((h.ino k hk hn).dir e) hl }
  lo:=fun b hb=>h.lo b (Nat.lt_of_lt_of_le hb hl) }
theorem brx_lower {w0 w w':World} {P room T:Nat} {X:Nat→Prop} {S:BS} (h:BrX w w' P X S room T) (hb:Below w0.heap.size w0 w):BrX w0 w' P X S room T:=by
 obtain ⟨st,qb,qo,pl,tag,Tq,h1,h2,h3,h4,h5,h6,h7⟩:=h
 exact ⟨st,qb,qo,pl,tag,Tq,cb_lower h1 hb.size,h2,h3,h4,h5,bel_step hb h6,h7⟩
theorem add_made {w0 w w':World} {L:List Res} {X:Nat→Prop} {P r T:Nat} {S:BS} (h:cb.Sys w0 w L X) (hm:BrX w w' P (fun b=>b<w.heap.size) S r T):cb.Sys w0 w' (L++[KB w0 P S r T]) X:=by
 obtain ⟨O,h1,h2⟩:=KB.made (brx_lower hm h.bel)
 exact h.add hm.bel KB.stab h1 h2
section
variable {w0 w:World} {L L':List Res} {X:Nat→Prop}
theorem Sys.perm (h:cb.Sys w0 w L X) (σ:Nat→Nat) (hinj:∀ i j,i<L'.length→j<L'.length→σ i=σ j→i=j) (hL:∀ i r,L'[i]?=some r→L[σ i]?=some r):cb.Sys w0 w L' X:=by
 classical
 obtain ⟨g,h1,h3,h2⟩:=h.tag
 have key:∀ i,i<L'.length→∀ b,((if e:∃ j,j<L'.length∧g b=σ j+1 then e.choose+1 else 0)=i+1↔g b=σ i+1):=fun i hi b=>by
  by_cases e:∃ j,j<L'.length∧g b=σ j+1
  ·rw [dif_pos e]
   have hs:=e.choose_spec
   constructor
   ·intro e2
    rw [show i=e.choose from by omega];exact hs.2
   ·intro e2
    rw [hinj _ _ hs.1 hi (by omega)]
  ·rw [dif_neg e]
   exact ⟨fun e2=>by omega,fun e2=>absurd ⟨i,hi,e2⟩ e⟩
 have zero:∀ b,g b=0→(if e:∃ j,j<L'.length∧g b=σ j+1 then e.choose+1 else 0)=0:=fun b hb=>by
  rw [dif_neg]
  rintro ⟨j,_,hj⟩
  omega
 refine ⟨h.bel,fun i r hi=>h.stab _ r (hL i r hi),fun b=>if e:∃ j,j<L'.length∧g b=σ j+1 then e.choose+1 else 0,fun i r hi=>?_,fun b hb=>zero b (h3 b hb),fun b hb=>⟨(h2 b hb).1,zero b (h2 b hb).2⟩⟩
 have hlt:=(List.getElem?_eq_some_iff.1 hi).1
 have:(fun b=>(if e:∃ j,j<L'.length∧g b=σ j+1 then e.choose+1 else 0)=i+1)=fun b=>g b=σ i+1:=funext fun b=>propext (key i hlt b)
 rw [this]
 exact h1 _ r (hL i r hi)
end
theorem quiet2 {f:FuncId} {args:Array Value} {w:World} {v:Value} (h:Calls Tryz.prog f args w (cb.RetQ w v)):Calls Tryz.prog f args w (fun e w'=>e=.returned v∧w'=w):=h.mono fun _ _ ⟨a,b⟩=>⟨a,b⟩
theorem cnew_any {w0 w:World} {P1 P2 r T r2 T2:Nat} {S L:BS} {X X2:Nat→Prop} (h1:BrX w0 w P1 X S r T) (u l wk:Int) (hne:u≠wk) (hu:S.kindOf u=2) (hw:S.kindOf wk=2) :
  Calls Tryz.prog 113 #[Pq P1,Pq P2,.int .i64 u,.int .i64 l,.int .i64 wk] w (fun e w'=>∃ C V,e=.returned (Pq C)∧Below w.heap.size w w'∧w.heap.size≤V∧V<w'.heap.size∧w.heap.size≤C∧C<w'.heap.size∧C≠V∧Cx w' ⟨C,V,P1,P2,u,l,wk⟩∧w'.heap[C]?=some (.cells #[Pq P1,Pq V,.int .i64 u,.int .i64 wk] 195 (0,0))):=by
 have HK1:=Lib.hid (fun W (hb:Below w.heap.size w W)=>cb.x_kind (h1.below hb) u)
 have HK2:=Lib.hid (fun W (hb:Below w.heap.size w W)=>cb.x_kind (h1.below hb) wk)
 rw [hu] at HK1
 rw [hw] at HK2
 unfold cb.RetI at HK1 HK2
 have HN:=Lib.hid (fun W=>mg.new_any P1 P2 u l W)
 have hq:(u == wk)=false:=by simpa using hne
 clear h1 hu hw hne
 go_enter Tryz.func113,Tryz.ntmps113
 go_wp2_with fail
 refine (HK1.out w (Below.refl _ _)).mono ?_
 rintro _ w1 ⟨rfl,hb1⟩
 have HB1:=Lib.hid hb1
 clear hb1
 go_wp2_with fail
 refine (HK2.out w1 HB1.out).mono ?_
 rintro _ w2 ⟨rfl,hb2⟩
 have HB2:=Lib.hid (bel_step HB1.out hb2)
 clear hb2
 go_wp2_with fail
 refine (HN.out w2).mono ?_
 rintro _ w3 ⟨rfl,rfl⟩
 go_wp2_with fail
 go_ret
 obtain ⟨w4,hw4⟩:∃ w4,w2.alloc (.cells #[Pq P1,Pq P2,.int .i64 u,.int .i64 l] 111)=w4:=⟨_,rfl⟩
 have hz:w4.heap.size=w2.heap.size+1:=by rw [← hw4,World.size_alloc]
 have hb4:Below w.heap.size w w4:=by rw [← hw4];exact bel_step HB2.out (bel_alloc _ _)
 rw [hw4,← hz]
 have h2:=HB2.out.size
 refine ⟨_,w2.heap.size,rfl,bel_step hb4 (bel_alloc _ _),h2,by rw [World.size_alloc];omega,by omega,by rw [World.size_alloc];omega,by omega,?_,heap_alloc_new _ _⟩
 have hv:∀ j,(w4.alloc (.cells #[Pq P1,Pq w2.heap.size,.int .i64 u,.int .i64 wk] 195)).cell? ⟨w2.heap.size,j,none⟩=w4.cell? ⟨w2.heap.size,j,none⟩:=fun j=>World.cell?_alloc_lt _ _ _ (by show w2.heap.size<_;omega)
 exact ⟨by simp,by simp,by simp,by simp,(hv 0).trans (by rw [← hw4];simp),(hv 1).trans (by rw [← hw4];simp),(hv 2).trans (by rw [← hw4];simp),(hv 3).trans (by rw [← hw4];simp)⟩
structure Rx (w:World) (R D1 D2:Nat) (u l wk:Int):Prop where
 c0:w.cell? ⟨R,0,none⟩=some (Pq D1)
 c1:w.cell? ⟨R,1,none⟩=some (Pq D2)
 c2:w.cell? ⟨R,2,none⟩=some (.int .i64 u)
 c3:w.cell? ⟨R,3,none⟩=some (.int .i64 l)
 c4:w.cell? ⟨R,4,none⟩=some (.int .i64 wk)
theorem rnew_any {w:World} {D1 D2:Nat} {U L:BS} (h:Vd w D1 D2 U L) (u l wk:Int) (hne:u≠wk) (hu:U.kindOf u=2) (hw:U.kindOf wk=2) :
  Calls Tryz.prog 115 #[Pq D1,Pq D2,.int .i64 u,.int .i64 l,.int .i64 wk] w (fun e w'=>∃ R,e=.returned (Pq R)∧Below w.heap.size w w'∧w.heap.size≤R∧R<w'.heap.size∧Rx w' R D1 D2 u l wk):=by
 have HK1:=Lib.hid (fun W (hb:Below w.heap.size w W)=>(h.below hb).kind1 u)
 have HK2:=Lib.hid (fun W (hb:Below w.heap.size w W)=>(h.below hb).kind1 wk)
 rw [hu] at HK1
 rw [hw] at HK2
 have hq:(u == wk)=false:=by simpa using hne
 clear h hu hw hne
 go_enter Tryz.func115,Tryz.ntmps115
 go_wp2_with fail
 refine (HK1.out w (Below.refl _ _)).mono ?_
 rintro _ w1 ⟨rfl,hb1⟩
 have HB1:=Lib.hid hb1
 clear hb1
 go_wp2_with fail
 refine (HK2.out w1 HB1.out).mono ?_
 rintro _ w2 ⟨rfl,hb2⟩
 have HB2:=Lib.hid (bel_step HB1.out hb2)
 clear hb2
 go_wp2_with fail
 go_ret
 exact ⟨w2.heap.size,rfl,bel_step HB2.out (bel_alloc _ _),HB2.out.size,by rw [World.size_alloc];omega,by simp,by simp,by simp,by simp,by simp⟩
end Go.Proofs.YtgoddboicjfkcaaGreat.cu
namespace Go.Proofs.YtgoddboicjfkcaaGreat.mg
open Go.RowKit Go.Deep
open br (BS Ino Inv fresh)
open cb (BrX RetW RetI No DB RetQ Pd)
open bl (Pq)
theorem ropq_any {w:World} {D1 D2:Nat} {U L:BS} {u l:Int} (h:Vd w D1 D2 U L) (i:Int):Calls Tryz.prog 70 #[Rv D1 D2 u l,.int .i64 i] w (fun e w'=>e=.returned (.bool (opq U i))∧Below w.heap.size w w'):=by
 obtain ⟨w1,hw1⟩:∃ w1,w.alloc (.cells #[Pq D1,Pq D2,.int .i64 u,.int .i64 l] 36)=w1:=⟨_,rfl⟩
 have hb1:Below w.heap.size w w1:=by rw [← hw1];exact bel_alloc _ _
 have HR:=Lib.hid (show R4 w1 w.heap.size D1 D2 u l by rw [← hw1];exact R4.new w D1 D2 u l)
 have HD:=Lib.hid (h.below hb1)
 have HB1:=Lib.hid hb1
 have HIS:=Lib.hid (show Calls Tryz.prog 105 #[Pq D1,.int .i64 i] w1 (RetQ w1 (.bool (U.isI i))) by obtain ⟨_,_,_,_,_,k,g⟩:=HD.out.d1;exact cb.q_is k i)
 obtain ⟨g,hg⟩:∃ g,w.heap.size=g:=⟨_,rfl⟩
 rw [hg] at HR
 obtain ⟨a0,a1,a2,a3⟩:=HR.out
 unfold RetQ at HIS
 rcases cb.isI_cases U i with hI|⟨I,rfl,i1,i2,hn,hI⟩
 ·rw [hI] at HIS
  have ho:opq U i=false:=by unfold opq br.BS.marksOf;rw [if_neg (by rw [hI];decide)];rfl
  rw [ho]
  clear h hb1 HD ho hI
  go_enter Tryz.func70,Tryz.ntmps70
  go_wp2_with fail
  refine HIS.out.mono ?_
  rintro _ w2 ⟨rfl,rfl⟩
  go_wp2_with fail
  go_ret
  exact ⟨rfl,HB1.out⟩
 ·rw [hI] at HIS
  have hm:U.marksOf (I:Int)=(U.ino I).marks:=by unfold br.BS.marksOf br.BS.at;rw [if_pos hI,Int.toNat_natCast]
  have HO:=Lib.hid (show opq U (I:Int)=decide ((U.ino I).marks % 2=1) by unfold opq;rw [hm])
  have c3:w1.cell? ⟨D1,1+I*9+3,none⟩=some (.int .i64 (U.ino I).marks):=by obtain ⟨_,_,_,_,_,k,g⟩:=HD.out.d1;exact (k.ino I i2).c3
  generalize (U.ino I).marks=mk at *
  generalize opq U (I:Int)=o at *
  clear h hb1 HD hI hn hm
  go_enter Tryz.func70,Tryz.ntmps70
  go_wp2_with fail
  refine HIS.out.mono ?_
  rintro _ w2 ⟨rfl,rfl⟩
  go_wp2_with fail
  go_ret
  refine ⟨?_,HB1.out⟩
  have e:((IntKind.u64.wrap mk).tmod 2 == 1)=o:=by
   rw [HO.out]
   have hw:IntKind.u64.wrap mk=mk % 18446744073709551616:=by unfold IntKind.wrap;simp [IntKind.bits,IntKind.signed]
   rw [hw,Int.tmod_eq_emod_of_nonneg (Int.emod_nonneg _ (by decide)),Bool.eq_iff_iff,beq_iff_eq,decide_eq_true_eq]
   omega
  rw [← e]
  rfl
theorem rcounts_any {w:World} {D1 D2:Nat} {U L:BS} {u l:Int} (h:Vd w D1 D2 U L) (n:Nd):Calls Tryz.prog 75 #[Rv D1 D2 u l,Nv n] w (fun e w'=>e=.returned (.bool (decide (n.2≠0) && (decide (n.1=0) || !opq U n.1)))∧Below w.heap.size w w'):=by
 obtain ⟨n1,n2⟩:=n
 obtain ⟨w1,hw1⟩:∃ w1,(w.alloc (.cells #[Pq D1,Pq D2,.int .i64 u,.int .i64 l] 36)).alloc (.cells #[.int .i64 n1,.int .i64 n2] 24)=w1:=⟨_,rfl⟩
 have hb1:Below w.heap.size w w1:=by rw [← hw1];exact bel_step (bel_alloc _ _) (bel_alloc _ _)
 have HR:=Lib.hid (show R4 w1 w.heap.size D1 D2 u l by rw [← hw1];exact (R4.new w D1 D2 u l).below (bel_alloc _ _))
 have HN:=Lib.hid (show Nb w1 (w.heap.size+1) (n1,n2) by rw [← hw1];have:=Nb.new (w.alloc (.cells #[Pq D1,Pq D2,.int .i64 u,.int .i64 l] 36)) n1 n2;rwa [World.size_alloc] at this)
 have HO:=Lib.hid (ropq_any (u:=u) (l:=l) (h.below hb1) n1)
 have HB1:=Lib.hid hb1
 obtain ⟨g,hg⟩:∃ g,w.heap.size=g:=⟨_,rfl⟩
 rw [hg] at HR HN
 obtain ⟨a0,a1,a2,a3⟩:=HR.out
 obtain ⟨b0,b1⟩:=HN.out
 dsimp only at b0 b1 ⊢
 generalize opq U n1=o at *
 clear h hb1
 by_cases h2:n2=0
 ·subst h2
  go_enter Tryz.func75,Tryz.ntmps75
  go_wp2_with fail
  go_ret
  exact ⟨rfl,HB1.out⟩
 ·have q2:(n2 != 0)=true:=by simpa using h2
  have e2:decide (n2≠0)=true:=by simpa using h2
  by_cases h1:n1=0
  ·subst h1
   rw [e2]
   clear h2 e2
   go_enter Tryz.func75,Tryz.ntmps75
   go_wp2_with fail
   go_ret
   exact ⟨rfl,HB1.out⟩
  ·have q1:(n1 == 0)=false:=by simpa using h1
   rw [e2,decide_eq_false h1]
   clear h2 e2 h1
   go_enter Tryz.func75,Tryz.ntmps75
   go_wp2_with fail
   refine HO.out.mono ?_
   rintro _ w2 ⟨rfl,hb2⟩
   have HE:=Lib.hid (bel_step HB1.out hb2)
   clear hb2
   go_wp2_with fail
   go_ret
   exact ⟨by cases o <;> rfl,HE.out⟩
end Go.Proofs.YtgoddboicjfkcaaGreat.mg
namespace Go.Proofs.YtgoddboicjfkcaaGreat.mg
open Go.RowKit Go.Deep
open br (BS Ino Inv fresh)
open cb (BrX RetW RetI No)
open bl (Pq)
theorem R4.same {w w':World} {g D1 D2:Nat} {u l:Int} (h:R4 w g D1 D2 u l) (e:w'.heap[g]?=w.heap[g]?):R4 w' g D1 D2 u l :=
 ⟨(World.cell?_of_block (a:=⟨g,0,none⟩) e).trans h.c0,(World.cell?_of_block (a:=⟨g,1,none⟩) e).trans h.c1,(World.cell?_of_block (a:=⟨g,2,none⟩) e).trans h.c2,(World.cell?_of_block (a:=⟨g,3,none⟩) e).trans h.c3⟩
theorem rroot_any {w:World} {D1 D2:Nat} {u l:Int} {U L:BS} (h:Vd w D1 D2 U L):Calls Tryz.prog 16 #[Rv D1 D2 u l] w (fun e w'=>e=.returned (Nv (rootV U L u l))∧Below w.heap.size w w'):=by
 have HF:=Lib.hid (show ∀ w1,((w.alloc (.cells #[Pq D1,Pq D2,.int .i64 u,.int .i64 l] 36)).alloc (.cells #[.int .i64 0,.int .i64 0] 24)).alloc (.cells #[.int .i64 0,.int .i64 0] 24)=w1→Below w.heap.size w w1∧R4 w1 w.heap.size D1 D2 u l∧R2 w1 (w.heap.size+1) 0 0∧R2 w1 (w.heap.size+2) 0 0 from fun w1 hw1=>by
  refine ⟨?_,?_,?_,?_⟩
  ·rw [← hw1];exact bel_step (bel_step (bel_alloc _ _) (bel_alloc _ _)) (bel_alloc _ _)
  ·rw [← hw1];exact (R4.new w D1 D2 u l).below (bel_step (bel_alloc _ _) (bel_alloc _ _))
  ·rw [← hw1];have:=(R2.new (w.alloc (.cells #[Pq D1,Pq D2,.int .i64 u,.int .i64 l] 36)) 0 0).below (bel_alloc _ (.cells #[.int .i64 0,.int .i64 0] 24));rwa [World.size_alloc] at this
  ·rw [← hw1];have:=R2.new ((w.alloc (.cells #[Pq D1,Pq D2,.int .i64 u,.int .i64 l] 36)).alloc (.cells #[.int .i64 0,.int .i64 0] 24)) 0 0;rwa [World.size_alloc,World.size_alloc] at this)
 have HKU:=Lib.hid (fun W (hb:Below w.heap.size w W)=>(h.below hb).kind1 u)
 have HKL:=Lib.hid (fun W (hb:Below w.heap.size w W)=>(h.below hb).kind2 l)
 have HOP:=Lib.hid (fun W x (hb:Below w.heap.size w W)=>ropq_any (u:=u) (l:=l) (h.below hb) x)
 have HSE:=Lib.hid (show rootV U L u l=((if U.kindOf u=2 then u else 0),(if L.kindOf l=2∧opq U (if U.kindOf u=2 then u else 0)=false then l else 0)) from rfl)
 have HZO:=Lib.hid (opq_zero U)
 have HUZ:=Lib.hid (show U.kindOf u=2→(u != 0)=true from fun e=>by simp;intro e0;rw [e0,kind_zero] at e;cases e)
 generalize rootV U L u l=r at *
 generalize L.kindOf l=lk at *
 generalize U.kindOf u=uk at *
 obtain ⟨g,hg⟩:∃ g,w.heap.size=g:=⟨_,rfl⟩
 have HGB:=Lib.hid hg
 rw [hg] at HF
 clear h
 go_enter Tryz.func16,Tryz.ntmps16
 go_upto_region 2 with fail
 generalize hw1:((w.alloc (.cells #[Pq D1,Pq D2,.int .i64 u,.int .i64 l] 36)).alloc (.cells #[.int .i64 0,.int .i64 0] 24)).alloc (.cells #[.int .i64 0,.int .i64 0] 24)=w1
 obtain ⟨hb1,hg0,hg1,hg2⟩:=HF.out w1 hw1
 have HB:=Lib.hid (show Below w.heap.size w w1 by rw [hg];exact hb1)
 have HG0:=Lib.hid hg0
 have HG1:=Lib.hid hg1
 have HG2:=Lib.hid hg2
 obtain ⟨k0,k1,k2,k3⟩:=HG0.out
 clear hb1 hg0 hg1 hg2 HF
 go_wp2_with fail
 refine (HKU.out _ HB.out).mono ?_
 rintro _ w8 ⟨rfl,hb8⟩
 have HB8:=Lib.hid (bel_step HB.out hb8)
 have HG08:=Lib.hid (HG0.out.below hb8)
 have HG18:=Lib.hid (HG1.out.below hb8)
 have HG28:=Lib.hid (HG2.out.below hb8)
 clear k0 k1 k2 k3 hb8 HKU HG0 HG1 HG2 HB hw1
 obtain ⟨k0,k1,k2,k3⟩:=HG08.out
 obtain ⟨r0,r1,f0,f1⟩:=HG28.out
 have END:∀ (W:World) (x y:Int),Below w.heap.size w W→R2 W (g+1) 0 0→Below w.heap.size w ((W.setCell ⟨g+1,0,none⟩ (.int .i64 x)).setCell ⟨g+1,1,none⟩ (.int .i64 y)):=fun W x y hb _=>set2_below hb (by have:=HGB.out;omega) _ _
 have HEND:=Lib.hid END
 clear END
 by_cases e2:uk=2
 ·subst e2
  rw [if_pos rfl] at HSE
  have HN:=Lib.hid (show Below w.heap.size w (w8.setCell ⟨g+2,0,none⟩ (.int .i64 u)) from set_below HB8.out (by have:=HGB.out;omega) _)
  have HX0:=Lib.hid (show R4 (w8.setCell ⟨g+2,0,none⟩ (.int .i64 u)) g D1 D2 u l from HG08.out.same (heap_set (by omega)))
  have HX1:=Lib.hid (show R2 (w8.setCell ⟨g+2,0,none⟩ (.int .i64 u)) (g+1) 0 0 from HG18.out.same (heap_set (by omega)))
  have HX2:=Lib.hid (HG28.out.up u)
  go_upto_region 4 with fail
  clear HB8 HG08 HG18 HG28 k0 k1 k2 k3 r0 r1 f0 f1
  generalize w8.setCell ⟨g+2,0,none⟩ (.int .i64 u)=w9 at *
  have HO:=Lib.hid (fun V' (hb:Below w.heap.size w V')=>HOP.out V' u hb)
  clear HOP HZO
  generalize opq U u=oq at *
  have HUQ:=Lib.hid (HUZ.out (by first|rfl|trivial))
  clear HUZ
  obtain ⟨k0,k1,k2,k3⟩:=HX0.out
  obtain ⟨r0,r1,f0,f1⟩:=HX2.out
  go_wp2_with fail
  refine (HKL.out _ HN.out).mono ?_
  rintro _ wa ⟨rfl,hba⟩
  have HNa:=Lib.hid (bel_step HN.out hba)
  have HX0a:=Lib.hid (HX0.out.below hba)
  have HX1a:=Lib.hid (HX1.out.below hba)
  have HX2a:=Lib.hid (HX2.out.below hba)
  clear k0 k1 k2 k3 r0 r1 f0 f1 hba HN HX0 HX1 HX2 HKL
  obtain ⟨k0,k1,k2,k3⟩:=HX0a.out
  obtain ⟨r0,r1,f0,f1⟩:=HX2a.out
  by_cases l2:lk=2
  case neg =>
   have ql:(lk == 2)=false:=by simpa using l2
   rw [if_neg (fun e=>l2 e.1)] at HSE
   clear l2
   have HRS:=Lib.hid (fun a b=>HX1a.out.range a b)
   have HBS:=Lib.hid (fun a b=>set2_below HNa.out (show w.heap.size≤g+1 by have:=HGB.out;omega) a b)
   obtain ⟨s0,s1,v0,v1⟩:=HX1a.out
   go_wp2_with fail
   refine bodyPost_ret (results_cell1 rfl _ _ (g+1) _ _ rfl (HRS.out _ _) Tryz.underlying24 (by rfl) (by rfl)) rfl ?_
   exact ⟨by rw [HSE.out],HBS.out _ _⟩
  subst l2
  have qu:=HUQ.out
  go_wp2_with fail
  refine (HO.out _ HNa.out).mono ?_
  rintro _ wb ⟨rfl,hbb⟩
  have HNb:=Lib.hid (bel_step HNa.out hbb)
  have HX0b:=Lib.hid (HX0a.out.below hbb)
  have HX1b:=Lib.hid (HX1a.out.below hbb)
  have HX2b:=Lib.hid (HX2a.out.below hbb)
  clear k0 k1 k2 k3 r0 r1 f0 f1 hbb HNa HX0a HX1a HX2a HO
  obtain ⟨k0,k1,k2,k3⟩:=HX0b.out
  obtain ⟨r0,r1,f0,f1⟩:=HX2b.out
  cases oq with
  | true =>
   rw [if_neg (by decide)] at HSE
   have HRS:=Lib.hid (fun a b=>HX1b.out.range a b)
   have HBS:=Lib.hid (fun a b=>set2_below HNb.out (show w.heap.size≤g+1 by have:=HGB.out;omega) a b)
   obtain ⟨s0,s1,v0,v1⟩:=HX1b.out
   go_wp2_with fail
   refine bodyPost_ret (results_cell1 rfl _ _ (g+1) _ _ rfl (HRS.out _ _) Tryz.underlying24 (by rfl) (by rfl)) rfl ?_
   exact ⟨by rw [HSE.out],HBS.out _ _⟩
  | false =>
   rw [if_pos (by decide)] at HSE
   have HNN:=Lib.hid (show Below w.heap.size w (wb.setCell ⟨g+2,1,none⟩ (.int .i64 l)) from set_below HNb.out (by have:=HGB.out;omega) _)
   have HX1N:=Lib.hid (show R2 (wb.setCell ⟨g+2,1,none⟩ (.int .i64 l)) (g+1) 0 0 from HX1b.out.same (heap_set (by omega)))
   have HX2N:=Lib.hid (HX2b.out.lo l)
   go_upto_region 6 with fail
   clear k0 k1 k2 k3 r0 r1 f0 f1 HX2b HX1b HNb
   generalize wb.setCell ⟨g+2,1,none⟩ (.int .i64 l)=w12 at *
   obtain ⟨r0,r1,f0,f1⟩:=HX2N.out
   have HRS:=Lib.hid (fun a b=>HX1N.out.range a b)
   have HBS:=Lib.hid (fun a b=>set2_below HNN.out (show w.heap.size≤g+1 by have:=HGB.out;omega) a b)
   obtain ⟨s0,s1,v0,v1⟩:=HX1N.out
   go_wp2_with fail
   refine bodyPost_ret (results_cell1 rfl _ _ (g+1) _ _ rfl (HRS.out _ _) Tryz.underlying24 (by rfl) (by rfl)) rfl ?_
   exact ⟨by rw [HSE.out],HBS.out _ _⟩
 ·have q2:(uk == 2)=false:=by simpa using e2
  rw [if_neg e2] at HSE
  clear e2 HUZ HOP
  have HN:=HB8
  have HX0:=HG08
  have HX1:=HG18
  have HX2:=HG28
  clear HB8 HG08 HG18 HG28 k0 k1 k2 k3 r0 r1 f0 f1
  obtain ⟨k0,k1,k2,k3⟩:=HX0.out
  obtain ⟨r0,r1,f0,f1⟩:=HX2.out
  go_wp2_with fail
  refine (HKL.out _ HN.out).mono ?_
  rintro _ wa ⟨rfl,hba⟩
  have HNa:=Lib.hid (bel_step HN.out hba)
  have HX0a:=Lib.hid (HX0.out.below hba)
  have HX1a:=Lib.hid (HX1.out.below hba)
  have HX2a:=Lib.hid (HX2.out.below hba)
  clear k0 k1 k2 k3 r0 r1 f0 f1 hba HN HX0 HX1 HX2 HKL
  obtain ⟨k0,k1,k2,k3⟩:=HX0a.out
  obtain ⟨r0,r1,f0,f1⟩:=HX2a.out
  by_cases l2:lk=2
  case neg =>
   have ql:(lk == 2)=false:=by simpa using l2
   rw [if_neg (fun e=>l2 e.1)] at HSE
   clear l2
   have HRS:=Lib.hid (fun a b=>HX1a.out.range a b)
   have HBS:=Lib.hid (fun a b=>set2_below HNa.out (show w.heap.size≤g+1 by have:=HGB.out;omega) a b)
   obtain ⟨s0,s1,v0,v1⟩:=HX1a.out
   go_wp2_with fail
   refine bodyPost_ret (results_cell1 rfl _ _ (g+1) _ _ rfl (HRS.out _ _) Tryz.underlying24 (by rfl) (by rfl)) rfl ?_
   exact ⟨by rw [HSE.out],HBS.out _ _⟩
  subst l2
  rw [if_pos ⟨rfl,HZO.out⟩] at HSE
  have HNN:=Lib.hid (show Below w.heap.size w (wa.setCell ⟨g+2,1,none⟩ (.int .i64 l)) from set_below HNa.out (by have:=HGB.out;omega) _)
  have HX1N:=Lib.hid (show R2 (wa.setCell ⟨g+2,1,none⟩ (.int .i64 l)) (g+1) 0 0 from HX1a.out.same (heap_set (by omega)))
  have HX2N:=Lib.hid (HX2a.out.lo l)
  go_upto_region 6 with fail
  clear k0 k1 k2 k3 r0 r1 f0 f1 HX2a HX1a HNa
  generalize wa.setCell ⟨g+2,1,none⟩ (.int .i64 l)=w12 at *
  obtain ⟨r0,r1,f0,f1⟩:=HX2N.out
  have HRS:=Lib.hid (fun a b=>HX1N.out.range a b)
  have HBS:=Lib.hid (fun a b=>set2_below HNN.out (show w.heap.size≤g+1 by have:=HGB.out;omega) a b)
  obtain ⟨s0,s1,v0,v1⟩:=HX1N.out
  go_wp2_with fail
  refine bodyPost_ret (results_cell1 rfl _ _ (g+1) _ _ rfl (HRS.out _ _) Tryz.underlying24 (by rfl) (by rfl)) rfl ?_
  exact ⟨by rw [HSE.out],HBS.out _ _⟩
end Go.Proofs.YtgoddboicjfkcaaGreat.mg
namespace Go.Proofs.YtgoddboicjfkcaaGreat.mg
open Go.RowKit Go.Deep
open br (BS Ino Inv fresh)
def cntV (U:BS) (n:Nd):Bool:=decide (n.2≠0) && (decide (n.1=0) || !opq U n.1)
def lowV (U L:BS) (n:Nd) (s:ByteArray):Int:=if cntV U n=true then (L.get n.2 s).1 else 0
def upV (U:BS) (n:Nd) (s:ByteArray):Int:=if n.1≠0 then (U.get n.1 s).1 else 0
theorem upV_is (U:BS) (n:Nd) (s:ByteArray):upV U n s=(U.get n.1 s).1:=by
 unfold upV
 by_cases h:n.1=0
 ·rw [if_neg (by simpa using h),h,get_at_zero]
 ·rw [if_pos h]
theorem lowV_is (U L:BS) (n:Nd) (s:ByteArray):lowV U L n s=(L.get (belV U n) s).1:=by
 unfold lowV cntV belV
 by_cases h2:n.2=0
 ·have e:(if opq U n.1=true then 0 else n.2)=0:=by split;rfl;exact h2
  rw [e,get_at_zero,if_neg (by simp [h2])]
 ·by_cases h1:n.1=0
  ·rw [h1,opq_zero,if_pos (by simp [h2]),if_neg (by decide)]
  ·cases ho:opq U n.1
   ·rw [if_pos (by simp [h2]),if_neg (by decide)]
   ·rw [if_neg (by simp [h1]),if_pos rfl,get_at_zero]
theorem getV_doc {U L:BS} {room room2:Nat} (hU:Inv U room) (hL:Inv L room2) (n:Nd) (s:ByteArray) (hk:kindV U L n=2) :
  getV U L n s=if upV U n s≠0 then (if U.kindOf (upV U n s)=4 then ((0,0),2) else if U.kindOf (upV U n s)=2∧opq U (upV U n s)=false∧L.kindOf (lowV U L n s)=2 then ((upV U n s,lowV U L n s),0) else ((upV U n s,0),0))
   else if lowV U L n s=0∨L.kindOf (lowV U L n s)=4 then ((0,0),2) else ((0,lowV U L n s),0):=by
 have hl:lstV U L n=0:=by unfold lstV;rw [hk];rfl
 have hp:pairV U L n s=(upV U n s,lowV U L n s):=by rw [upV_is,lowV_is];rfl
 have hz:upV U n s=0↔U.kindOf (upV U n s)=0:=by rw [upV_is];exact (get_kind hU n.1 s).symm
 unfold getV
 rw [if_neg (by rw [hl];decide),hp]
 generalize upV U n s=x at *
 generalize lowV U L n s=y at *
 by_cases hx:x=0
 ·have hk0:=hz.1 hx
  by_cases h4:L.kindOf y=4
  ·have hs:seenV U L (x,y)=(0,0):=by unfold seenV;dsimp only;rw [if_pos hk0,if_pos h4]
   rw [hs];simp [hx,h4]
  ·have hs:seenV U L (x,y)=(0,y):=by unfold seenV;dsimp only;rw [if_pos hk0,if_neg h4]
   rw [hs]
   by_cases hy:y=0
   ·simp [hx,hy]
   ·simp [hx,hy,h4]
 ·have hk0:U.kindOf x≠0:=fun e=>hx (hz.2 e)
  by_cases h4:U.kindOf x=4
  ·have hs:seenV U L (x,y)=(0,0):=by unfold seenV;dsimp only;rw [if_neg hk0,if_pos h4]
   rw [hs];simp [hx,h4]
  ·by_cases hc:U.kindOf x=2∧opq U x=false∧L.kindOf y=2
   ·have hs:seenV U L (x,y)=(x,y):=by unfold seenV;dsimp only;rw [if_neg hk0,if_neg h4,if_pos ⟨hc.1,hc.2.2,hc.2.1⟩]
    rw [hs,if_neg (fun e=>hx (by injection e)),if_pos hx,if_neg h4,if_pos hc]
   ·have hs:seenV U L (x,y)=(x,0):=by unfold seenV;dsimp only;rw [if_neg hk0,if_neg h4,if_neg (fun e=>hc ⟨e.1,e.2.2,e.2.1⟩)]
    rw [hs,if_neg (fun e=>hx (by injection e)),if_pos hx,if_neg h4,if_neg hc]
end Go.Proofs.YtgoddboicjfkcaaGreat.mg
