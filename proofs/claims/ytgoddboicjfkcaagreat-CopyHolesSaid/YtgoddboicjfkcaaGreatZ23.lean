/- Part 23 of what is known of the program's functions and of the document's words: contracts, and the mathematics beneath them. -/
import Derived.Test.YtgoddboicjfkcaaGreatProg
import Derived.Test.YtgoddboicjfkcaaGreatZ22
import Derived.Deep.MidRow
import Derived.StillTailTactics
set_option linter.unusedVariables false
set_option linter.unusedSimpArgs false
set_option maxRecDepth 100000
set_option maxHeartbeats 8000000
namespace Go.Proofs.YtgoddboicjfkcaaGreat.cb
open Go.RowKit
open br
open dn (En lget lset ldel nerr dotB Sorted getV DuX LaidX)
open bl (AB Only StoC Pq cut cutR wr WR U8 RF)
open bl.rx (RB RS2 Kp)
theorem rstore_yes (room:Nat) (w:World) (hr:room≤65536):Calls Tryz.prog 92 #[.int .i64 (room:Int)] w (fun e w'=>e=.returned (Pq w.heap.size)∧w'=w.alloc (.cells #[.int .i64 (room:Int),.int .i64 0] 233)):=by
 have h1:¬ ((65536:Int)<(room:Int)):=by omega
 have h0:¬ ((room:Int)<0):=by omega
 go_enter Tryz.func92,Tryz.ntmps92
 go_wp2
 go_ret
 exact ⟨rfl,rfl⟩
def ino9:List Value:=[.int .i64 0,.int .i64 0,.int .i64 0,.int .i64 0,.int .i64 0,.slice none 0 0,.slice none 0 0,.slice none 0 0,.string ⟨#[]⟩]
theorem zero51:Tryz.zeroCells149=(.pointer none::(List.replicate 201 ino9).flatten).toArray:=by kernel_rfl
theorem flat_get {α:Type} (l:List α) (hl:l.length=9) (n k i:Nat) (hk:k<n) (hi:i<9):(List.replicate n l).flatten[k*9+i]?=l[i]?:=by
 induction n generalizing k with
 | zero=>omega
 | succ n ih =>
  rw [List.replicate_succ,List.flatten_cons]
  cases k with
  | zero=>rw [List.getElem?_append_left (by omega)];congr 1;omega
  | succ k =>
   rw [List.getElem?_append_right (by omega),← ih k (by omega)]
   congr 1
   omega
theorem flat_len {α:Type} (l:List α) (n:Nat):(List.replicate n l).flatten.length=n*l.length:=by
 induction n with
 | zero=>simp
 | succ n ih=>rw [List.replicate_succ,List.flatten_cons,List.length_append,ih,Nat.succ_mul];omega
theorem zero51_at (k i:Nat) (hk:k≤200) (hi:i<9):Tryz.zeroCells149[1+k*9+i]?=ino9[i]?:=by
 rw [zero51,List.getElem?_toArray,show 1+k*9+i=(k*9+i)+1 by omega,List.getElem?_cons_succ]
 exact flat_get ino9 rfl 201 k i (by omega) hi
theorem zero51_size:Tryz.zeroCells149.size=1810:=by
 rw [zero51,List.size_toArray,List.length_cons,flat_len]
 rfl
theorem DI.blank {w:World} {lo D k:Nat} {a0 a1 a2 a3 a4:Int} {t:ByteArray} (c0:w.cell? ⟨D,1+k*9,none⟩=some (.int .i64 a0)) (c1:w.cell? ⟨D,1+k*9+1,none⟩=some (.int .i64 a1)) (c2:w.cell? ⟨D,1+k*9+2,none⟩=some (.int .i64 a2)) (c3:w.cell? ⟨D,1+k*9+3,none⟩=some (.int .i64 a3)) (c4:w.cell? ⟨D,1+k*9+4,none⟩=some (.int .i64 a4))
  (c5:w.cell? ⟨D,1+k*9+5,none⟩=some (.slice none 0 0)) (c6:w.cell? ⟨D,1+k*9+6,none⟩=some (.slice none 0 0)) (c7:w.cell? ⟨D,1+k*9+7,none⟩=some (.slice none 0 0)) (c8:w.cell? ⟨D,1+k*9+8,none⟩=some (.string t)) (hf:∀ j,w.frozen? ⟨D,j,none⟩=false) :
  DI w lo D k pd0 ⟨a0,a1,a2,a3,a4,abE,[],t⟩ :=
 ⟨c0,c1,c2,c3,c4,⟨c5,c6,hf _,hf _,World.ownsRow_nil _ _ _ _,World.ownsRow_nil _ _ _ _,(fun k h=>by cases h),Nat.zero_le _,(fun h=>by cases h),(fun h=>by cases h),(fun g h=>by cases h)⟩,⟨c7,hf _,rfl,rfl⟩,c8,fun _=>⟨rfl,rfl,rfl⟩,fun _=>⟨rfl,rfl⟩⟩
noncomputable def boxD (st:Value):Array Value:=(((((((((Tryz.zeroCells149.setIfInBounds 0 st).setIfInBounds 10 (.int .i64 2)).setIfInBounds 11 (.int .i64 1)).setIfInBounds 12 (.int .i64 0)).setIfInBounds 13 (.int .i64 0)).setIfInBounds 14 (.int .i64 1)).setIfInBounds 15 (.slice none 0 0)).setIfInBounds 16 (.slice none 0 0)).setIfInBounds 17 (.slice none 0 0)).setIfInBounds 18 (.string ⟨#[]⟩)
theorem boxD_zero (st:Value):(boxD st)[0]?=some st:=by
 have hz:=zero51_size
 unfold boxD
 generalize Tryz.zeroCells149=Z at *
 simp [Array.getElem?_setIfInBounds,hz]
theorem boxD_root (st:Value) (i:Nat) (hi:i<9):(boxD st)[1+1*9+i]?=some (match i with|0=>.int .i64 2|1=>.int .i64 1|2=>.int .i64 0|3=>.int .i64 0|4=>.int .i64 1|8=>.string ⟨#[]⟩|_=>.slice none 0 0):=by
 have hz:=zero51_size
 unfold boxD
 generalize Tryz.zeroCells149=Z at *
 match i,hi with
 | 0,_=>simp [Array.getElem?_setIfInBounds,hz]
 | 1,_=>simp [Array.getElem?_setIfInBounds,hz]
 | 2,_=>simp [Array.getElem?_setIfInBounds,hz]
 | 3,_=>simp [Array.getElem?_setIfInBounds,hz]
 | 4,_=>simp [Array.getElem?_setIfInBounds,hz]
 | 5,_=>simp [Array.getElem?_setIfInBounds,hz]
 | 6,_=>simp [Array.getElem?_setIfInBounds,hz]
 | 7,_=>simp [Array.getElem?_setIfInBounds,hz]
 | 8,_=>simp [Array.getElem?_setIfInBounds,hz]
theorem boxD_else (st:Value) (k i:Nat) (hk:k≤200) (h1:k≠1) (hi:i<9):(boxD st)[1+k*9+i]?=ino9[i]?:=by
 rw [← zero51_at k i hk hi]
 have hz:=zero51_size
 unfold boxD
 generalize Tryz.zeroCells149=Z at *
 have a0:¬ (0=1+k*9+i):=by omega
 have a1:¬ (10=1+k*9+i):=by omega
 have a2:¬ (11=1+k*9+i):=by omega
 have a3:¬ (12=1+k*9+i):=by omega
 have a4:¬ (13=1+k*9+i):=by omega
 have a5:¬ (14=1+k*9+i):=by omega
 have a6:¬ (15=1+k*9+i):=by omega
 have a7:¬ (16=1+k*9+i):=by omega
 have a8:¬ (17=1+k*9+i):=by omega
 have a9:¬ (18=1+k*9+i):=by omega
 simp only [Array.getElem?_setIfInBounds,Array.size_setIfInBounds,hz,a0,a1,a2,a3,a4,a5,a6,a7,a8,a9,if_false]
theorem DB.start {w:World} {room lo:Nat} (hlo:lo≤w.heap.size) {w1 w2:World} (h1:w1=w.alloc (.cells #[.int .i64 (room:Int),.int .i64 0] 233)) (h2:w2=w1.alloc (.cells (boxD (Pq w.heap.size)) 149)) :
  DB w2 (w.heap.size+1) lo w.heap.size (fun _=>pd0) (fun b=>if b=w.heap.size+1 then 1 else if b=w.heap.size then 2 else 0) fresh room∧Below w.heap.size w w2:=by
 have z1:w1.heap.size=w.heap.size+1:=by rw [h1];exact World.size_alloc _ _
 have z2:w2.heap.size=w.heap.size+2:=by rw [h2,World.size_alloc,z1]
 have b1:Below w.heap.size w w1:=by rw [h1];exact dn.below_alloc _ _
 have b2:Below w1.heap.size w1 w2:=by rw [h2];exact dn.below_alloc _ _
 have hc:∀ j,w2.cell? ⟨w.heap.size+1,j,none⟩=(boxD (Pq w.heap.size))[j]?:=fun j=>by
  rw [h2,← z1]
  generalize boxD (Pq w.heap.size)=Z
  simp
 have hf:∀ j,w2.frozen? ⟨w.heap.size+1,j,none⟩=false:=fun j=>by
  rw [h2,← z1]
  generalize boxD (Pq w.heap.size)=Z
  simp
 have hs:StoC w1 w.heap.size room 0:=by
  rw [h1]
  exact ⟨by simp,by simp,by simp⟩
 refine ⟨⟨(hc 0).trans (boxD_zero _),hf,StoC.keep hs (b2.block _ (by omega)),fun k hk=>?_,if_pos rfl,?_,fun k _ b hb=>absurd hb (own0 b),fun b hb=>?_,fun b hb=>?_⟩,b1.trans (b2.mono (by omega))⟩
 ·rw [fresh_ino]
  by_cases e:k=1
  ·subst e
   rw [if_pos rfl]
   exact DI.blank ((hc _).trans (boxD_root _ 0 (by omega))) ((hc _).trans (boxD_root _ 1 (by omega))) ((hc _).trans (boxD_root _ 2 (by omega))) ((hc _).trans (boxD_root _ 3 (by omega))) ((hc _).trans (boxD_root _ 4 (by omega))) ((hc _).trans (boxD_root _ 5 (by omega))) ((hc _).trans (boxD_root _ 6 (by omega))) ((hc _).trans (boxD_root _ 7 (by omega))) ((hc _).trans (boxD_root _ 8 (by omega))) hf
  ·rw [if_neg e]
   exact DI.blank ((hc _).trans (boxD_else _ k 0 hk e (by omega))) ((hc _).trans (boxD_else _ k 1 hk e (by omega))) ((hc _).trans (boxD_else _ k 2 hk e (by omega))) ((hc _).trans (boxD_else _ k 3 hk e (by omega))) ((hc _).trans (boxD_else _ k 4 hk e (by omega))) ((hc _).trans (boxD_else _ k 5 hk e (by omega))) ((hc _).trans (boxD_else _ k 6 hk e (by omega))) ((hc _).trans (boxD_else _ k 7 hk e (by omega))) ((hc _).trans (boxD_else _ k 8 hk e (by omega))) hf
 ·show (if w.heap.size=w.heap.size+1 then 1 else if w.heap.size=w.heap.size then 2 else 0)=2
  rw [if_neg (by omega),if_pos rfl]
 ·show (if b=w.heap.size+1 then 1 else if b=w.heap.size then 2 else 0)=0
  rw [if_neg (by omega),if_neg (by omega)]
 ·show (if b=w.heap.size+1 then 1 else if b=w.heap.size then 2 else 0)=0
  rw [if_neg (by omega),if_neg (by omega)]
theorem rb_new (room lo:Nat) (w:World) (hr:room≤65536) (hlo:lo≤w.heap.size):Calls Tryz.prog 32 #[.int .i64 (room:Int)] w (fun e w'=>∃ D RS pl tag,e=.returned (Pq D)∧DB w' D lo RS pl tag fresh room∧Below w.heap.size w w'∧∀ b,tag b≠0→w.heap.size≤b):=by
 have HS:=Lib.hid (rstore_yes room w hr)
 have HD:=Lib.hid (fun w2 (h2:w2=(w.alloc (.cells #[.int .i64 (room:Int),.int .i64 0] 233)).alloc (.cells (boxD (Pq w.heap.size)) 149))=>DB.start (room:=room) hlo rfl h2)
 unfold boxD at HD
 go_enter Tryz.func32,Tryz.ntmps32
 go_wp2_with fail
 refine HS.out.mono ?_
 rintro e w2 ⟨rfl,rfl⟩
 go_wp2_with fail
 go_ret
 obtain ⟨h1,h2⟩:=HD.out _ rfl
 exact ⟨_,_,_,_,rfl,h1,h2,fun b hb=>by
  rcases Nat.lt_or_ge b w.heap.size with h3|h3
  ·rw [if_neg (by omega),if_neg (by omega)] at hb;exact absurd rfl hb
  ·exact h3⟩
def RetQ (w:World) (v:Value) (e:Ending) (w':World):Prop:=e=.returned v∧w'=w
section
variable {w w':World} {D lo RS room:Nat} {pl:Nat→Pd} {tag:Nat→Nat} {S:BS}
theorem q_is (h:DB w D lo RS pl tag S room) (i:Int):Calls Tryz.prog 105 #[Pq D,.int .i64 i] w (RetQ w (.bool (S.isI i))):=by
 unfold RetQ
 by_cases h1:1≤i
 ·by_cases h2:i≤200
  ·obtain ⟨I,rfl⟩:∃ I:Nat,i=(I:Int):=⟨i.toNat,by omega⟩
   have c0:=(h.ino I (by omega)).c0
   have hv:S.isI (I:Int)=((S.ino I).kind != 0):=by
    unfold BS.isI
    rw [at_nat]
    by_cases e:(S.ino I).kind=0
    ·rw [e];simp
    ·simp [h1,h2,e]
   rw [hv]
   generalize (S.ino I).kind=kk at *
   clear h hv
   go_enter Tryz.func105,Tryz.ntmps105
   go_wp2_with fail
   go_ret
   exact ⟨rfl,rfl⟩
  ·have hv:S.isI i=false:=by unfold BS.isI;simp;omega
   rw [hv]
   clear h hv
   go_enter Tryz.func105,Tryz.ntmps105
   go_wp2_with fail
   go_ret
   exact ⟨rfl,rfl⟩
 ·have hv:S.isI i=false:=by unfold BS.isI;simp;omega
  rw [hv]
  clear h hv
  go_enter Tryz.func105,Tryz.ntmps105
  go_wp2_with fail
  go_ret
  exact ⟨rfl,rfl⟩
theorem q_dir (h:DB w D lo RS pl tag S room) (d:Int) (c:Bool):Calls Tryz.prog 101 #[Pq D,.int .i64 d,.bool c] w (RetQ w (.int .i64 (S.dirE d c))):=by
 have HI:=Lib.hid (q_is h d)
 unfold RetQ at HI ⊢
 rcases dirE_cases S d with ⟨h1,h2⟩|⟨I,rfl,d1,d2,h1,h3,⟨h4,h5⟩|⟨h4,h5,h6⟩⟩
 ·rw [h1] at HI
  rw [h2]
  clear h h1 h2
  go_enter Tryz.func101,Tryz.ntmps101
  go_wp2_with fail
  refine HI.out.mono ?_
  rintro e w2 ⟨rfl,rfl⟩
  go_wp2_with fail
  go_ret
  exact ⟨rfl,rfl⟩
 ·rw [h1] at HI
  rw [h5]
  have c0:=(h.ino I d2).c0
  generalize (S.ino I).kind=kk at *
  have hk:(kk != 2)=true:=by simpa using h4
  clear h h1 h4 h5
  go_enter Tryz.func101,Tryz.ntmps101
  go_wp2_with fail
  refine HI.out.mono ?_
  rintro e w2 ⟨rfl,rfl⟩
  go_wp2_with fail
  go_ret
  exact ⟨rfl,rfl⟩
 ·rw [h1] at HI
  have c0:=(h.ino I d2).c0
  have c1:=(h.ino I d2).c1
  rw [h4] at c0
  cases c
  ·rw [h5]
   clear h h1 h4 h5 h6 h3
   go_enter Tryz.func101,Tryz.ntmps101
   go_wp2_with fail
   refine HI.out.mono ?_
   rintro e w2 ⟨rfl,rfl⟩
   go_wp2_with fail
   go_ret
   exact ⟨rfl,rfl⟩
  ·generalize (S.ino I).links=ll at *
   rcases h6 with ⟨h6,h7⟩|⟨h6,h7⟩
   ·rw [h7]
    subst h6
    clear h h1 h4 h5 h7 h3
    go_enter Tryz.func101,Tryz.ntmps101
    go_wp2_with fail
    refine HI.out.mono ?_
    rintro e w2 ⟨rfl,rfl⟩
    go_wp2_with fail
    go_ret
    exact ⟨rfl,rfl⟩
   ·rw [h7]
    have hq:(ll == 0)=false:=by simpa using h6
    clear h h1 h4 h5 h6 h7 h3
    go_enter Tryz.func101,Tryz.ntmps101
    go_wp2_with fail
    refine HI.out.mono ?_
    rintro e w2 ⟨rfl,rfl⟩
    go_wp2_with fail
    go_ret
    exact ⟨rfl,rfl⟩
theorem q_set (s:ByteArray) (w:World) (hm:s.size≤9223372036854775807):Calls Tryz.prog 144 #[.string s] w (RetI w (nameE s)):=by
 have HN:=Lib.hid (dn.rname_any s w hm)
 unfold dn.NameE at HN
 unfold RetI
 by_cases he:nerr s.data.toList=0
 ·rw [he] at HN
  obtain ⟨q1,h1⟩:∃ a,(s.toList == [46])=a:=⟨_,rfl⟩
  obtain ⟨q2,h2⟩:∃ a,(s.toList == [46,46])=a:=⟨_,rfl⟩
  have hV:=Lib.hid (show nameE s=if (q1 || q2)=true then 22 else 0 by unfold nameE dotB;rw [h1,h2,he];simp)
  generalize nameE s=r at *
  clear he
  rcases (show q1=true∨(q1=false∧q2=true)∨(q1=false∧q2=false) by cases q1 <;> cases q2 <;> simp) with rfl|⟨rfl,rfl⟩|⟨rfl,rfl⟩
  all_goals
   go_enter Tryz.func144,Tryz.ntmps144
   go_wp2_with fail
   refine HN.out.mono ?_
   rintro e w2 ⟨rfl,hb2⟩
   go_wp2_with fail
   go_ret
   exact ⟨by rw [hV.out];rfl,hb2⟩
 ·have hV:=Lib.hid (show nameE s=nerr s.data.toList by unfold nameE;rw [if_neg (fun h=>he h.1)])
  generalize nameE s=r at *
  generalize nerr s.data.toList=x at *
  have hr:(x == 0)=false:=by simpa using he
  clear he
  go_enter Tryz.func144,Tryz.ntmps144
  go_wp2_with fail
  refine HN.out.mono ?_
  rintro e w2 ⟨rfl,hb2⟩
  go_wp2_with fail
  go_ret
  exact ⟨by rw [hV.out];rfl,hb2⟩
theorem q_dget (h:DB w D lo RS pl tag S room) (hG:br.Good S room) {I:Nat} (hI:I≤200) (s:ByteArray):Calls Tryz.prog 147 #[dn.Px D (1+I*9+7),.string s] w (RetQ w (getV s (S.ino I).dir)) :=
 dn.rgetx_any D (1+I*9+7) lo _ _ _ s w (by have:=hG.1.dirLen I;omega) (h.ino I hI).d
theorem q_get (h:DB w D lo RS pl tag S room) (hG:br.Good S room) (d:Int) (s:ByteArray):Calls Tryz.prog 76 #[Pq D,.int .i64 d,.string s] w (RetQ w (.tuple #[.int .i64 (S.get d s).1,.int .i64 (S.get d s).2])):=by
 have HI:=Lib.hid (q_dir h d false)
 unfold RetQ at HI ⊢
 by_cases h1:S.dirE d false=0
 ·obtain ⟨I,rfl,d1,d2,hD,_⟩:=dirE_ok h1
  have HG:=Lib.hid (q_dget h hG d2 s)
  unfold RetQ at HG
  rw [getV_eq h1] at HG
  rw [h1] at HI
  generalize (S.get (I:Int) s).1=a at *
  generalize (S.get (I:Int) s).2=b at *
  clear h h1 hG
  go_enter Tryz.func76,Tryz.ntmps76
  go_wp2_with fail
  refine HI.out.mono ?_
  rintro e w2 ⟨rfl,rfl⟩
  go_wp2_with fail
  refine HG.out.mono ?_
  rintro e w2 ⟨rfl,rfl⟩
  go_wp2_with fail
  go_ret2
  exact ⟨rfl,rfl⟩
 ·have hv:S.get d s=(0,S.dirE d false):=by unfold BS.get;rw [if_pos h1]
  rw [hv]
  generalize S.dirE d false=x at *
  have hr:(x != 0)=true:=by simpa using h1
  clear h h1 hG hv
  go_enter Tryz.func76,Tryz.ntmps76
  go_wp2_with fail
  refine HI.out.mono ?_
  rintro e w2 ⟨rfl,rfl⟩
  go_wp2_with fail
  go_ret2
  exact ⟨rfl,rfl⟩
theorem q_vacant (h:DB w D lo RS pl tag S room) (hG:br.Good S room) (d:Int) (s:ByteArray) (hm:s.size≤9223372036854775807):Calls Tryz.prog 97 #[Pq D,.int .i64 d,.string s] w (RetI w (S.vacant d s)):=by
 have HI:=Lib.hid (q_dir h d true)
 unfold RetQ at HI
 unfold RetI
 by_cases h1:S.dirE d true=0
 ·rw [h1] at HI
  have HN:=Lib.hid (q_set s w hm)
  unfold RetI at HN
  by_cases h2:nameE s=0
  ·rw [h2] at HN
   obtain ⟨I,rfl,d1,d2,hD,_⟩:=dirE_ok h1
   have HG:=Lib.hid (fun w2 (hb:Below w.heap.size w w2)=>q_dget (h.below hb) hG d2 s)
   unfold RetQ at HG
   cases hg:lget s (S.ino I).dir with
   | none =>
    have hv:S.vacant (I:Int) s=0:=by unfold BS.vacant;rw [if_neg (by omega),if_neg (by omega),at_nat,hg];rfl
    rw [hv]
    rw [show getV s (S.ino I).dir=.tuple #[.int .i64 0,.int .i64 2] from by unfold getV;rw [hg]] at HG
    clear h h1 hG hv h2 hg
    go_enter Tryz.func97,Tryz.ntmps97
    go_wp2_with fail
    refine HI.out.mono ?_
    rintro e w2 ⟨rfl,rfl⟩
    go_wp2_with fail
    refine HN.out.mono ?_
    rintro e w3 ⟨rfl,hb3⟩
    have HG3:=Lib.hid (HG.out w3 hb3)
    go_wp2_with fail
    refine HG3.out.mono ?_
    rintro e w4 ⟨rfl,rfl⟩
    go_wp2_with fail
    go_ret
    exact ⟨rfl,hb3⟩
   | some v =>
    have hv:S.vacant (I:Int) s=17:=by unfold BS.vacant;rw [if_neg (by omega),if_neg (by omega),at_nat,hg];rfl
    rw [hv]
    rw [show getV s (S.ino I).dir=.tuple #[.int .i64 v,.int .i64 0] from by unfold getV;rw [hg]] at HG
    clear h h1 hG hv h2 hg
    go_enter Tryz.func97,Tryz.ntmps97
    go_wp2_with fail
    refine HI.out.mono ?_
    rintro e w2 ⟨rfl,rfl⟩
    go_wp2_with fail
    refine HN.out.mono ?_
    rintro e w3 ⟨rfl,hb3⟩
    have HG3:=Lib.hid (HG.out w3 hb3)
    go_wp2_with fail
    refine HG3.out.mono ?_
    rintro e w4 ⟨rfl,rfl⟩
    go_wp2_with fail
    go_ret
    exact ⟨rfl,hb3⟩
  ·have hv:S.vacant d s=nameE s:=by unfold BS.vacant;rw [if_neg (by omega),if_pos h2]
   rw [hv]
   generalize nameE s=x at *
   have hr:(x != 0)=true:=by simpa using h2
   clear h h1 hG hv h2
   go_enter Tryz.func97,Tryz.ntmps97
   go_wp2_with fail
   refine HI.out.mono ?_
   rintro e w2 ⟨rfl,rfl⟩
   go_wp2_with fail
   refine HN.out.mono ?_
   rintro e w3 ⟨rfl,hb3⟩
   go_wp2_with fail
   go_ret
   exact ⟨rfl,hb3⟩
 ·have hv:S.vacant d s=S.dirE d true:=by unfold BS.vacant;rw [if_pos h1]
  rw [hv]
  generalize S.dirE d true=x at *
  have hr:(x != 0)=true:=by simpa using h1
  clear h h1 hG hv
  go_enter Tryz.func97,Tryz.ntmps97
  go_wp2_with fail
  refine HI.out.mono ?_
  rintro e w2 ⟨rfl,rfl⟩
  go_wp2_with fail
  go_ret
  exact ⟨rfl,Below.refl _ _⟩
end
section
variable {w w':World} {D lo RS room:Nat} {pl:Nat→Pd} {tag:Nat→Nat} {S:BS}
theorem q_kind (h:DB w D lo RS pl tag S room) (i:Int):Calls Tryz.prog 69 #[Pq D,.int .i64 i] w (RetQ w (.int .i64 (S.kindOf i))):=by
 have HI:=Lib.hid (q_is h i)
 unfold RetQ at HI ⊢
 rcases isI_cases S i with hI|⟨I,rfl,i1,i2,hn,hI⟩
 ·rw [hI] at HI
  rw [show S.kindOf i=0 by unfold BS.kindOf;rw [hI];rfl]
  clear h hI
  go_enter Tryz.func69,Tryz.ntmps69
  go_wp2_with fail
  refine HI.out.mono ?_
  rintro e w2 ⟨rfl,rfl⟩
  go_wp2_with fail
  go_ret
  exact ⟨rfl,rfl⟩
 ·rw [hI] at HI
  rw [show S.kindOf (I:Int)=(S.ino I).kind from kind_of i1 i2]
  have c0:=(h.ino I i2).c0
  generalize (S.ino I).kind=kk at *
  clear h hI hn
  go_enter Tryz.func69,Tryz.ntmps69
  go_wp2_with fail
  refine HI.out.mono ?_
  rintro e w2 ⟨rfl,rfl⟩
  go_wp2_with fail
  go_ret
  exact ⟨rfl,rfl⟩
theorem q_target (h:DB w D lo RS pl tag S room) (i:Int):Calls Tryz.prog 85 #[Pq D,.int .i64 i] w (RetQ w (.tuple #[.string (S.targetOf i).1,.int .i64 (S.targetOf i).2])):=by
 have HI:=Lib.hid (q_is h i)
 unfold RetQ at HI ⊢
 rcases isI_cases S i with hI|⟨I,rfl,i1,i2,hn,hI⟩
 ·rw [hI] at HI
  rw [show S.targetOf i=(⟨#[]⟩,2) by unfold BS.targetOf;rw [if_pos hI]]
  clear h hI
  go_enter Tryz.func85,Tryz.ntmps85
  go_wp2_with fail
  refine HI.out.mono ?_
  rintro e w2 ⟨rfl,rfl⟩
  go_wp2_with fail
  go_ret2
  exact ⟨rfl,rfl⟩
 ·rw [hI] at HI
  have c0:=(h.ino I i2).c0
  have c8:=(h.ino I i2).c8
  by_cases hk:(S.ino I).kind=3
  ·rw [show S.targetOf (I:Int)=((S.ino I).target,0) by unfold BS.targetOf;rw [if_neg (by rw [hI];decide),at_nat,if_neg (by rw [hk];decide)]]
   rw [hk] at c0
   generalize (S.ino I).target=tt at *
   clear h hI hn hk
   go_enter Tryz.func85,Tryz.ntmps85
   go_wp2_with fail
   refine HI.out.mono ?_
   rintro e w2 ⟨rfl,rfl⟩
   go_wp2_with fail
   go_ret2
   exact ⟨rfl,rfl⟩
  ·rw [show S.targetOf (I:Int)=(⟨#[]⟩,22) by unfold BS.targetOf;rw [if_neg (by rw [hI];decide),at_nat,if_pos hk]]
   generalize (S.ino I).kind=kk at *
   have hq:(kk != 3)=true:=by simpa using hk
   clear h hI hn hk c8
   go_enter Tryz.func85,Tryz.ntmps85
   go_wp2_with fail
   refine HI.out.mono ?_
   rintro e w2 ⟨rfl,rfl⟩
   go_wp2_with fail
   go_ret2
   exact ⟨rfl,rfl⟩
theorem q_file (h:DB w D lo RS pl tag S room) (i:Int):Calls Tryz.prog 108 #[Pq D,.int .i64 i] w (RetQ w (.int .i64 (S.fileE i))):=by
 have HK:=Lib.hid (q_kind h i)
 unfold RetQ at HK ⊢
 unfold BS.fileE
 generalize S.kindOf i=kk at *
 clear h
 by_cases h0:kk=0
 ·subst h0
  rw [if_pos rfl]
  go_enter Tryz.func108,Tryz.ntmps108
  go_wp2_with fail
  refine HK.out.mono ?_
  rintro e w2 ⟨rfl,rfl⟩
  go_wp2_with fail
  go_ret
  exact ⟨rfl,rfl⟩
 rw [if_neg h0]
 by_cases h2:kk=2
 ·subst h2
  rw [if_pos rfl]
  go_enter Tryz.func108,Tryz.ntmps108
  go_wp2_with fail
  refine HK.out.mono ?_
  rintro e w2 ⟨rfl,rfl⟩
  go_wp2_with fail
  go_ret
  exact ⟨rfl,rfl⟩
 rw [if_neg h2]
 by_cases h1:kk=1
 ·subst h1
  rw [if_pos rfl]
  go_enter Tryz.func108,Tryz.ntmps108
  go_wp2_with fail
  refine HK.out.mono ?_
  rintro e w2 ⟨rfl,rfl⟩
  go_wp2_with fail
  go_ret
  exact ⟨rfl,rfl⟩
 rw [if_neg h1]
 have q0:(kk == 0)=false:=by simpa using h0
 have q1:(kk == 1)=false:=by simpa using h1
 have q2:(kk == 2)=false:=by simpa using h2
 clear h0 h1 h2
 go_enter Tryz.func108,Tryz.ntmps108
 go_wp2_with fail
 refine HK.out.mono ?_
 rintro e w2 ⟨rfl,rfl⟩
 go_wp2_with fail
 go_ret
 exact ⟨rfl,rfl⟩
end
def NxD (w w':World) (D lo RS:Nat) (tag:Nat→Nat) (S':BS) (room:Nat):Prop:=∃ pl' tag',DB w' D lo RS pl' tag' S' room∧Stp w w' tag tag'
def RetD (w:World) (D lo RS:Nat) (tag:Nat→Nat) (v:Value) (S':BS) (room:Nat) (e:Ending) (w':World):Prop:=e=.returned v∧NxD w w' D lo RS tag S' room
section
variable {w w' w2:World} {D lo RS room:Nat} {pl:Nat→Pd} {tag:Nat→Nat} {S S':BS}
theorem DB.nxb (h:DB w D lo RS pl tag S room) (hb:Below w.heap.size w w'):NxD w w' D lo RS tag S room:=⟨pl,tag,h.below hb,Stp.below hb⟩
theorem DB.drew (h:DB w D lo RS pl tag S room):DB w.drew D lo RS pl tag S room:=h.below (Below.refl _ _).drew
theorem NxD.trans {tag1:Nat→Nat} (h:Stp w w' tag tag1) (k:NxD w' w2 D lo RS tag1 S' room):NxD w w2 D lo RS tag S' room:=by
 obtain ⟨pl',tag',h1,h2⟩:=k
 exact ⟨pl',tag',h1,h.trans h2⟩
theorem DB.loD (h:DB w D lo RS pl tag S room):D<w.heap.size∧lo≤w.heap.size∧RS≠D:=by
 have:=h.lt (b:=D) (by rw [h.tD];decide)
 exact ⟨this.1,by omega,fun e=>by have h1:=h.tS;rw [e,h.tD] at h1;cases h1⟩
theorem DB.stoKeep (h:DB w D lo RS pl tag S room) {F:Nat→Prop} (ho:Only F w w') (hF:∀ b,F b→b=D):StoC w' RS room S.used :=
 StoC.keep h.sto (ho.block RS (h.lt (by rw [h.tS];decide)).1 (fun hf=>h.loD.2.2 (hF RS hf)))
theorem DB.laid (h:DB w D lo RS pl tag S room) {k:Nat} (hk:k≤200) (hD:(S.ino k).kind=2) {K:List En} {v:Value} {e:Ending} (hl:LaidX w D (1+k*9+7) v K e w'):NxD w w' D lo RS tag ⟨br.upd S.ino k { S.ino k with dir:=K },S.used⟩ room:=by
 have hi:=h.ino k hk
 obtain ⟨gg,cap,hg,hd⟩:=hl.dux hi.d h.loD.2.1
 obtain ⟨_,gg1,cap1,w4,hb,hg1,hr1,rfl⟩:=hl
 have hc:∀ j,j≠1+k*9+7→(w4.setCell ⟨D,1+k*9+7,none⟩ (.slice (some ⟨gg1,0,none⟩) K.length cap1)).cell? ⟨D,j,none⟩=w.cell? ⟨D,j,none⟩:=fun j hj=>by
  rw [cell_oth _ _ _ _ _ hj]
  exact World.cell?_of_block (a:=⟨D,j,none⟩) (hb.block D h.loD.1)
 have hf:∀ j,(w4.setCell ⟨D,1+k*9+7,none⟩ (.slice (some ⟨gg1,0,none⟩) K.length cap1)).frozen? ⟨D,j,none⟩=w.frozen? ⟨D,j,none⟩:=fun j=>by
  rw [World.frozen?_setCell]
  exact World.frozen?_of_block (a:=⟨D,j,none⟩) (hb.block D h.loD.1)
 have hb':∀ b,b<w.heap.size→b≠D→(w4.setCell ⟨D,1+k*9+7,none⟩ (.slice (some ⟨gg1,0,none⟩) K.length cap1)).heap[b]?=w.heap[b]?:=fun b h1 h2=>(Below.heap_setCell _ _ _ _ h2).trans (hb.block b h1)
 have ho:Only (fun b=>b=D) w (w4.setCell ⟨D,1+k*9+7,none⟩ (.slice (some ⟨gg1,0,none⟩) K.length cap1)):=⟨hb.os,hb.tape,hb.output,by simpa [World.setCell] using hb.size,hb'⟩
 refine h.turn hk (p':=⟨(pl k).vB,(pl k).vT,(pl k).T,some gg,cap⟩) ho (fun b hb=>.inl hb) (fun j hj=>hc j (by omega)) hf ?_ (fun b hb=>?_) (h.stoKeep ho (fun b hb=>hb))
 ·exact ⟨(hc _ (by omega)).trans hi.c0,(hc _ (by omega)).trans hi.c1,(hc _ (by omega)).trans hi.c2,(hc _ (by omega)).trans hi.c3,(hc _ (by omega)).trans hi.c4,
   rb_keep hi.b (hc _ (by omega)) (hc _ (by omega)) hf (fun g e=>hb' g (hi.own (.inl e)).2.1 (hi.own (.inl e)).2.2) (fun g e=>hb' g (hi.own (.inr (.inl e))).2.1 (hi.own (.inr (.inl e))).2.2),hd,(hc _ (by omega)).trans hi.c8,hi.nb,fun h2=>absurd hD h2⟩
 ·rcases hb with e|e|e
  ·exact .inl (.inl e)
  ·exact .inl (.inr (.inl e))
  ·right
   have:gg=b:=by injection e
   omega
theorem DB.body (h:DB w D lo RS pl tag S room) {k:Nat} (hk:k≤200) (hD:(S.ino k).kind=1) {u T:Nat} {vB vT:Value} {b':AB} (hr:RS2 w w' lo D (1+k*9+5) RS room u (RF D (pl k).vB (pl k).vT) vB vT b' T):NxD w w' D lo RS tag ⟨br.upd S.ino k { S.ino k with body:=b' },u⟩ room:=by
 have hi:=h.ino k hk
 have hnd:=hi.nd (by rw [hD];decide)
 have hc:∀ j,j≠1+k*9+5→j≠1+k*9+6→w'.cell? ⟨D,j,none⟩=w.cell? ⟨D,j,none⟩:=fun j h1 h2=>(hr.kp j h1 h2).1
 have hf:∀ j,w'.frozen? ⟨D,j,none⟩=w.frozen? ⟨D,j,none⟩:=fun j=>by
  by_cases e1:j=1+k*9+5
  ·subst e1;rw [hr.r.f0,h.cf]
  ·by_cases e2:j=1+k*9+6
   ·subst e2;rw [show 1+k*9+6=1+k*9+5+1 from rfl,hr.r.f1,h.cf]
   ·exact (hr.kp j e1 e2).2
 refine h.turn hk (p':=⟨vB,vT,T,(pl k).o,(pl k).c⟩) hr.o (fun b hb=>?_) (fun j hj=>hc j (by omega) (by omega)) hf ?_ (fun b hb=>?_) hr.s
 ·rcases hb with (e|e|e)|e
  ·exact .inl e
  ·exact .inr (.inr (.inl e))
  ·exact .inr (.inr (.inr (.inl e)))
  ·exact .inr (.inl e)
 ·exact ⟨(hc _ (by omega) (by omega)).trans hi.c0,(hc _ (by omega) (by omega)).trans hi.c1,(hc _ (by omega) (by omega)).trans hi.c2,(hc _ (by omega) (by omega)).trans hi.c3,(hc _ (by omega) (by omega)).trans hi.c4,hr.r,
   hi.d.of_cell (hc _ (by omega) (by omega)) (hf _) (fun G e=>by rw [hnd.1] at e;cases e),(hc _ (by omega) (by omega)).trans hi.c8,fun h2=>absurd hD h2,hi.nd⟩
 ·rcases hb with e|e|e
  ·rcases hr.f b (.inr (.inl e)) with (h1|h1|h1)|h1
   ·exact absurd h1 (fun e1=>hr.r.nB (by rw [e,e1]))
   ·exact .inl (.inl h1)
   ·exact .inl (.inr (.inl h1))
   ·exact .inr h1
  ·rcases hr.f b (.inr (.inr e)) with (h1|h1|h1)|h1
   ·exact absurd h1 (fun e1=>hr.r.nT (by rw [e,e1]))
   ·exact .inl (.inl h1)
   ·exact .inl (.inr (.inl h1))
   ·exact .inr h1
  ·exact .inl (.inr (.inr e))
theorem DB.blank (h:DB w D lo RS pl tag S room) {k:Nat} (hk:k≤200) {u:Nat} {F:Nat→Prop} {a0 a1 a2 a3 a4:Int} {t:ByteArray} (ho:Only F w w') (hF:∀ b,F b→b=D∨b=RS∨Own (pl k) b)
  (hc:∀ j,j<1+k*9∨1+k*9+9≤j→w'.cell? ⟨D,j,none⟩=w.cell? ⟨D,j,none⟩) (hf:∀ j,w'.frozen? ⟨D,j,none⟩=w.frozen? ⟨D,j,none⟩) (hs:StoC w' RS room u)
  (c0:w'.cell? ⟨D,1+k*9,none⟩=some (.int .i64 a0)) (c1:w'.cell? ⟨D,1+k*9+1,none⟩=some (.int .i64 a1)) (c2:w'.cell? ⟨D,1+k*9+2,none⟩=some (.int .i64 a2)) (c3:w'.cell? ⟨D,1+k*9+3,none⟩=some (.int .i64 a3)) (c4:w'.cell? ⟨D,1+k*9+4,none⟩=some (.int .i64 a4))
  (c5:w'.cell? ⟨D,1+k*9+5,none⟩=some (.slice none 0 0)) (c6:w'.cell? ⟨D,1+k*9+6,none⟩=some (.slice none 0 0)) (c7:w'.cell? ⟨D,1+k*9+7,none⟩=some (.slice none 0 0)) (c8:w'.cell? ⟨D,1+k*9+8,none⟩=some (.string t)) :
  NxD w w' D lo RS tag ⟨br.upd S.ino k ⟨a0,a1,a2,a3,a4,abE,[],t⟩,u⟩ room :=
 h.turn hk (p':=pd0) ho hF hc hf (DI.blank c0 c1 c2 c3 c4 c5 c6 c7 c8 (fun j=>(hf j).trans (h.cf j))) (fun b hb=>absurd hb (own0 b)) hs
def blankL (a0 a1 a2 a3 a4:Int) (t:ByteArray):List Value:=[.int .i64 a0,.int .i64 a1,.int .i64 a2,.int .i64 a3,.int .i64 a4,.slice none 0 0,.slice none 0 0,.slice none 0 0,.string t]
theorem one9 (a0 a1 a2 a3 a4:Int) (t:ByteArray):(#[Value.int .i64 a0,.int .i64 a1,.int .i64 a2,.int .i64 a3,.int .i64 a4,.slice none 0 0,.slice none 0 0,.slice none 0 0,.string t]:Array Value).all (·.oneCell')=true:=by
 simp [Value.oneCell']
theorem only_sets (D:Nat):∀ (vs:List Value) (o:Nat) (w:World),Only (fun b=>b=D) w (w.setCells D o vs)
 | [],_,w=>Only.refl _ w
 | v::r,o,w=>(only_set w D o v).trans (only_sets D r (o+1) _)
theorem DB.there (h:DB w D lo RS pl tag S room) {k:Nat} (hk:k≤200):w.there D (1+k*9) 9:=fun j hj=>by
 have hi:=h.ino k hk
 refine ⟨?_,h.cf _⟩
 match j,hj with
 | 0,_=>rw [Nat.add_zero,hi.c0];rfl
 | 1,_=>rw [hi.c1];rfl
 | 2,_=>rw [hi.c2];rfl
 | 3,_=>rw [hi.c3];rfl
 | 4,_=>rw [hi.c4];rfl
 | 5,_=>rw [hi.b.c0];rfl
 | 6,_=>have:=hi.b.c1;rw [show 1+k*9+6=1+k*9+5+1 from rfl,this];rfl
 | 7,_=>rw [hi.d.d0];rfl
 | 8,_=>rw [hi.c8];rfl
theorem DB.layOver (h:DB w D lo RS pl tag S room) {k:Nat} (hk:k≤200) {u:Nat} {F:Nat→Prop} {w3:World} (ho:Only F w w3) (hF:∀ b,F b→b=D∨b=RS∨Own (pl k) b)
  (hc:∀ j,j<1+k*9∨1+k*9+9≤j→w3.cell? ⟨D,j,none⟩=w.cell? ⟨D,j,none⟩) (hf:∀ j,w3.frozen? ⟨D,j,none⟩=w.frozen? ⟨D,j,none⟩) (hs:StoC w3 RS room u) (ht:w3.there D (1+k*9) 9) (a0 a1 a2 a3 a4:Int) (t:ByteArray) :
  NxD w (w3.setCells D (1+k*9) (blankL a0 a1 a2 a3 a4 t)) D lo RS tag ⟨br.upd S.ino k ⟨a0,a1,a2,a3,a4,abE,[],t⟩,u⟩ room:=by
 have hr:=World.rangeAt_setCells_same w3 D (1+k*9) (blankL a0 a1 a2 a3 a4 t) ht
 have o2:=only_sets D (blankL a0 a1 a2 a3 a4 t) (1+k*9) w3
 refine h.blank hk (F:=fun b=>F b∨b=D) ((ho.mono fun b hb=>.inl hb).trans (o2.mono fun b hb=>.inr hb)) (fun b hb=>?_) (fun j hj=>?_) (fun j=>?_) (StoC.keep hs (o2.block RS (World.block_lt_of_cell? w3 _ hs.c0) h.loD.2.2))
  (hr 0 _ rfl) (hr 1 _ rfl) (hr 2 _ rfl) (hr 3 _ rfl) (hr 4 _ rfl) (hr 5 _ rfl) (hr 6 _ rfl) (hr 7 _ rfl) (hr 8 _ rfl)
 ·rcases hb with hb|hb
  ·exact hF b hb
  ·exact .inl hb
 ·rw [World.cell?_setCells_out D _ _ w3 ⟨D,j,none⟩ (fun _ _=>hj)];exact hc j hj
 ·rw [World.frozen?_setCells];exact hf j
theorem DB.lay (h:DB w D lo RS pl tag S room) {k:Nat} (hk:k≤200) (a0 a1 a2 a3 a4:Int) (t:ByteArray) :
  NxD w (w.setCells D (1+k*9) (blankL a0 a1 a2 a3 a4 t)) D lo RS tag ⟨br.upd S.ino k ⟨a0,a1,a2,a3,a4,abE,[],t⟩,S.used⟩ room :=
 h.layOver hk (Only.refl (fun _=>False) w) (fun _ h=>h.elim) (fun _ _=>rfl) (fun _=>rfl) h.sto (h.there hk) a0 a1 a2 a3 a4 t
theorem q_dset (h:DB w D lo RS pl tag S room) {I:Nat} (hI:I≤200) (hk:(S.ino I).kind=2) (hs:Sorted (S.ino I).dir) (hl:(S.ino I).dir.length≤4000) (hg:∀ e∈(S.ino I).dir,e.1.size≤9223372036854775807) (s:ByteArray) (v:Int) (hm:s.size≤9223372036854775807) (he:nerr s.data.toList=0) (hd:dotB s=false) (hv:1≤v) :
  Calls Tryz.prog 98 #[dn.Px D (1+I*9+7),.string s,.int .i64 v] w (RetD w D lo RS tag (.int .i64 0) ⟨br.upd S.ino I { S.ino I with dir:=lset s v (S.ino I).dir },S.used⟩ room) :=
 (dn.rsetx_ok D (1+I*9+7) lo _ _ _ s v w hm hg (h.ino I hI).d hs (by omega) he hd (by omega)).mono fun _ _ hl=>⟨hl.1,h.laid hI hk hl⟩
end
section
variable {w w':World} {D lo RS room:Nat} {pl:Nat→Pd} {tag:Nat→Nat} {S:BS}
theorem Good_body2 {S:BS} {room:Nat} (h:br.Good S room) (hr:room≤65536) (I:Nat):(S.ino I).body.Ok∧(S.ino I).body.n≤S.used∧S.used≤65536:=by
 refine ⟨h.1.body I,?_,by have:=h.1.room;omega⟩
 by_cases e:1≤I∧I≤200
 ·rw [h.1.used];exact sumF_le (f:=fun k=>(S.ino k).body.n) e.1 e.2
 ·rw [h.1.out I (by omega)];show abE.n≤_;rw [abE_n];exact Nat.zero_le _
end
end Go.Proofs.YtgoddboicjfkcaaGreat.cb
