/- Contracts and mathematics, part 9. -/
import Derived.Test.YtgoddboicjfkcaaGreatZ00
set_option linter.unusedVariables false
set_option linter.unusedSimpArgs false
set_option maxRecDepth 100000
set_option maxHeartbeats 8000000
namespace Go.Proofs.YtgoddboicjfkcaaGreat
namespace qu
structure It where
 key:Int
 turn:Int
 num:Int
instance:Inhabited It:=⟨⟨0,0,0⟩⟩
def ltB (k t k' t':Int):Bool:=if k=k' then decide (t<t') else decide (k<k')
theorem ltB_eq {k t t':Int}:ltB k t k t'=decide (t<t'):=by simp [ltB]
theorem ltB_ne {k t k' t':Int} (h:k≠k'):ltB k t k' t'=decide (k<k'):=by simp [ltB,h]
def lt (x y:It):Prop:=ltB x.key x.turn y.key y.turn=true
theorem lt_iff {x y:It}:lt x y↔x.key<y.key∨(x.key=y.key∧x.turn<y.turn):=by
 unfold lt ltB
 by_cases h:x.key=y.key
 ·simp [h]
 ·simp [h]
theorem lt_asymm {x y:It} (h:lt x y):¬lt y x:=by rw [lt_iff] at *;omega
theorem lt_irrefl (x:It):¬lt x x:=by rw [lt_iff];omega
theorem lt_trans {x y z:It} (h:lt x y) (h':lt y z):lt x z:=by rw [lt_iff] at *;omega
theorem le_trans {x y z:It} (h:¬lt y x) (h':¬lt z y):¬lt z x:=by rw [lt_iff] at *;omega
instance (x y:It):Decidable (lt x y):=inferInstanceAs (Decidable (_=true))
def g (xs:Array It) (k:Nat):It:=xs.getD k default
theorem g_get {xs:Array It} {k:Nat} (h:k<xs.size):g xs k=xs[k]:=by simp [g,h]
def swp (xs:Array It) (i j:Nat):Array It:=(xs.setIfInBounds i (g xs j)).setIfInBounds j (g xs i)
theorem size_swp (xs:Array It) (i j:Nat):(swp xs i j).size=xs.size:=by simp [swp]
theorem g_swp {xs:Array It} {i j:Nat} (hi:i<xs.size) (hj:j<xs.size) (k:Nat):g (swp xs i j) k=if k=j then g xs i else if k=i then g xs j else g xs k:=by
 unfold swp g
 simp only [Array.getD_eq_getD_getElem?,Array.getElem?_setIfInBounds]
 by_cases h1:k=j
 ·subst h1;simp [hj]
 ·by_cases h2:k=i
  ·subst h2;simp [Ne.symm h1,h1,hi]
  ·simp [h1,h2,Ne.symm h1,Ne.symm h2]
theorem swp_perm {xs:Array It} {i j:Nat} (hi:i<xs.size) (hj:j<xs.size):(swp xs i j).toList.Perm xs.toList:=by
 have h:=Array.swap_perm (xs:=xs) (i:=i) (j:=j) hi hj
 have e:swp xs i j=xs.swap i j hi hj:=by
  apply Array.ext
  ·simp [swp]
  ·intro k h1 h2
   have hk:k<xs.size:=by simpa [swp] using h1
   have e1:=g_swp hi hj k
   rw [g_get h1] at e1
   rw [e1,Array.getElem_swap]
   simp only [g_get hi,g_get hj,g_get hk]
   by_cases a:k=j
   ·by_cases b:k=i
    ·subst a;subst b;simp
    ·simp [a];intro h;simp [h]
   ·by_cases b:k=i
    ·subst b;simp [a]
    ·simp [a,b]
 rw [e]
 exact h.toList
def up (xs:Array It) (j:Nat):Array It :=
 if _h:j=0 then xs else if lt (g xs j) (g xs ((j - 1) / 2)) then up (swp xs ((j - 1) / 2) j) ((j - 1) / 2) else xs
termination_by j
decreasing_by omega
theorem up_stop {xs:Array It} {j:Nat} (h:j=0∨¬lt (g xs j) (g xs ((j - 1) / 2))):up xs j=xs:=by
 rw [up]
 rcases h with h|h
 ·simp [h]
 ·simp [h]
theorem up_go {xs:Array It} {j:Nat} (h0:j≠0) (h:lt (g xs j) (g xs ((j - 1) / 2))):up xs j=up (swp xs ((j - 1) / 2) j) ((j - 1) / 2):=by
 rw [up];simp [h0,h]
def child (xs:Array It) (i n:Nat):Nat:=if 2*i+2<n∧lt (g xs (2*i+2)) (g xs (2*i+1)) then 2*i+2 else 2*i+1
theorem child_le (xs:Array It) (i n:Nat):2*i+1≤child xs i n∧child xs i n≤2*i+2:=by unfold child;split <;> omega
theorem child_lt {xs:Array It} {i n:Nat} (h:2*i+1<n):child xs i n<n:=by unfold child;split <;> omega
def down (xs:Array It) (i n:Nat):Array It :=
 if h:2*i+1<n then (if lt (g xs (child xs i n)) (g xs i) then down (swp xs i (child xs i n)) (child xs i n) n else xs) else xs
termination_by n - i
decreasing_by
 have:=child_le xs i n
 have:=child_lt (xs:=xs) h
 omega
theorem down_stop {xs:Array It} {i n:Nat} (h:¬2*i+1<n∨¬lt (g xs (child xs i n)) (g xs i)):down xs i n=xs:=by
 rw [down]
 rcases h with h|h
 ·simp [h]
 ·simp [h]
theorem down_go {xs:Array It} {i n:Nat} (h0:2*i+1<n) (h:lt (g xs (child xs i n)) (g xs i)):down xs i n=down (swp xs i (child xs i n)) (child xs i n) n:=by
 rw [down];simp [h0,h]
def Ok (xs:Array It) (n i0:Nat):Prop:=∀k,k<n→0<k→i0≤(k - 1) / 2→¬lt (g xs k) (g xs ((k - 1) / 2))
theorem up_ok (xs:Array It) (n j:Nat) (hn:n≤xs.size) (hj:j<n) (hA:∀k,k<n→0<k→k≠j→¬lt (g xs k) (g xs ((k - 1) / 2)))
  (hB:∀k,k<n→0<k→(k - 1) / 2=j→0<j→¬lt (g xs k) (g xs ((j - 1) / 2))):Ok (up xs j) n 0∧(up xs j).toList.Perm xs.toList∧(up xs j).size=xs.size:=by
 induction j using Nat.strongRecOn generalizing xs with
 | ind j ih =>
  by_cases h0:j=0
  ·rw [up_stop (.inl h0)]
   exact ⟨fun k hk hp _=>hA k hk hp (by omega),List.Perm.refl _,rfl⟩
  ·by_cases hl:lt (g xs j) (g xs ((j - 1) / 2))
   ·rw [up_go h0 hl]
    have hp:(j - 1) / 2<j:=by omega
    have hi:(j - 1) / 2<xs.size:=by omega
    have ma:j<xs.size:=by omega
    have G:=g_swp hi ma
    have xa:=swp_perm hi ma
    have qa:=size_swp xs ((j - 1) / 2) j
    obtain ⟨r1,r2,r3⟩:=ih ((j - 1) / 2) hp (swp xs ((j - 1) / 2) j) (by rw [qa];exact hn) (by omega) (by
     intro k hk hk0 hkp
     rw [G,G]
     by_cases e1:k=j
     ·subst e1
      rw [Jb rfl,Ja (by omega),Jb rfl]
      exact lt_asymm hl
     ·rw [Ja e1,Ja hkp]
      by_cases e2:(k - 1) / 2=j
      ·rw [Jb e2]
       exact hB k hk hk0 e2 (by omega)
      ·rw [Ja e2]
       by_cases e3:(k - 1) / 2=(j - 1) / 2
       ·rw [Jb e3]
        intro h
        have:=hA k hk hk0 e1
        rw [e3] at this
        exact this (lt_trans h hl)
       ·rw [Ja e3]
        exact hA k hk hk0 e1) (by
     intro k hk hk0 hkp hp0
     rw [G,G]
     have ja:=hA ((j - 1) / 2) (by omega) hp0 (by omega)
     rw [Ja (show ¬((j - 1) / 2 - 1) / 2=j by omega),Ja (show ¬((j - 1) / 2 - 1) / 2=(j - 1) / 2 by omega)]
     by_cases e1:k=j
     ·subst e1
      rw [Jb rfl]
      exact ja
     ·rw [Ja e1,Ja (show ¬k=(j - 1) / 2 by omega)]
      have:=hA k hk hk0 e1
      rw [hkp] at this
      exact le_trans ja this)
    exact ⟨r1,r2.trans xa,r3.trans qa⟩
   ·rw [up_stop (.inr hl)]
    refine ⟨fun k hk hp _=>?_,List.Perm.refl _,rfl⟩
    by_cases e:k=j
    ·subst e;exact hl
    ·exact hA k hk hp e
theorem down_ok (xs:Array It) (n i0 i:Nat) (hn:n≤xs.size) (hA:∀k,k<n→0<k→i0≤(k - 1) / 2→(k - 1) / 2≠i→¬lt (g xs k) (g xs ((k - 1) / 2)))
  (hB:∀k,k<n→0<k→(k - 1) / 2=i→0<i→i0≤(i - 1) / 2→¬lt (g xs k) (g xs ((i - 1) / 2))) :
  Ok (down xs i n) n i0∧(down xs i n).toList.Perm xs.toList∧(down xs i n).size=xs.size∧∀k,n≤k→g (down xs i n) k=g xs k:=by
 induction hm:n - i using Nat.strongRecOn generalizing xs i with
 | ind m ih =>
  subst hm
  by_cases h0:2*i+1<n
  ·have xa:=child_lt (xs:=xs) h0
   have da:=child_le xs i n
   have ma:∀k,k<n→0<k→(k - 1) / 2=i→¬lt (g xs k) (g xs (child xs i n)):=by
    intro k hk hk0 hki
    have:k=2*i+1∨k=2*i+2:=by omega
    unfold child
    split
    ·rename_i h
     rcases this with rfl|rfl
     ·exact lt_asymm h.2
     ·exact lt_irrefl _
    ·rename_i h
     rcases this with rfl|rfl
     ·exact lt_irrefl _
     ·intro hh;exact h ⟨hk,hh⟩
   by_cases hl:lt (g xs (child xs i n)) (g xs i)
   ·rw [down_go h0 hl]
    have hi:i<xs.size:=by omega
    have hc:child xs i n<xs.size:=by omega
    generalize hcc:child xs i n=c at *
    have qa:(c - 1) / 2=i:=by omega
    have G:=g_swp hi hc
    have ya:=swp_perm hi hc
    have ja:=size_swp xs i c
    obtain ⟨r1,r2,r3,r4⟩:=ih (n - c) (by omega) (swp xs i c) c (by rw [ja];exact hn) (by
     intro k hk hk0 hk1 hk2
     rw [G,G,Ja hk2]
     by_cases e1:k=c
     ·subst e1
      rw [Jb rfl,Jb qa]
      exact lt_asymm hl
     ·rw [Ja e1]
      by_cases e2:k=i
      ·subst e2
       rw [Jb rfl,Ja (show ¬(k - 1) / 2=k by omega)]
       exact hB c xa (by omega) qa hk0 hk1
      ·rw [Ja e2]
       by_cases e3:(k - 1) / 2=i
       ·rw [Jb e3]
        exact ma k hk hk0 e3
       ·rw [Ja e3]
        exact hA k hk hk0 hk1 e3) (by
     intro k hk hk0 hk1 hc0 hk2
     rw [G,G,qa,Ja (show ¬k=c by omega),Ja (show ¬k=i by omega),Ja (show ¬i=c by omega),Jb rfl]
     have:=hA k hk hk0 (by omega) (by omega)
     rw [hk1] at this
     exact this) rfl
    refine ⟨r1,r2.trans ya,r3.trans ja,fun k hk=>?_⟩
    rw [r4 k hk,G,Ja (by omega),Ja (by omega)]
   ·rw [down_stop (.inr hl)]
    refine ⟨fun k hk hk0 hk1=>?_,List.Perm.refl _,rfl,fun _ _=>rfl⟩
    by_cases e:(k - 1) / 2=i
    ·rw [e]
     exact le_trans hl (ma k hk hk0 e)
    ·exact hA k hk hk0 hk1 e
  ·rw [down_stop (.inl h0)]
   refine ⟨fun k hk hk0 hk1=>hA k hk hk0 hk1 (by omega),List.Perm.refl _,rfl,fun _ _=>rfl⟩
theorem ok_min {xs:Array It} {n:Nat} (h:Ok xs n 0) (k:Nat) (hk:k<n):¬lt (g xs k) (g xs 0):=by
 induction k using Nat.strongRecOn with
 | ind k ih =>
  by_cases h0:k=0
  ·subst h0;exact lt_irrefl _
  ·exact le_trans (ih ((k - 1) / 2) (by omega) (by omega)) (h k hk (by omega) (by omega))
abbrev KN:=Int×Int
def kn (x:It):KN:=(x.key,x.num)
def ins (x:KN):List KN→List KN
 | []=>[x]
 | y::l=>if x.1<y.1 then x::y::l else y::ins x l
def insS (x:It):List It→List It
 | []=>[x]
 | y::l=>if x.key<y.key then x::y::l else y::insS x l
theorem insS_kn (x:It) (l:List It):(insS x l).map kn=ins (kn x) (l.map kn):=by
 induction l with
 | nil=>rfl
 | cons y l ih =>
  by_cases h:x.key<y.key
  ·have h':(kn x).1<(kn y).1:=h
   simp only [insS,Jb h,List.map_cons,ins,Jb h']
  ·have h':¬(kn x).1<(kn y).1:=h
   simp only [insS,Ja h,List.map_cons,ins,Ja h',ih]
theorem insS_perm (x:It) (l:List It):(insS x l).Perm (x::l):=by
 induction l with
 | nil=>exact List.Perm.refl _
 | cons y l ih =>
  unfold insS
  split
  ·exact List.Perm.refl _
  ·exact (ih.cons y).trans (List.Perm.swap x y l)
theorem insS_sorted (x:It) (l:List It) (h:l.Pairwise lt) (hx:∀y∈l,y.turn<x.turn):(insS x l).Pairwise lt:=by
 induction l with
 | nil=>simp [insS]
 | cons y l ih =>
  rw [List.pairwise_cons] at h
  unfold insS
  split
  ·rename_i hk
   rw [List.pairwise_cons]
   refine ⟨fun z hz=>?_,List.pairwise_cons.2 h⟩
   have ma:lt x y:=by rw [lt_iff];exact .inl hk
   rcases List.mem_cons.1 hz with rfl|hz
   ·exact ma
   ·exact lt_trans ma (h.1 z hz)
  ·rename_i hk
   rw [List.pairwise_cons]
   refine ⟨fun z hz=>?_,ih h.2 (fun y' hy'=>hx y' (by simp [hy']))⟩
   rcases List.mem_cons.1 ((insS_perm x l).mem_iff.1 hz) with rfl|hz
   ·have:=hx y (by simp)
    rw [lt_iff];omega
   ·exact h.1 z hz
def Rep (xs:Array It) (T:Int) (L:List KN):Prop :=
 Ok xs xs.size 0∧∃S:List It,S.Perm xs.toList∧S.Pairwise lt∧(∀x∈S,0≤x.turn∧x.turn<T)∧L=S.map kn
theorem Rep.size {xs:Array It} {T:Int} {L:List KN} (h:Rep xs T L):xs.size=L.length:=by
 obtain ⟨_,S,hp,_,_,rfl⟩:=h
 rw [List.length_map,hp.length_eq,Array.length_toList]
theorem Rep.nil (T:Int):Rep #[] T []:=⟨fun k hk=>by simp at hk,[],List.Perm.refl _,List.Pairwise.nil,by simp,rfl⟩
theorem ok_pop_less {xs ys:Array It} {n:Nat} (h:Ok xs n 0) (e:∀k,k<n→g ys k=g xs k):Ok ys n 0:=fun k hk h0 h1=>by
 rw [e k hk,e _ (by omega)];exact h k hk h0 h1
theorem Rep.push {xs:Array It} {T:Int} {L:List KN} (h:Rep xs T L) (hT:0≤T) (k n:Int):Rep (up (xs.push ⟨k,T,n⟩) xs.size) (T+1) (ins (k,n) L)∧(up (xs.push ⟨k,T,n⟩) xs.size).size=xs.size+1:=by
 obtain ⟨qa,S,hp,hs,ht,rfl⟩:=h
 have hg:∀i,i<xs.size→g (xs.push ⟨k,T,n⟩) i=g xs i:=fun i hi=>by
  rw [g_get hi,g_get (by simp;omega),Array.getElem_push_lt hi]
 obtain ⟨r1,r2,r3⟩:=up_ok (xs.push ⟨k,T,n⟩) (xs.size+1) xs.size (by simp) (by omega)
  (fun i hi h0 hne=>by rw [hg i (by omega),hg _ (by omega)];exact qa i (by omega) h0 (by omega)) (fun i hi h0 h1 h2=>by omega)
 have ma:(up (xs.push ⟨k,T,n⟩) xs.size).size=xs.size+1:=by rw [r3];simp
 refine ⟨⟨by rw [ma];exact r1,insS ⟨k,T,n⟩ S,?_,insS_sorted _ _ hs (fun y hy=>(ht y hy).2),?_,(insS_kn ⟨k,T,n⟩ S).symm⟩,ma⟩
 ·refine (insS_perm _ _).trans (.trans ?_ r2.symm)
  rw [Array.toList_push]
  exact (hp.cons _).trans (List.perm_append_comm (l₁:=[_]))
 ·intro x hx
  rcases List.mem_cons.1 ((insS_perm _ _).mem_iff.1 hx) with rfl|hx
  ·exact ⟨hT,by show T<T+1;omega⟩
  ·have:=ht x hx;omega
theorem Rep.head {xs:Array It} {T:Int} {L:List KN} (h:Rep xs T L) (hn:0<xs.size):∃S,(g xs 0::S).Perm xs.toList∧(g xs 0::S).Pairwise lt∧(∀x∈g xs 0::S,0≤x.turn∧x.turn<T)∧L=kn (g xs 0)::S.map kn:=by
 obtain ⟨qa,S,hp,hs,ht,rfl⟩:=h
 cases S with
 | nil=>have:=hp.length_eq;simp at this;omega
 | cons s S =>
  have h0:g xs 0∈s::S:=hp.mem_iff.2 (by rw [g_get hn];simp)
  have ja:s∈xs.toList:=hp.mem_iff.1 (by simp)
  obtain ⟨k,hk,e⟩:=List.getElem_of_mem ja
  have ma:k<xs.size:=by simpa using hk
  have hm:=ok_min qa k ma
  rw [g_get ma,show xs[k]=s by simpa using e] at hm
  have he:g xs 0=s:=by
   rcases List.mem_cons.1 h0 with h|h
   ·exact h
   ·exact absurd ((List.pairwise_cons.1 hs).1 _ h) hm
  rw [he]
  exact ⟨S,hp,hs,ht,rfl⟩
theorem Rep.pop {xs:Array It} {T:Int} {L:List KN} (h:Rep xs T L) (hn:0<xs.size) :
  Rep (down (swp xs 0 (xs.size - 1)) 0 (xs.size - 1)).pop T L.tail∧g (down (swp xs 0 (xs.size - 1)) 0 (xs.size - 1)) (xs.size - 1)=g xs 0∧(down (swp xs 0 (xs.size - 1)) 0 (xs.size - 1)).size=xs.size∧L.head?=some (kn (g xs 0)):=by
 obtain ⟨S,hp,hs,ht,rfl⟩:=h.head hn
 have qa:=h.1
 have hl:xs.size - 1<xs.size:=by omega
 have G:=g_swp hn hl
 have ma:=size_swp xs 0 (xs.size - 1)
 have ja:=swp_perm hn hl
 obtain ⟨r1,r2,r3,r4⟩:=down_ok (swp xs 0 (xs.size - 1)) (xs.size - 1) 0 0 (by rw [ma];omega) (fun k hk h0 h1 h2=>by
  rw [G,G,Ja (by omega),Ja (by omega),Ja (by omega),Ja h2]
  exact qa k (by omega) h0 h1) (fun k hk h0 h1 h2=>by omega)
 have r5:=r4 (xs.size - 1) (Nat.le_refl _)
 rw [G,Jb rfl] at r5
 rw [ma] at r3
 generalize hd:down (swp xs 0 (xs.size - 1)) 0 (xs.size - 1)=zs at *
 have hg:∀k,k<xs.size - 1→g zs.pop k=g zs k:=fun k hk=>by
  rw [g_get (by simp;omega),g_get (by omega)];simp
 refine ⟨⟨?_,S,?_,(List.pairwise_cons.1 hs).2,fun x hx=>ht x (by simp [hx]),rfl⟩,r5,r3,rfl⟩
 ·rw [show zs.pop.size=xs.size - 1 by simp [r3]]
  exact ok_pop_less r1 hg
 ·have e:zs.toList=zs.pop.toList++[g xs 0]:=by
   rw [←r5,g_get (by omega)]
   apply List.ext_getElem
   ·simp;omega
   ·intro k h1 h2
    rw [List.getElem_append]
    split
    ·simp
    ·rename_i hk
     simp at h1 hk
     have:k=xs.size - 1:=by omega
     subst this
     simp
  have:(g xs 0::S).Perm (g xs 0::zs.pop.toList):=by
   refine hp.trans ((r2.trans ja).symm.trans ?_)
   rw [e]
   exact List.perm_append_comm
  exact this.cons_inv
end qu
namespace qu
open Go.RowKit
abbrev Iv (k t m:Int):Value:=.agg #[.int .i64 k,.int .u64 t,.int .i64 m]
theorem below_alloc (w:World) (o:Obj):Below w.heap.size w (w.alloc o):=(Below.refl _ _).alloc (Nat.le_refl _) _
theorem below_step {w0 w w':World} (h:Below w0.heap.size w0 w) (hb:Below w.heap.size w w'):Below w0.heap.size w0 w':=h.trans (hb.mono h.size)
structure BelowOf (w:World) where
 W:World
 h:Below w.heap.size w W
instance (w:World):Inhabited (BelowOf w):=⟨⟨w,Below.refl _ _⟩⟩
theorem wp_region_below {id:Nat} {Q:Exit→Act→World→Prop} {a:Act} {w:World} {l:List Oper} (hm:Tryz.prog.follows .mixedOrders=true) (hB:Region.lexB .any l.toArray=true)
  (h:wpQuiet Tryz.prog l.toArray (fun w'=>∃p:BelowOf w,w'=p.W) (fun a'=>∀w',(∃p:BelowOf w,w'=p.W)→Q .normal a' w') l a):(Code.region id l.toArray true).wp Tryz.prog Q a w :=
 wp_region_quiet (C:=fun w'=>∃p:BelowOf w,w'=p.W) hm hB ⟨⟨w.drew,(Below.refl _ _).drew⟩,rfl⟩ (by simpa using h)
theorem calls_below {f:FuncId} {args:Array Value} {w:World} (p:BelowOf w) {v:Value}
  (h:Calls Tryz.prog f args p.W fun e w'=>e=.returned v∧Below p.W.heap.size p.W w'):Calls Tryz.prog f args p.W fun e w''=>e=.returned v∧∃q:BelowOf w,w''=q.W :=
 h.mono fun _ w' ⟨he,hb⟩=>⟨he,⟨w',below_step p.h hb⟩,rfl⟩
def RetB (w:World) (b:Bool) (e:Ending) (w':World):Prop:=e=.returned (.bool b)∧Below w.heap.size w w'
theorem before_any (k t m k' t' m':Int) (w:World):Calls Tryz.prog 283 #[Iv k t m,Iv k' t' m'] w (RetB w (ltB k t k' t')):=by
 by_cases h:k=k'
 ·subst h
  have HE:=Qa (ltB_eq (k:=k) (t:=t) (t':=t'))
  generalize hr:ltB k t k t'=r at HE ⊢
  clear hr
  go_enter Tryz.func283,Tryz.ntmps283
  go_wp2
  go_ret
  exact ⟨by rw [HE.out];rfl,((Below.refl _ _).alloc (Nat.le_refl _) _).alloc (by simp) _⟩
 ·have HE:=Qa (ltB_ne (t:=t) (t':=t') h)
  have hb:(k == k')=false:=by simpa using h
  go_enter Tryz.func283,Tryz.ntmps283
  go_wp2
  go_ret
  exact ⟨by rw [HE.out];rfl,((Below.refl _ _).alloc (Nat.le_refl _) _).alloc (by simp) _⟩
structure At (w:World) (G i:Nat) (x:It):Prop where
 k:w.cell? ⟨G,i*3,none⟩=some (.int .i64 x.key)
 t:w.cell? ⟨G,i*3+1,none⟩=some (.int .u64 x.turn)
 m:w.cell? ⟨G,i*3+2,none⟩=some (.int .i64 x.num)
theorem At.lt {w:World} {G i:Nat} {x:It} (h:At w G i x):G<w.heap.size:=World.block_lt_of_cell? w _ h.k
theorem At.below {w w':World} {G i:Nat} {x:It} (h:At w G i x) (hb:Below w.heap.size w w'):At w' G i x :=
 ⟨(hb.cell (p:=⟨G,i*3,none⟩) h.lt).trans h.k,(hb.cell (p:=⟨G,i*3+1,none⟩) h.lt).trans h.t,(hb.cell (p:=⟨G,i*3+2,none⟩) h.lt).trans h.m⟩
theorem less_at (G n c i j:Nat) (x y:It) (w:World) (hi:i<n) (hj:j<n) (hn:n≤1000000) (hx:At w G i x) (hy:At w G j y) :
  Calls Tryz.prog 281 #[.slice (some ⟨G,0,none⟩) n c,.int .i64 i,.int .i64 j] w (RetB w (ltB x.key x.turn y.key y.turn)):=by
 have f0:∀p:BelowOf w,p.W.cell? ⟨G,i*3,none⟩=some (.int .i64 x.key):=fun p=>(hx.below p.h).k
 have f1:∀p:BelowOf w,p.W.cell? ⟨G,i*3+1,none⟩=some (.int .u64 x.turn):=fun p=>(hx.below p.h).t
 have f2:∀p:BelowOf w,p.W.cell? ⟨G,i*3+2,none⟩=some (.int .i64 x.num):=fun p=>(hx.below p.h).m
 have f3:∀p:BelowOf w,p.W.cell? ⟨G,j*3,none⟩=some (.int .i64 y.key):=fun p=>(hy.below p.h).k
 have f4:∀p:BelowOf w,p.W.cell? ⟨G,j*3+1,none⟩=some (.int .u64 y.turn):=fun p=>(hy.below p.h).t
 have f5:∀p:BelowOf w,p.W.cell? ⟨G,j*3+2,none⟩=some (.int .i64 y.num):=fun p=>(hy.below p.h).m
 have HC:=Qa (show ∀p:BelowOf w,Calls Tryz.prog 283 #[Iv x.key x.turn x.num,Iv y.key y.turn y.num] p.W fun e w''=>e=.returned (.bool (ltB x.key x.turn y.key y.turn))∧∃q:BelowOf w,w''=q.W from fun p =>
  calls_below p (before_any _ _ _ _ _ _ p.W))
 generalize ltB x.key x.turn y.key y.turn=r at *
 clear hx hy
 go_enter Tryz.func281,Tryz.ntmps281
 go_upto_region 1 with fail
 refine wp_region_below (by kernel_rfl) (by kernel_rfl) ?_
 repeat (go_big_quiet_step ((go_at_call 283;with_reducible exact HC.out _)))
 refine wpQuiet_nil ?_
 rintro w1 ⟨⟨_,h1⟩,rfl⟩
 go_wp2_with fail
 go_ret
 exact ⟨rfl,h1⟩
theorem m_push (Q:Nat) (w:World):Sem.run Tryz.prog (method 444 229 (.pointer (some ⟨Q,0,none⟩)) "Push") w=.ok (285,.pointer (some ⟨Q,0,none⟩)) w:=by kernel_rfl
theorem m_pop (Q:Nat) (w:World):Sem.run Tryz.prog (method 444 229 (.pointer (some ⟨Q,0,none⟩)) "Pop") w=.ok (284,.pointer (some ⟨Q,0,none⟩)) w:=by kernel_rfl
theorem load46 (Q:Nat) (w:World) (v:Value) (h:w.cell? ⟨Q,0,none⟩=some v):Sem.run Tryz.prog (loadVar 223 ⟨Q,0,none⟩) w=.ok v w:=by
 go_simp
theorem ssa_run (P:Program) (ts:Array TypeId) (t:TypeId) (a:Addr) (s m:String) (w:World):Sem.run P (Builtin.ssaWrapNilChk_ ts t #[.pointer (some a),strVal s,strVal m]) w=.ok (.pointer (some a)) w:=rfl
theorem m_value (name:String) (f Q:Nat) (hx:((Tryz.prog.info? 229).bind fun i=>(i.methods.find? (·.name == name)).map fun m=>(m.path,m.func))=some (#[],some (f,false))) (w:World) (v:Value) (h:w.cell? ⟨Q,0,none⟩=some v) :
  Sem.run Tryz.prog (method 444 229 (.pointer (some ⟨Q,0,none⟩)) name) w=.ok (f,v) w:=by
 obtain ⟨i,hi,hx⟩:=Option.bind_eq_some_iff.1 hx
 obtain ⟨m,hm,hx⟩:=Option.map_eq_some_iff.1 hx
 injection hx with hp hf
 have ht:Sem.run Tryz.prog (typeInfo 229) w=.ok i w:=by simp [typeInfo,hi]
 have hl:=load46 Q w v h
 have hu:Sem.run Tryz.prog (underlying 229) w=.ok (.pointer 223) w:=by kernel_rfl
 unfold method
 simp only [Sem.run_bind,ht,Result.andThen_ok,hm,hp,hf,follow,receiverAt,Place.get,Sem.run_pure,hu]
 simp [ssa_run,asAddr,hl]
theorem m_len (Q:Nat) (w:World) (v:Value) (h:w.cell? ⟨Q,0,none⟩=some v):Sem.run Tryz.prog (method 444 229 (.pointer (some ⟨Q,0,none⟩)) "Len") w=.ok (280,v) w:=m_value "Len" 280 Q (by kernel_rfl) w v h
theorem m_less (Q:Nat) (w:World) (v:Value) (h:w.cell? ⟨Q,0,none⟩=some v):Sem.run Tryz.prog (method 444 229 (.pointer (some ⟨Q,0,none⟩)) "Less") w=.ok (281,v) w:=m_value "Less" 281 Q (by kernel_rfl) w v h
theorem m_swap (Q:Nat) (w:World) (v:Value) (h:w.cell? ⟨Q,0,none⟩=some v):Sem.run Tryz.prog (method 444 229 (.pointer (some ⟨Q,0,none⟩)) "Swap") w=.ok (282,v) w:=m_value "Swap" 282 Q (by kernel_rfl) w v h
def Cells (f:Nat→Value) (xs:Array It):Prop:=∀i,i<xs.size→f (i*3)=.int .i64 (g xs i).key∧f (i*3+1)=.int .u64 (g xs i).turn∧f (i*3+2)=.int .i64 (g xs i).num
def QRow (w:World) (G c:Nat) (xs:Array It):Prop:=xs.size≤c∧c≤maxLen∧∃f,w.rowIs G 231 (c*3) f∧Cells f xs
theorem QRow.at_ {w:World} {G c:Nat} {xs:Array It} (h:QRow w G c xs) {i:Nat} (hi:i<xs.size):At w G i (g xs i):=by
 obtain ⟨h1,h2,f,hf,hc⟩:=h
 obtain ⟨a,b,d⟩:=hc i hi
 exact ⟨by rw [hf.cell (by omega),a],by rw [hf.cell (by omega),b],by rw [hf.cell (by omega),d]⟩
theorem QRow.frozen {w:World} {G c:Nat} {xs:Array It} (h:QRow w G c xs) (o:Nat):w.frozen? ⟨G,o,none⟩=false:=by
 obtain ⟨_,_,f,hf,_⟩:=h
 exact hf.frozen o
theorem QRow.lt {w:World} {G c:Nat} {xs:Array It} (h:QRow w G c xs):G<w.heap.size:=by
 obtain ⟨_,_,f,hf,_⟩:=h
 exact hf.lt
theorem QRow.of_block {w w':World} {G c:Nat} {xs:Array It} (h:QRow w G c xs) (e:w'.heap[G]?=w.heap[G]?):QRow w' G c xs:=by
 obtain ⟨h1,h2,f,hf,hc⟩:=h
 exact ⟨h1,h2,f,hf.of_block e,hc⟩
theorem QRow.drew {w:World} {G c:Nat} {xs:Array It} (h:QRow w G c xs):QRow w.drew G c xs:=h.of_block rfl
def set3 (w:World) (G i:Nat) (y:It):World:=((w.setCell ⟨G,i*3,none⟩ (.int .i64 y.key)).setCell ⟨G,i*3+1,none⟩ (.int .u64 y.turn)).setCell ⟨G,i*3+2,none⟩ (.int .i64 y.num)
theorem g_set {xs:Array It} {i:Nat} (hi:i<xs.size) (y:It) (k:Nat):g (xs.setIfInBounds i y) k=if k=i then y else g xs k:=by
 unfold g
 simp only [Array.getD_eq_getD_getElem?,Array.getElem?_setIfInBounds]
 by_cases h:k=i
 ·subst h;simp [hi]
 ·simp [h,Ne.symm h]
theorem QRow.set {w:World} {G c:Nat} {xs:Array It} (h:QRow w G c xs) {i:Nat} (hi:i<xs.size) (y:It):QRow (set3 w G i y) G c (xs.setIfInBounds i y):=by
 obtain ⟨h1,h2,f,hf,hc⟩:=h
 refine ⟨by simpa using h1,h2,_,((hf.set _ _).set _ _).set _ _,fun k hk=>?_⟩
 rw [Array.size_setIfInBounds] at hk
 rw [g_set hi]
 obtain ⟨a,b,d⟩:=hc k hk
 by_cases e:k=i
 ·subst e
  simp
 ·have e1:¬k*3=i*3:=by omega
  have e2:¬k*3=i*3+1:=by omega
  have e3:¬k*3=i*3+2:=by omega
  have e4:¬k*3+1=i*3:=by omega
  have e6:¬k*3+2=i*3:=by omega
  have e7:¬k*3+2=i*3+1:=by omega
  simp [e,e1,e2,e3,e4,e6,e7,a,b,d]
theorem grownBy_trans {w w1 w2:World} {r:Option Nat} (h:w.grownBy w1 r) (h':w1.grownBy w2 r):w.grownBy w2 r :=
 ⟨h'.os.trans h.os,h'.tape.trans h.tape,h'.output.trans h.output,Nat.le_trans h.size h'.size,fun k hk hr=>(h'.block k (Nat.lt_of_lt_of_le hk h.size) hr).trans (h.block k hk hr)⟩
theorem grownBy_refl (w:World) (r:Option Nat):w.grownBy w r:=⟨rfl,rfl,rfl,Nat.le_refl _,fun _ _ _=>rfl⟩
theorem grownBy_below {w w':World} (h:Below w.heap.size w w') (r:Option Nat):w.grownBy w' r:=⟨h.os,h.tape,h.output,h.size,fun k hk _=>h.block k hk⟩
theorem grownBy_set (w:World) (G o:Nat) (v:Value):w.grownBy (w.setCell ⟨G,o,none⟩ v) (some G) :=
 ⟨rfl,rfl,rfl,by simp [World.setCell],fun k _ hr=>Below.heap_setCell _ _ _ _ (fun e=>hr (by rw [e]))⟩
theorem grownBy_set3 (w:World) (G i:Nat) (y:It):w.grownBy (set3 w G i y) (some G):=grownBy_trans (grownBy_trans (grownBy_set _ _ _ _) (grownBy_set _ _ _ _)) (grownBy_set _ _ _ _)
theorem grownBy_drew (w:World) (r:Option Nat):w.grownBy w.drew r:=⟨rfl,rfl,rfl,Nat.le_refl _,fun _ _ _=>rfl⟩
def SwapE (w:World) (G c:Nat) (ys:Array It) (e:Ending) (w':World):Prop:=e=.returned (.tuple #[])∧QRow w' G c ys∧w.grownBy w' (some G)
theorem swapE_of {w:World} {G c:Nat} {xs:Array It} (h:QRow w G c xs) {i j:Nat} (hi:i<xs.size) (hj:j<xs.size):SwapE w G c (swp xs i j) (.returned (.tuple #[])) (set3 (set3 w G i (g xs j)) G j (g xs i)).drew :=
 ⟨rfl,((h.set hi _).set (by simpa using hj) _).drew,grownBy_trans (grownBy_trans (grownBy_set3 _ _ _ _) (grownBy_set3 _ _ _ _)) (grownBy_drew _ _)⟩
theorem swap_ne (G c n i j:Nat) (xs:Array It) (w:World) (hn:n=xs.size) (hi:i<n) (hj:j<n) (hij:i≠j) (h:QRow w G c xs) (hN:n≤1000000) :
  Calls Tryz.prog 282 #[.slice (some ⟨G,0,none⟩) n c,.int .i64 i,.int .i64 j] w (SwapE w G c (swp xs i j)):=by
 have HF:=Qa (swapE_of h (i:=i) (j:=j) (by omega) (by omega))
 have hx:=h.at_ (i:=i) (by omega)
 have hy:=h.at_ (i:=j) (by omega)
 have ma:=h.frozen
 unfold set3 at HF
 generalize g xs i=x at *
 generalize g xs j=y at *
 generalize swp xs i j=ys at *
 have f0:=hx.k
 have f1:=hx.t
 have f2:=hx.m
 have f3:=hy.k
 have f4:=hy.t
 have f5:=hy.m
 have n0:i*3≠j*3:=by omega
 have n1:i*3≠j*3+1:=by omega
 have n2:i*3≠j*3+2:=by omega
 have n3:i*3+1≠j*3:=by omega
 have n5:i*3+1≠j*3+2:=by omega
 have n6:i*3+2≠j*3:=by omega
 have n7:i*3+2≠j*3+1:=by omega
 clear hx hy hn h
 go_enter Tryz.func282,Tryz.ntmps282
 go_wp2_with fail
 go_region
 all_goals (go_wp2_with fail;go_end0;exact HF.out)
theorem swap_eq (G c n i:Nat) (xs:Array It) (w:World) (hn:n=xs.size) (hi:i<n) (h:QRow w G c xs) (hN:n≤1000000) :
  Calls Tryz.prog 282 #[.slice (some ⟨G,0,none⟩) n c,.int .i64 i,.int .i64 i] w (SwapE w G c (swp xs i i)):=by
 have HF:=Qa (swapE_of h (i:=i) (j:=i) (by omega) (by omega))
 have hx:=h.at_ (i:=i) (by omega)
 have ma:=h.frozen
 unfold set3 at HF
 generalize g xs i=x at *
 generalize swp xs i i=ys at *
 have f0:=hx.k
 have f1:=hx.t
 have f2:=hx.m
 clear hx hn h
 go_enter Tryz.func282,Tryz.ntmps282
 go_wp2_with fail
 go_region
 all_goals (go_wp2_with fail;go_end0;exact HF.out)
theorem swap_any (G c n i j:Nat) (xs:Array It) (w:World) (hn:n=xs.size) (hi:i<n) (hj:j<n) (h:QRow w G c xs) (hN:n≤1000000) :
  Calls Tryz.prog 282 #[.slice (some ⟨G,0,none⟩) n c,.int .i64 i,.int .i64 j] w (SwapE w G c (swp xs i j)):=by
 by_cases e:i=j
 ·subst e;exact swap_eq G c n i xs w hn hi h hN
 ·exact swap_ne G c n i j xs w hn hi hj e h hN
theorem len_any (A:Option Addr) (n c:Nat) (w:World):Calls Tryz.prog 280 #[.slice A n c] w (fun e w'=>e=.returned (.int .i64 n)∧w=w'):=by
 go_enter Tryz.func280,Tryz.ntmps280
 go_wp2
 go_ret
 exact ⟨rfl,rfl⟩
abbrev Pq (Q:Nat):Value:=.pointer (some ⟨Q,0,none⟩)
theorem e49:Enters Tryz.prog 280:=enters_of Tryz.func280 (by kernel_rfl) rfl
theorem e50:Enters Tryz.prog 281:=enters_of Tryz.func281 (by kernel_rfl) rfl
theorem e51:Enters Tryz.prog 282:=enters_of Tryz.func282 (by kernel_rfl) rfl
theorem e53:Enters Tryz.prog 284:=enters_of Tryz.func284 (by kernel_rfl) rfl
theorem e54:Enters Tryz.prog 285:=enters_of Tryz.func285 (by kernel_rfl) rfl
structure Hp (w:World) (Q G c:Nat) (xs:Array It):Prop where
 row:QRow w G c xs
 cell:w.cell? ⟨Q,0,none⟩=some (.slice (some ⟨G,0,none⟩) xs.size c)
 ne:Q≠G
theorem Hp.lt {w:World} {Q G c:Nat} {xs:Array It} (h:Hp w Q G c xs):Q<w.heap.size:=World.block_lt_of_cell? w _ h.cell
theorem Hp.below {w w':World} {Q G c:Nat} {xs:Array It} (h:Hp w Q G c xs) (hb:Below w.heap.size w w'):Hp w' Q G c xs :=
 ⟨h.row.of_block (hb.block _ h.row.lt),(hb.cell (p:=⟨Q,0,none⟩) h.lt).trans h.cell,h.ne⟩
theorem Hp.swap {w w':World} {Q G c:Nat} {xs ys:Array It} {e:Ending} (h:Hp w Q G c xs) (hs:SwapE w G c ys e w') (hz:ys.size=xs.size):Hp w' Q G c ys :=
 ⟨hs.2.1,by rw [hz,←h.cell];exact World.cell?_of_block (hs.2.2.block Q h.lt (fun e=>h.ne (by injection e))),h.ne⟩
theorem Hp.less {w:World} {Q G c:Nat} {xs:Array It} (h:Hp w Q G c xs) {n i j:Nat} (hn:n=xs.size) (hi:i<n) (hj:j<n) (hN:n≤1000000) {b:Bool} (hb:ltB (g xs i).key (g xs i).turn (g xs j).key (g xs j).turn=b) :
  Calls Tryz.prog 281 #[.slice (some ⟨G,0,none⟩) n c,.int .i64 i,.int .i64 j] w (RetB w b):=by
 subst hb
 exact less_at G n c i j _ _ w hi hj hN (h.row.at_ (by omega)) (h.row.at_ (by omega))
def UpE (w:World) (Q G c:Nat) (ys:Array It) (e:Ending) (w':World):Prop:=e=.returned (.tuple #[])∧Hp w' Q G c ys∧w.grownBy w' (some G)
theorem up_any (Q G c n j:Nat) (xs:Array It) (w:World) (hn:n=xs.size) (hj:j<n) (hN:n≤1000000) (h:Hp w Q G c xs) :
  Calls Tryz.prog 206 #[.iface 229 (Pq Q),.int .i64 j] w (UpE w Q G c (up xs j)):=by
 have E50:=e50
 have E51:=e51
 unfold Enters at E50 E51
 generalize hr:up xs j=rs
 have HR:=Qa hr
 have HN:=Qa hn
 have HW:=Qa h
 clear hr hn h
 go_enter Tryz.func206,Tryz.ntmps206
 go_wp2_with fail
 go_loopg [1] j (fun k s wr=>∃ys,s=.int .i64 k∧k<n∧Hid (n=ys.size)∧Hid (Hp wr Q G c ys)∧Hid (up ys k=rs)∧w.grownBy wr (some G))
 case atStart=>exact ⟨xs,rfl,hj,HN,HW,HR,grownBy_refl _ _⟩
 case round =>
  clear HR HN HW
  obtain ⟨ys,rfl,hk,HN,HP,HR,hgr⟩:=hrel
  by_cases h0:gk=0
  ·subst h0
   go_wp2_with fail
   go_end0
   exact ⟨rfl,by have:=HR.out;rw [up_stop (.inl rfl)] at this;rw [←this];exact HP.out,hgr⟩
  ·obtain ⟨p,hp⟩:∃p,(gk - 1) / 2=p:=⟨_,rfl⟩
   have xa:p<gk:=by omega
   have qa:((gk:Int) - 1) / 2=(p:Int):=by omega
   have ya:((p:Int) == (gk:Int))=false:=by simp;omega
   have hm:=m_less Q wr _ HP.out.cell
   rw [←HN.out] at hm
   have Qc:=Qa hp
   have Qe:=Qa h0
   clear hp h0
   by_cases hl:lt (g ys gk) (g ys p)
   ·have HL:=Qa hl
    clear hl
    have HC:=Qa (HP.out.less HN.out hk (show p<n by omega) hN (b:=true) HL.out)
    go_wp2_with fail
    refine HC.out.mono ?_
    rintro e w2 ⟨rfl,hb⟩
    have Qb:=Qa (HP.out.below hb)
    have ma:=m_swap Q w2 _ Qb.out.cell
    rw [←HN.out] at ma
    have HS:=Qa (swap_any G c n p gk ys w2 HN.out (by omega) hk Qb.out.row hN)
    clear hm HC
    go_wp2_with fail
    refine HS.out.mono ?_
    rintro e w3 hs
    obtain ⟨rfl,hs2⟩:=id hs
    have Qf:=Qa (Qb.out.swap hs (size_swp _ _ _))
    have ja:=grownBy_trans (grownBy_trans hgr (grownBy_below hb _)) hs.2.2
    have Qd:=Qa (show up (swp ys p gk) p=rs by
     have h1:=HR.out
     rw [up_go Qe.out (by rw [Qc.out];exact HL.out),Qc.out] at h1
     exact h1)
    clear ma hs hs2 HS
    go_wp2_with fail
    go_roundg p
    case measure=>omega
    case rel=>exact ⟨_,rfl,by omega,Qa (by rw [size_swp];exact HN.out),Qf,Qd,ja⟩
   ·have HC:=Qa (HP.out.less HN.out hk (show p<n by omega) hN (b:=false) (by simpa [lt] using hl))
    have Qd:=Qa (show ys=rs by
     have h1:=HR.out
     rw [up_stop (.inr (by rw [Qc.out];exact hl))] at h1
     exact h1)
    clear hl
    go_wp2_with fail
    refine HC.out.mono ?_
    rintro e w2 ⟨rfl,hb⟩
    have Qb:=Qa (HP.out.below hb)
    go_wp2_with fail
    go_end0
    exact ⟨rfl,by rw [←Qd.out];exact Qb.out,grownBy_trans hgr (grownBy_below hb _)⟩
def DownE (w:World) (Q G c:Nat) (ys:Array It) (e:Ending) (w':World):Prop:=(∃b,e=.returned (.bool b))∧Hp w' Q G c ys∧w.grownBy w' (some G)
theorem down_any (Q G c N i0 m:Nat) (xs:Array It) (w:World) (hn:N=xs.size) (hi0:i0≤m) (hm:m≤N) (hN:N≤1000000) (h:Hp w Q G c xs) :
  Calls Tryz.prog 207 #[.iface 229 (Pq Q),.int .i64 i0,.int .i64 m] w (DownE w Q G c (down xs i0 m)):=by
 have E50:=e50
 have E51:=e51
 unfold Enters at E50 E51
 generalize hr:down xs i0 m=rs
 have HR:=Qa hr
 have HN:=Qa hn
 have HW:=Qa h
 clear hr hn h
 go_enter Tryz.func207,Tryz.ntmps207
 go_wp2_with fail
 go_loopg [7] (m - i0) (fun k s wr=>∃(i:Nat) (ys:Array It),s=.int .i64 i∧k+i=m∧Hid (N=ys.size)∧Hid (Hp wr Q G c ys)∧Hid (down ys i m=rs)∧w.grownBy wr (some G))
 case atStart=>exact ⟨i0,xs,rfl,by omega,HN,HW,HR,grownBy_refl _ _⟩
 case round =>
  clear HR HN HW
  obtain ⟨i,ys,rfl,hk,HN,HP,HR,hgr⟩:=hrel
  obtain ⟨a1,qa⟩:∃a,2*i+1=a:=⟨_,rfl⟩
  obtain ⟨a2,ha2⟩:∃a,a1+1=a:=⟨_,rfl⟩
  have kb:2*(i:Int)+1=(a1:Int):=by omega
  have mb:(a1:Int)+1=(a2:Int):=by omega
  have ba:¬((a1:Int)<0):=by omega
  by_cases h0:a1<m
  ·have fa:¬((m:Int)≤(a1:Int)):=by omega
   by_cases h2:a2<m
   ·have ga:=m_less Q wr _ HP.out.cell
    rw [←HN.out] at ga
    have Qj:=Qa (fun (b:Bool) hb=>HP.out.less HN.out (show a2<N by omega) (show a1<N by omega) hN (b:=b) hb)
    by_cases hl:lt (g ys a2) (g ys a1)
    ·have Qd:=Qa (show child ys i m=a2 by unfold child;rw [show 2*i+2=a2 by omega,qa,Jb ⟨h2,hl⟩])
     have Qf:=Qa (Qj.out true hl)
     clear hl Qj
     have HA:=Qa (And.intro qa ha2)
     have sa:i<a1:=by omega
     have ya:a2=a1+1:=by omega
     have Qk:=Qa ya
     clear qa ha2 ya
     go_wp2_with fail
     refine Qf.out.mono ?_
     rintro e w2 ⟨rfl,hb⟩
     have Qc:=Qa (HP.out.below hb)
     have ma:=grownBy_trans hgr (grownBy_below hb _)
     clear ga Qf
     have jb:i<a2:=by have:=Qk.out;omega
     have la:a2<m:=by omega
     have HC:=Qa (fun (b:Bool) hb=>Qc.out.less HN.out (show a2<N by omega) (show i<N by omega) hN (b:=b) hb)
     have ja:=m_less Q w2 _ Qc.out.cell
     rw [←HN.out] at ja
     by_cases hl2:lt (g ys a2) (g ys i)
     ·have Qg:=Qa hl2
      have HB:=Qa (HC.out true hl2)
      clear hl2 HC
      go_wp2_with fail
      refine HB.out.mono ?_
      rintro e w3 ⟨rfl,hb3⟩
      have Qb:=Qa (Qc.out.below hb3)
      have xa:=m_swap Q w3 _ Qb.out.cell
      rw [←HN.out] at xa
      have HS:=Qa (swap_any G c N i a2 ys w3 HN.out (by omega) (by omega) Qb.out.row hN)
      clear ja HB
      go_wp2_with fail
      refine HS.out.mono ?_
      rintro e w4 hs
      obtain ⟨rfl,hs2⟩:=id hs
      have Qh:=Qa (Qb.out.swap hs (size_swp _ _ _))
      have da:=grownBy_trans (grownBy_trans ma (grownBy_below hb3 _)) hs.2.2
      have Qi:=Qa (show down (swp ys i a2) a2 m=rs by
       have h1:=HR.out
       rw [down_go (by omega) (by rw [Qd.out];exact Qg.out),Qd.out] at h1
       exact h1)
      clear xa hs hs2 HS
      go_wp2_with fail
      go_roundg (m - a2)
      case measure=>omega
      case rel=>exact ⟨a2,_,rfl,by omega,Qa (by rw [size_swp];exact HN.out),Qh,Qi,da⟩
     ·have HB:=Qa (HC.out false (by simpa [lt] using hl2))
      have Qe:=Qa (show ys=rs by
       have h1:=HR.out
       rw [down_stop (.inr (by rw [Qd.out];exact hl2))] at h1
       exact h1)
      clear hl2 HC
      go_wp2_with fail
      refine HB.out.mono ?_
      rintro e w3 ⟨rfl,hb3⟩
      have Qb:=Qa (Qc.out.below hb3)
      go_wp2_with fail
      go_ret
      exact ⟨⟨_,rfl⟩,by rw [←Qe.out];exact Qb.out,grownBy_trans ma (grownBy_below hb3 _)⟩
    ·have Qd:=Qa (show child ys i m=a1 by unfold child;rw [show 2*i+2=a2 by omega,qa,Ja (fun h=>hl h.2)])
     have Qf:=Qa (Qj.out false (by simpa [lt] using hl))
     clear hl Qj
     have HA:=Qa (And.intro qa ha2)
     have sa:i<a1:=by omega
     clear qa ha2
     go_wp2_with fail
     refine Qf.out.mono ?_
     rintro e w2 ⟨rfl,hb⟩
     have Qc:=Qa (HP.out.below hb)
     have ma:=grownBy_trans hgr (grownBy_below hb _)
     clear ga Qf
     have la:a1<m:=by omega
     have HC:=Qa (fun (b:Bool) hb=>Qc.out.less HN.out (show a1<N by omega) (show i<N by omega) hN (b:=b) hb)
     have ja:=m_less Q w2 _ Qc.out.cell
     rw [←HN.out] at ja
     by_cases hl2:lt (g ys a1) (g ys i)
     ·have Qg:=Qa hl2
      have HB:=Qa (HC.out true hl2)
      clear hl2 HC
      go_wp2_with fail
      refine HB.out.mono ?_
      rintro e w3 ⟨rfl,hb3⟩
      have Qb:=Qa (Qc.out.below hb3)
      have xa:=m_swap Q w3 _ Qb.out.cell
      rw [←HN.out] at xa
      have HS:=Qa (swap_any G c N i a1 ys w3 HN.out (by omega) (by omega) Qb.out.row hN)
      clear ja HB
      go_wp2_with fail
      refine HS.out.mono ?_
      rintro e w4 hs
      obtain ⟨rfl,hs2⟩:=id hs
      have Qh:=Qa (Qb.out.swap hs (size_swp _ _ _))
      have da:=grownBy_trans (grownBy_trans ma (grownBy_below hb3 _)) hs.2.2
      have Qi:=Qa (show down (swp ys i a1) a1 m=rs by
       have h1:=HR.out
       rw [down_go (by omega) (by rw [Qd.out];exact Qg.out),Qd.out] at h1
       exact h1)
      clear xa hs hs2 HS
      go_wp2_with fail
      go_roundg (m - a1)
      case measure=>omega
      case rel=>exact ⟨a1,_,rfl,by omega,Qa (by rw [size_swp];exact HN.out),Qh,Qi,da⟩
     ·have HB:=Qa (HC.out false (by simpa [lt] using hl2))
      have Qe:=Qa (show ys=rs by
       have h1:=HR.out
       rw [down_stop (.inr (by rw [Qd.out];exact hl2))] at h1
       exact h1)
      clear hl2 HC
      go_wp2_with fail
      refine HB.out.mono ?_
      rintro e w3 ⟨rfl,hb3⟩
      have Qb:=Qa (Qc.out.below hb3)
      go_wp2_with fail
      go_ret
      exact ⟨⟨_,rfl⟩,by rw [←Qe.out];exact Qb.out,grownBy_trans ma (grownBy_below hb3 _)⟩
   ·have Qd:=Qa (show child ys i m=a1 by unfold child;rw [show 2*i+2=a2 by omega,qa,Ja (fun h=>h2 h.1)])
    have HA:=Qa (And.intro qa ha2)
    have sa:i<a1:=by omega
    have pb:¬((a2:Int)<(m:Int)):=by omega
    clear qa ha2 h2
    have Qc:=HP
    have ma:=hgr
    clear HP hgr
    generalize hww:wr=w2 at *
    clear hww
    have la:a1<m:=by omega
    have HC:=Qa (fun (b:Bool) hb=>Qc.out.less HN.out (show a1<N by omega) (show i<N by omega) hN (b:=b) hb)
    have ja:=m_less Q w2 _ Qc.out.cell
    rw [←HN.out] at ja
    by_cases hl2:lt (g ys a1) (g ys i)
    ·have Qg:=Qa hl2
     have HB:=Qa (HC.out true hl2)
     clear hl2 HC
     go_wp2_with fail
     refine HB.out.mono ?_
     rintro e w3 ⟨rfl,hb3⟩
     have Qb:=Qa (Qc.out.below hb3)
     have xa:=m_swap Q w3 _ Qb.out.cell
     rw [←HN.out] at xa
     have HS:=Qa (swap_any G c N i a1 ys w3 HN.out (by omega) (by omega) Qb.out.row hN)
     clear ja HB
     go_wp2_with fail
     refine HS.out.mono ?_
     rintro e w4 hs
     obtain ⟨rfl,hs2⟩:=id hs
     have Qh:=Qa (Qb.out.swap hs (size_swp _ _ _))
     have da:=grownBy_trans (grownBy_trans ma (grownBy_below hb3 _)) hs.2.2
     have Qi:=Qa (show down (swp ys i a1) a1 m=rs by
      have h1:=HR.out
      rw [down_go (by omega) (by rw [Qd.out];exact Qg.out),Qd.out] at h1
      exact h1)
     clear xa hs hs2 HS
     go_wp2_with fail
     go_roundg (m - a1)
     case measure=>omega
     case rel=>exact ⟨a1,_,rfl,by omega,Qa (by rw [size_swp];exact HN.out),Qh,Qi,da⟩
    ·have HB:=Qa (HC.out false (by simpa [lt] using hl2))
     have Qe:=Qa (show ys=rs by
      have h1:=HR.out
      rw [down_stop (.inr (by rw [Qd.out];exact hl2))] at h1
      exact h1)
     clear hl2 HC
     go_wp2_with fail
     refine HB.out.mono ?_
     rintro e w3 ⟨rfl,hb3⟩
     have Qb:=Qa (Qc.out.below hb3)
     go_wp2_with fail
     go_ret
     exact ⟨⟨_,rfl⟩,by rw [←Qe.out];exact Qb.out,grownBy_trans ma (grownBy_below hb3 _)⟩
  ·have Qe:=Qa (show ys=rs by
    have h1:=HR.out
    rw [down_stop (.inl (by omega))] at h1
    exact h1)
   have fa:(m:Int)≤(a1:Int):=by omega
   clear qa ha2 h0
   go_wp2_with fail
   go_ret
   exact ⟨⟨_,rfl⟩,by rw [←Qe.out];exact HP.out,hgr⟩
def CellsL (L:List Value) (xs:Array It):Prop:=L.length=xs.size*3∧∀i,i<xs.size→L[i*3]?=some (.int .i64 (g xs i).key)∧L[i*3+1]?=some (.int .u64 (g xs i).turn)∧L[i*3+2]?=some (.int .i64 (g xs i).num)
theorem QRow.owns {w:World} {G c lo:Nat} {xs:Array It} (h:QRow w G c xs) (hlo:lo≤G):∃L,w.ownsRow lo 231 3 (.slice (some ⟨G,0,none⟩) xs.size c) xs.size L∧CellsL L xs:=by
 obtain ⟨h1,h2,f,⟨cur,hg,hs,hf⟩,hc⟩:=h
 have hl:(cur.toList.take (xs.size*3)).length=xs.size*3:=by rw [List.length_take];simp;omega
 refine ⟨cur.toList.take (xs.size*3),⟨hl,.inr ⟨G,c,cur,rfl,hlo,hg,h1,h2,hs,rfl⟩⟩,hl,fun i hi=>?_⟩
 obtain ⟨a,b,d⟩:=hc i hi
 have hq:∀k,k<xs.size*3→(cur.toList.take (xs.size*3))[k]?=some (f k):=fun k hk=>by
  rw [List.getElem?_take_of_lt hk,Array.getElem?_toList];exact hf k (by omega)
 exact ⟨by rw [hq _ (by omega),a],by rw [hq _ (by omega),b],by rw [hq _ (by omega),d]⟩
theorem QRow.of_owns {w:World} {G c n lo:Nat} {xs:Array It} {L:List Value} (h:w.ownsRow lo 231 3 (.slice (some ⟨G,0,none⟩) n c) n L) (hn:n=xs.size) (hL:CellsL L xs):QRow w G c xs∧lo≤G:=by
 subst hn
 rcases h.2 with ⟨e,_⟩|⟨G',c',cur,hv,hb,hg,h1,h2,hs,ht⟩
 ·cases e
 ·injection hv with e1 e2 e3
  injection e1 with e1
  injection e1 with e1
  subst e1;subst e3
  have hq:∀k,k<xs.size*3→L[k]?=cur[k]?:=fun k hk=>by rw [←ht,List.getElem?_take_of_lt hk,Array.getElem?_toList]
  have hz:xs.size*3≤c*3:=by omega
  refine ⟨⟨h1,h2,fun k=>cur.getD k undef,⟨cur,hg,hs,fun i hi=>by simp [Array.getD_eq_getD_getElem?,Array.getElem?_eq_getElem (show i<cur.size by omega)]⟩,fun i hi=>?_⟩,hb⟩
  obtain ⟨a,b,d⟩:=hL.2 i hi
  rw [hq _ (by omega)] at a b d
  simp [Array.getD_eq_getD_getElem?,a,b,d]
theorem g_push (xs:Array It) (x:It) (k:Nat) (hk:k≤xs.size):g (xs.push x) k=if k=xs.size then x else g xs k:=by
 unfold g
 simp only [Array.getD_eq_getD_getElem?,Array.getElem?_push]
 split <;> simp
theorem CellsL.push {L:List Value} {xs:Array It} (h:CellsL L xs) (x:It):CellsL (L++[.int .i64 x.key,.int .u64 x.turn,.int .i64 x.num]) (xs.push x):=by
 refine ⟨by rw [List.length_append,h.1];simp;omega,fun i hi=>?_⟩
 rw [Array.size_push] at hi
 rw [g_push xs x i (by omega)]
 by_cases e:i=xs.size
 ·subst e
  simp [h.1]
 ·obtain ⟨a,b,d⟩:=h.2 i (by omega)
  rw [Ja e,List.getElem?_append_left (by rw [h.1];omega),List.getElem?_append_left (by rw [h.1];omega),List.getElem?_append_left (by rw [h.1];omega)]
  exact ⟨a,b,d⟩
theorem CellsL.nil:CellsL [] #[]:=⟨rfl,fun i hi=>by simp at hi⟩
abbrev Ao (o:Option Nat):Option Addr:=o.map fun G=>⟨G,0,none⟩
structure Qu (w:World) (Q lo:Nat) (o:Option Nat) (c:Nat) (xs:Array It) (T:Nat):Prop where
 q0:w.cell? ⟨Q,0,none⟩=some (.slice (Ao o) xs.size c)
 q1:w.cell? ⟨Q,1,none⟩=some (.int .u64 T)
 f0:w.frozen? ⟨Q,0,none⟩=false
 f1:w.frozen? ⟨Q,1,none⟩=false
 row:match o with|none=>xs.size=0∧c=0|some G=>lo≤G∧Q≠G∧QRow w G c xs
structure Fr (w w':World) (Q:Nat) (o:Option Nat):Prop where
 os:w'.os=w.os
 tape:w'.tape=w.tape
 output:w'.output=w.output
 size:w.heap.size≤w'.heap.size
 block:∀k,k<w.heap.size→k≠Q→o≠some k→w'.heap[k]?=w.heap[k]?
theorem Qu.lt {w:World} {Q lo c T:Nat} {o:Option Nat} {xs:Array It} (h:Qu w Q lo o c xs T):Q<w.heap.size:=World.block_lt_of_cell? w _ h.q0
theorem Qu.owns {w:World} {Q lo c T:Nat} {o:Option Nat} {xs:Array It} (h:Qu w Q lo o c xs T):∃L,w.ownsRow lo 231 3 (.slice (Ao o) xs.size c) xs.size L∧CellsL L xs:=by
 cases o with
 | none =>
  obtain ⟨h1,h2⟩:=h.row
  have:xs=#[]:=Array.eq_empty_of_size_eq_zero h1
  subst this;subst h2
  exact ⟨[],World.ownsRow_nil _ _ _ _,CellsL.nil⟩
 | some G=>exact h.row.2.2.owns h.row.1
def PushE (w:World) (Q lo:Nat) (o:Option Nat) (ys:Array It) (T:Nat) (e:Ending) (w':World):Prop :=
 e=.returned (.tuple #[])∧∃G c,Qu w' Q lo (some G) c ys T∧(o=some G∨w.heap.size≤G)∧Fr w w' Q o
theorem ta_run (k t m:Int) (w:World):Sem.run Tryz.prog (Instr.typeAssert (.iface 231 (Iv k t m)) 20 231 false) w=.ok (Iv k t m) w:=by kernel_rfl
theorem info53:(Tryz.prog.info? 231).map (fun i=>(i.zero,i.size,i.bytes))=some (some (Iv 0 0 0),3,24):=by kernel_rfl
theorem pushE_of {w w3:World} {Q lo c T gg cap n:Nat} {o:Option Nat} {xs:Array It} {x:It} {ob:Obj} {L:List Value} (h:Qu w Q lo o c xs T) (hn:n=xs.size) (hL:CellsL L xs)
  (hown:w3.ownsRow lo 231 3 (.slice (some ⟨gg,0,none⟩) (n+1) cap) (n+1) (L++[.int .i64 x.key,.int .u64 x.turn,.int .i64 x.num]))
  (hgr:((w.alloc ob).drew).grownBy w3 (Value.slice (Ao o) n c).ownBlock) (hat:(Value.slice (Ao o) n c).ownBlock=some gg∨gg=(w.alloc ob).drew.heap.size) :
  PushE w Q lo o (xs.push x) T (.returned (.tuple #[])) (w3.setCell ⟨Q,0,none⟩ (.slice (some ⟨gg,0,none⟩) (n+1) cap)):=by
 subst hn
 have hq:=h.lt
 have hz:(w.alloc ob).drew.heap.size=w.heap.size+1:=by show (w.alloc ob).heap.size=_;simp
 have ja:∀k,(Value.slice (Ao o) xs.size c).ownBlock=some k→o=some k:=fun k hk=>by cases o <;> simp [Ao,Value.ownBlock] at hk ⊢;exact hk
 have xa:some Q≠(Value.slice (Ao o) xs.size c).ownBlock:=fun e=>by
  have h1:=ja Q e.symm
  subst h1
  exact h.row.2.1 rfl
 have ya:Q≠gg:=by
  rcases hat with e|e
  ·intro e2;subst e2;exact xa e.symm
  ·omega
 obtain ⟨hr,hlo⟩:=QRow.of_owns hown (xs:=xs.push x) (by simp) (hL.push x)
 have qa:(w.alloc ob).drew.heap[Q]?=w.heap[Q]?:=(below_alloc w ob).drew.block Q hq
 have ma:w3.heap[Q]?=w.heap[Q]?:=(hgr.block Q (by omega) xa).trans qa
 have n01:(⟨Q,0,none⟩:Addr)≠⟨Q,1,none⟩:=fun e=>by have:=congrArg Addr.off e;simp at this
 refine ⟨rfl,gg,cap,⟨?_,?_,?_,?_,hlo,ya,?_⟩,?_,?_⟩
 ·rw [World.cell?_setCell_same _ _ _ ((World.cell?_of_block ma).trans h.q0)];simp
 ·rw [World.cell?_setCell_other _ _ _ _ n01];exact (World.cell?_of_block ma).trans h.q1
 ·simpa using (World.frozen?_of_block (a:=⟨Q,0,none⟩) ma).trans h.f0
 ·simpa using (World.frozen?_of_block (a:=⟨Q,1,none⟩) ma).trans h.f1
 ·exact hr.of_block (Below.heap_setCell _ _ _ _ (fun e=>ya e.symm))
 ·rcases hat with e|e
  ·exact .inl (ja gg e)
  ·exact .inr (by omega)
 ·refine ⟨hgr.os,hgr.tape,hgr.output,?_,fun k hk hkQ hko=>?_⟩
  ·have:=hgr.size;simp [World.setCell];omega
  ·rw [Below.heap_setCell _ _ _ _ (fun e=>hkQ e),hgr.block k (by omega) (fun e=>hko (ja k e.symm))]
   exact (below_alloc w ob).drew.block k hk
theorem ipush_any (Q lo c T n:Nat) (o:Option Nat) (xs:Array It) (x:It) (w:World) (hlo:lo≤w.heap.size) (hn:n=xs.size) (hN:n≤1000000) (h:Qu w Q lo o c xs T) :
  Calls Tryz.prog 285 #[Pq Q,.iface 231 (Iv x.key x.turn x.num)] w (PushE w Q lo o (xs.push x) T):=by
 obtain ⟨i0,hi,hz0,hz1,hz2⟩:=info_parts info53
 obtain ⟨L,hown,hL⟩:=h.owns
 have ma:=h.q0
 have ja:=h.f0
 have hQ:=h.lt
 have qa:some Q≠(Value.slice (Ao o) n c).ownBlock:=fun e=>by
  cases o with
  | none=>simp [Value.ownBlock] at e
  | some G=>simp [Value.ownBlock] at e;exact h.row.2.1 e
 have Qb:=Qa qa
 have HF:=Qa (fun gg cap w3 ob a b d=>pushE_of (gg:=gg) (cap:=cap) (w3:=w3) (ob:=ob) (x:=x) h hn hL a b d)
 rw [←hn] at ma hown
 have HO:=Qa hown
 have HX:=Qa (show ∀j u,[Value.int .i64 x.key,.int .u64 x.turn,.int .i64 x.num][j]?=some u→((w.alloc (.cells #[.int .i64 x.key,.int .u64 x.turn,.int .i64 x.num] 231)).drew).cell? ((⟨w.heap.size,0,none⟩:Addr).add j)=some u from
  World.news_of_block (cs:=#[.int .i64 x.key,.int .u64 x.turn,.int .i64 x.num]) (t:=231) (fr:=(0,0)) (heap_alloc_new w _))
 generalize xs.push x=ys at HF ⊢
 clear hn h hown hL qa
 obtain ⟨xk,xt,xm⟩:=x
 dsimp only at HF HX ⊢
 have xa:=ta_run xk xt xm
 go_enter Tryz.func285,Tryz.ntmps285
 go_wp2_with fail
 go_region_law (refine step_append_lies _ (by rfl) _ _ _ (by rfl) lo 231 i0 _ 3 24 Tryz.underlying223 hi hz0 hz1 hz2 (by rfl) (by decide) _ n L (by rfl) ((HO.out.alloc _).drew) ⟨w.heap.size,0,none⟩ 1 1 [Value.int .i64 xk,.int .u64 xt,.int .i64 xm] (by rfl) (by rfl) HX.out (by intro u hu;simp at hu;rcases hu with rfl|rfl|rfl <;> rfl) (by omega) (by unfold maxLen;omega) (by omega) (by simp <;> omega) _ rfl ?_;intro gg cap w3 hown1 hgrow hat hlt3;have k0:=(hgrow.cell_far ⟨Q,0,none⟩ (by simp <;> omega) Qb.out).trans (((below_alloc w _).drew.cell (p:=⟨Q,0,none⟩) hQ).trans ma);have k1:=(hgrow.frozen_far ⟨Q,0,none⟩ (by simp <;> omega) Qb.out).trans (((below_alloc w _).drew.frozen (p:=⟨Q,0,none⟩) hQ).trans ja))
 all_goals (go_end0;exact HF.out _ _ _ _ hown1 hgrow hat)
theorem Fr.of_grown {w w':World} {Q G:Nat} (h:w.grownBy w' (some G)):Fr w w' Q (some G) :=
 ⟨h.os,h.tape,h.output,h.size,fun k hk _ ho=>h.block k hk (fun e=>ho e.symm)⟩
theorem Fr.trans {w w1 w2:World} {Q:Nat} {o o1:Option Nat} (h:Fr w w1 Q o) (h':Fr w1 w2 Q o1) (ho:∀k,o1=some k→o=some k∨w.heap.size≤k):Fr w w2 Q o :=
 ⟨h'.os.trans h.os,h'.tape.trans h.tape,h'.output.trans h.output,Nat.le_trans h.size h'.size,fun k hk hQ hk2 =>
  (h'.block k (Nat.lt_of_lt_of_le hk h.size) hQ (fun e=>by rcases ho k e with e|e;exact hk2 e;omega)).trans (h.block k hk hQ hk2)⟩
theorem Fr.below {w w':World} {Q:Nat} {o:Option Nat} (h:Below w.heap.size w w'):Fr w w' Q o:=⟨h.os,h.tape,h.output,h.size,fun k hk _ _=>h.block k hk⟩
theorem Qu.hp {w:World} {Q lo c T G:Nat} {xs:Array It} (h:Qu w Q lo (some G) c xs T):Hp w Q G c xs:=⟨h.row.2.2,h.q0,h.row.2.1⟩
theorem Qu.heap {w w':World} {Q lo c T G:Nat} {xs ys:Array It} (h:Qu w Q lo (some G) c xs T) (hp:Hp w' Q G c ys) (hg:w.grownBy w' (some G)):Qu w' Q lo (some G) c ys T:=by
 have hb:w'.heap[Q]?=w.heap[Q]?:=hg.block Q h.lt (fun e=>h.row.2.1 (by injection e))
 exact ⟨hp.cell,(World.cell?_of_block hb).trans h.q1,(World.frozen?_of_block (a:=⟨Q,0,none⟩) hb).trans h.f0,(World.frozen?_of_block (a:=⟨Q,1,none⟩) hb).trans h.f1,h.row.1,h.row.2.1,hp.row⟩
theorem hpush_any (Q lo c T n:Nat) (o:Option Nat) (xs:Array It) (x:It) (w:World) (hlo:lo≤w.heap.size) (hn:n=xs.size) (hN:n≤900000) (h:Qu w Q lo o c xs T) :
  Calls Tryz.prog 157 #[.iface 229 (Pq Q),.iface 231 (Iv x.key x.turn x.num)] w (PushE w Q lo o (up (xs.push x) n) T):=by
 have E54:=e54
 have E49:=e49
 unfold Enters at E54 E49
 have hm:=m_push Q
 have HC:=Qa (ipush_any Q lo c T n o xs x w hlo hn (by omega) h)
 have HS:=Qa (show (xs.push x).size=n+1 by simp [hn])
 generalize hys:xs.push x=ys at *
 clear hys hn h
 obtain ⟨xk,xt,xm⟩:=x
 dsimp only at HC ⊢
 go_enter Tryz.func157,Tryz.ntmps157
 go_wp2_with fail
 refine HC.out.mono ?_
 rintro e w1 ⟨rfl,G,c1,hq,ho,hfr⟩
 have HQ:=Qa hq
 have hl:=m_len Q w1 _ hq.q0
 rw [HS.out] at hl
 have HU:=Qa (up_any Q G c1 (n+1) n ys w1 HS.out.symm (by omega) (by omega) hq.hp)
 have HL:=Qa (len_any (Ao (some G)) (n+1) c1)
 clear hq HC
 go_wp2_with fail
 refine (HL.out _).mono ?_
 rintro e w1' ⟨rfl,rfl⟩
 go_wp2_with fail
 refine HU.out.mono ?_
 rintro e w2 ⟨rfl,hp,hg⟩
 have HR:=Qa (show PushE w Q lo o (up ys n) T (.returned (.tuple #[])) w2 from ⟨rfl,G,c1,HQ.out.heap hp hg,ho,hfr.trans (Fr.of_grown hg) (fun k e=>by injection e with e;subst e;exact ho)⟩)
 clear hp hg hfr ho
 go_wp2_with fail
 go_end0
 exact HR.out
theorem qpushE_of {w w2:World} {Q lo T:Nat} {o:Option Nat} {ys:Array It} (h:PushE w Q lo o ys T (.returned (.tuple #[])) w2) :
  PushE w Q lo o ys (T+1) (.returned (.tuple #[])) (w2.setCell ⟨Q,1,none⟩ (.int .u64 ((T:Int)+1))):=by
 obtain ⟨_,G,c',hq,ho,hf⟩:=h
 have n01:(⟨Q,1,none⟩:Addr)≠⟨Q,0,none⟩:=fun e=>by have:=congrArg Addr.off e;simp at this
 refine ⟨rfl,G,c',⟨?_,?_,by simpa using hq.f0,by simpa using hq.f1,hq.row.1,hq.row.2.1,hq.row.2.2.of_block (Below.heap_setCell _ _ _ _ (fun e=>hq.row.2.1 e.symm))⟩,ho,?_⟩
 ·rw [World.cell?_setCell_other _ _ _ _ n01];exact hq.q0
 ·exact (World.cell?_setCell_same _ _ _ hq.q1).trans (by simp)
 ·exact ⟨hf.os,hf.tape,hf.output,by have:=hf.size;simpa [World.setCell] using this,fun k hk hQ hk2=>by rw [Below.heap_setCell _ _ _ _ (fun e=>hQ e)];exact hf.block k hk hQ hk2⟩
theorem Qu.below {w w':World} {Q lo c T:Nat} {o:Option Nat} {xs:Array It} (h:Qu w Q lo o c xs T) (hb:Below w.heap.size w w'):Qu w' Q lo o c xs T:=by
 have hl:=h.lt
 refine ⟨(hb.cell (p:=⟨Q,0,none⟩) hl).trans h.q0,(hb.cell (p:=⟨Q,1,none⟩) hl).trans h.q1,(hb.frozen (p:=⟨Q,0,none⟩) hl).trans h.f0,(hb.frozen (p:=⟨Q,1,none⟩) hl).trans h.f1,?_⟩
 cases o with
 | none=>exact h.row
 | some G=>exact ⟨h.row.1,h.row.2.1,h.row.2.2.of_block (hb.block _ h.row.2.2.lt)⟩
theorem pushE_base {w W w2:World} {Q lo T:Nat} {o:Option Nat} {ys:Array It} {e:Ending} (hb:Below w.heap.size w W) (h:PushE W Q lo o ys T e w2):PushE w Q lo o ys T e w2:=by
 obtain ⟨he,G,c',hq,ho,hf⟩:=h
 exact ⟨he,G,c',hq,ho.imp id (fun h=>Nat.le_trans hb.size h),(Fr.below hb).trans hf (fun k e=>.inl e)⟩
theorem pushE_turns {w w2:World} {Q lo T:Nat} {o:Option Nat} {ys:Array It} {e:Ending} (h:PushE w Q lo o ys T e w2):w2.cell? ⟨Q,1,none⟩=some (.int .u64 T)∧w2.frozen? ⟨Q,1,none⟩=false:=by
 obtain ⟨he,G,c',hq,ho,hf⟩:=h
 exact ⟨hq.q1,hq.f1⟩
theorem qpush_any (Q lo c T n:Nat) (o:Option Nat) (xs:Array It) (k m:Int) (w:World) (hlo:lo≤w.heap.size) (hn:n=xs.size) (hN:n≤900000) (hT:T≤900000) (h:Qu w Q lo o c xs T) :
  Calls Tryz.prog 91 #[Pq Q,.int .i64 k,.int .i64 m] w (PushE w Q lo o (up (xs.push ⟨k,T,m⟩) n) (T+1)):=by
 have HC:=Qa (fun W (hb:Below w.heap.size w W)=>(hpush_any Q lo c T n o xs ⟨k,T,m⟩ W (Nat.le_trans hlo hb.size) hn hN (h.below hb)).mono fun _ _ hE=>pushE_base hb hE)
 have q0:=h.q0
 have q1:=h.q1
 have hQ:=h.lt
 generalize up (xs.push ⟨k,T,m⟩) n=ys at *
 have HF:=Qa (fun w2 (hE:PushE w Q lo o ys T (.returned (.tuple #[])) w2)=>qpushE_of hE)
 dsimp only at HC
 clear hn h
 go_enter Tryz.func91,Tryz.ntmps91
 go_wp2_with fail
 go_cut [18] (fun v wx=>PushE w Q lo o ys T (.returned (.tuple #[])) wx)
 case first =>
  go_region_with ((go_at_call 157;refine (HC.out _ (Below.refl _ _).drew).mono ?_;rintro e w2 hE;obtain ⟨rfl,hE2⟩:=id hE))
  all_goals (go_wp2_with fail;go_meet;case rel=>exact hE)
 case rest =>
  obtain ⟨t0,t1⟩:=pushE_turns hcut
  have Qb:=Qa hcut
  clear hcut HC q0 q1
  go_wp2_with fail
  go_end0
  exact HF.out _ Qb.out
def ToldE (w:World) (k m:Int) (e:Ending) (w':World):Prop:=e=.returned (.tuple #[.int .i64 k,.int .i64 m,.bool true])∧Below w.heap.size w w'
theorem told_any (k t m:Int) (w:World):Calls Tryz.prog 159 #[Iv k t m] w (ToldE w k m):=by
 have hb:=below_alloc w (.cells #[.int .i64 k,.int .u64 t,.int .i64 m] 231)
 go_enter Tryz.func159,Tryz.ntmps159
 go_wp2_with fail
 go_quiet (fail)
 go_wp2_with fail
 go_ret3
 exact ⟨rfl,below_step hb ⟨rfl,rfl,rfl,Nat.le_refl _,fun _ _=>rfl⟩⟩
theorem ta_item (k t m:Int) (w:World):Sem.run Tryz.prog (Instr.typeAssert (.iface 231 (.agg #[.int .i64 k,.int .u64 t,.int .i64 m])) 20 231 false) w=.ok (.agg #[.int .i64 k,.int .u64 t,.int .i64 m]) w:=by kernel_rfl
theorem g_pop (xs:Array It) (k:Nat) (hk:k<xs.size - 1):g xs.pop k=g xs k:=by
 rw [g_get (by simp;omega),g_get (by omega)];simp
theorem QRow.pop {w:World} {G c:Nat} {xs:Array It} (h:QRow w G c xs):QRow w G c xs.pop:=by
 obtain ⟨h1,h2,f,hf,hc⟩:=h
 exact ⟨by simp;omega,h2,f,hf,fun i hi=>by rw [g_pop xs i (by simpa using hi)];exact hc i (by simp at hi;omega)⟩
def PopE (w:World) (Q lo G c T:Nat) (x:It) (ys:Array It) (e:Ending) (w':World):Prop :=
 e=.returned (.iface 231 (Iv x.key x.turn x.num))∧Qu w' Q lo (some G) c ys T∧Fr w w' Q (some G)
theorem popE_of {w:World} {Q lo G c T n:Nat} {xs:Array It} (h:Qu w Q lo (some G) c xs T) (hn:xs.size=n+1) (ob:Obj) :
  PopE w Q lo G c T (g xs n) xs.pop (.returned (.iface 231 (Iv (g xs n).key (g xs n).turn (g xs n).num))) ((w.setCell ⟨Q,0,none⟩ (.slice (some ⟨G,0,none⟩) n c)).alloc ob):=by
 have n01:(⟨Q,0,none⟩:Addr)≠⟨Q,1,none⟩:=fun e=>by have:=congrArg Addr.off e;simp at this
 have h1:Qu (w.setCell ⟨Q,0,none⟩ (.slice (some ⟨G,0,none⟩) n c)) Q lo (some G) c xs.pop T:=by
  refine ⟨?_,?_,by simpa using h.f0,by simpa using h.f1,h.row.1,h.row.2.1,(h.row.2.2.of_block (Below.heap_setCell _ _ _ _ (fun e=>h.row.2.1 e.symm))).pop⟩
  ·rw [World.cell?_setCell_same _ _ _ h.q0];simp [hn]
  ·rw [World.cell?_setCell_other _ _ _ _ n01];exact h.q1
 have h2:Fr w (w.setCell ⟨Q,0,none⟩ (.slice (some ⟨G,0,none⟩) n c)) Q (some G) :=
  ⟨rfl,rfl,rfl,by simp [World.setCell],fun k hk hQ _=>by rw [Below.heap_setCell _ _ _ _ (fun e=>hQ e)]⟩
 exact ⟨rfl,h1.below (below_alloc _ _),h2.trans (Fr.below (below_alloc _ _)) (fun k e=>.inl e)⟩
theorem ipop_any (Q lo c T n G:Nat) (xs:Array It) (w:World) (hn:xs.size=n+1) (hN:n≤1000000) (h:Qu w Q lo (some G) c xs T) :
  Calls Tryz.prog 284 #[Pq Q] w (PopE w Q lo G c T (g xs n) xs.pop):=by
 have q0:=h.q0
 have qf:=h.f0
 have hQ:=h.lt
 have ma:=h.row.2.2.1
 rw [hn] at q0 ma
 have ha:=h.row.2.2.at_ (i:=n) (by omega)
 have HE:=Qa (fun ob=>popE_of h hn ob)
 generalize g xs n=x at *
 obtain ⟨xk,xt,xm⟩:=x
 have f0:=ha.k
 have f1:=ha.t
 have f2:=ha.m
 dsimp only at f0 f1 f2 HE
 have qa:((n:Int)+1 - 1)=n:=by omega
 generalize xs.pop=ys at *
 clear hn h ha
 go_enter Tryz.func284,Tryz.ntmps284
 go_wp2_with fail
 go_ret
 exact HE.out _
theorem hpop_any (Q lo c T n G:Nat) (xs:Array It) (w:World) (hn:xs.size=n+1) (hN:n≤900000) (h:Qu w Q lo (some G) c xs T) :
  Calls Tryz.prog 158 #[.iface 229 (Pq Q)] w (PopE w Q lo G c T (g (down (swp xs 0 n) 0 n) n) (down (swp xs 0 n) 0 n).pop):=by
 have E49:=e49
 have E51:=e51
 have E53:=e53
 unfold Enters at E49 E51 E53
 have hl:=m_len Q w _ h.q0
 have hs:=m_swap Q w _ h.q0
 rw [hn] at hl hs
 have hp:=m_pop Q
 have HS:=Qa (swap_any G c (n+1) 0 n xs w hn.symm (by omega) (by omega) h.row.2.2 (by omega))
 have HD:=Qa (fun W hW=>down_any Q G c (n+1) 0 n (swp xs 0 n) W (by rw [size_swp];exact hn.symm) (by omega) (by omega) (by omega) hW)
 have HZ:=Qa (show (down (swp xs 0 n) 0 n).size=n+1 by
  have:=(down_ok (swp xs 0 n) n n 0 (by rw [size_swp];omega) (fun k hk h0 h1=>by omega) (fun k hk h0 h1=>by omega)).2.2.1
  rw [this,size_swp];exact hn)
 have HH:=Qa h
 have Qb:=Qa (len_any (Ao (some G)) (n+1) c w)
 have Qd:=Qa (size_swp xs 0 n)
 generalize swp xs 0 n=ys at *
 generalize down ys 0 n=zs at *
 clear hn h
 go_enter Tryz.func158,Tryz.ntmps158
 go_wp2_with fail
 refine Qb.out.mono ?_
 rintro e w' ⟨rfl,rfl⟩
 go_wp2_with fail
 refine HS.out.mono ?_
 rintro e w1 hs1
 obtain ⟨rfl,hs2,hg1⟩:=id hs1
 have ma:=HH.out.hp.swap hs1 Qd.out
 have Qe:=Qa (HH.out.heap ma hg1)
 have Qc:=Qa (HD.out w1 ma)
 have Qf:=Qa (Fr.of_grown (Q:=Q) hg1)
 clear hs1 hs2 hg1 ma hl hs Qb HS HD
 go_wp2_with fail
 refine Qc.out.mono ?_
 rintro e w2 ⟨⟨b,rfl⟩,hp2,hg2⟩
 have Qg:=Qa (Qe.out.heap hp2 hg2)
 have Qh:=Qa (Qf.out.trans (Fr.of_grown hg2) (fun k e=>.inl e))
 have HP:=Qa (ipop_any Q lo c T n G zs w2 HZ.out (by omega) Qg.out)
 clear hp2 hg2 Qc
 go_wp2_with fail
 refine HP.out.mono ?_
 rintro e w3 ⟨rfl,hq3,hf3⟩
 have HR:=Qa (show PopE w Q lo G c T (g zs n) zs.pop (.returned (.iface 231 (Iv (g zs n).key (g zs n).turn (g zs n).num))) w3 from ⟨rfl,hq3,Qh.out.trans hf3 (fun k e=>.inl e)⟩)
 clear hq3 hf3 HP
 go_wp2_with fail
 go_ret
 exact HR.out
def QPopE (w:World) (Q lo:Nat) (o:Option Nat) (T:Nat) (xs:Array It) (e:Ending) (w':World):Prop :=
 (xs.size=0∧e=.returned (.tuple #[.int .i64 0,.int .i64 0,.bool false])∧w=w') ∨
 ∃n G c',xs.size=n+1∧o=some G∧e=.returned (.tuple #[.int .i64 (g (down (swp xs 0 n) 0 n) n).key,.int .i64 (g (down (swp xs 0 n) 0 n) n).num,.bool true]) ∧
  Qu w' Q lo o c' (down (swp xs 0 n) 0 n).pop T∧Fr w w' Q o
theorem qpop_any (Q lo c T:Nat) (o:Option Nat) (xs:Array It) (w:World) (hN:xs.size≤900000) (h:Qu w Q lo o c xs T) :
  Calls Tryz.prog 95 #[Pq Q] w (QPopE w Q lo o T xs):=by
 have q0:=h.q0
 rcases Nat.eq_zero_or_pos xs.size with h0|h0
 ·rw [h0] at q0
  have HE:=Qa (show QPopE w Q lo o T xs (.returned (.tuple #[.int .i64 0,.int .i64 0,.bool false])) w from .inl ⟨h0,rfl,rfl⟩)
  clear h h0
  go_enter Tryz.func95,Tryz.ntmps95
  go_wp2_with fail
  go_ret3
  exact HE.out
 ·cases o with
  | none=>have:=h.row.1;omega
  | some G =>
   obtain ⟨n,hn⟩:∃n,xs.size=n+1:=⟨xs.size - 1,by omega⟩
   rw [hn] at q0
   have HP:=Qa (hpop_any Q lo c T n G xs w hn (by omega) h)
   have HE:=Qa (fun (w1 w':World) (hq:Qu w1 Q lo (some G) c (down (swp xs 0 n) 0 n).pop T) (hf:Fr w w1 Q (some G)) (hb:Below w1.heap.size w1 w') =>
    (show QPopE w Q lo (some G) T xs (.returned (.tuple #[.int .i64 (g (down (swp xs 0 n) 0 n) n).key,.int .i64 (g (down (swp xs 0 n) 0 n) n).num,.bool true])) w' from
     .inr ⟨n,G,c,hn,rfl,rfl,hq.below hb,hf.trans (Fr.below hb) (fun k e=>.inl e)⟩))
   generalize (down (swp xs 0 n) 0 n).pop=ys at *
   generalize g (down (swp xs 0 n) 0 n) n=x at *
   obtain ⟨xk,xt,xm⟩:=x
   dsimp only at HE
   have ma:=ta_item xk xt xm
   have qa:((n:Int)+1 == 0)=false:=by simp;omega
   clear h hn h0
   go_enter Tryz.func95,Tryz.ntmps95
   go_wp2_with fail
   refine HP.out.mono ?_
   rintro e w1 ⟨rfl,hq,hf⟩
   have HT:=Qa (fun W=>told_any xk xt xm W)
   have HQ:=Qa hq
   have Qb:=Qa hf
   clear hq hf HP
   go_wp2_with fail
   refine (HT.out _).mono ?_
   rintro e w2 ⟨rfl,hb⟩
   have HB:=Qa (below_step (below_alloc _ _) hb)
   clear hb HT
   go_wp2_with fail
   go_ret3
   exact HE.out _ _ HQ.out Qb.out HB.out
theorem Fr.refl (w:World) (Q:Nat) (o:Option Nat):Fr w w Q o:=⟨rfl,rfl,rfl,Nat.le_refl _,fun _ _ _ _=>rfl⟩
theorem new_any (w:World) (lo:Nat) (hlo:lo≤w.heap.size):Calls Tryz.prog 89 #[] w (fun e w'=>∃ob,e=.returned (Pq w.heap.size)∧Qu w' w.heap.size lo none 0 #[] 0∧w'=w.alloc ob):=by
 have HQ:=Qa (show Qu (w.alloc (.cells #[.slice none 0 0,.int .u64 0] 225)) w.heap.size lo none 0 #[] 0 from ⟨by simp,by simp,by simp,by simp,⟨rfl,rfl⟩⟩)
 go_enter Tryz.func89,Tryz.ntmps89
 go_wp2_with fail
 go_ret
 exact ⟨_,rfl,HQ.out,rfl⟩
theorem Qu.old {w:World} {Q lo c T:Nat} {o:Option Nat} {xs:Array It} (h:Qu w Q lo o c xs T):∀G,o=some G→G<w.heap.size:=by
 intro G e;subst e;exact h.row.2.2.lt
end qu
end Go.Proofs.YtgoddboicjfkcaaGreat
