/- Contracts and mathematics, part 8. -/
import Derived.Test.YtgoddboicjfkcaaGreatZ07
set_option linter.unusedVariables false
set_option linter.unusedSimpArgs false
set_option maxRecDepth 100000
set_option maxHeartbeats 8000000
namespace Go.Proofs.YtgoddboicjfkcaaGreat
namespace br
open Go.RowKit
open dn (En lget lset ldel nerr dotB Sorted lget_some lget_none ldel_mem ldel_sorted lset_mem lset_sorted sorted_ext names_inj)
open bl (AB cut cutR cutB readR WR wr)
theorem ldel_lset {s:ByteArray} {v:Int} {L:List En} (h:Sorted L) (hn:lget s L=none):ldel s (lset s v L)=L:=by
 refine sorted_ext (ldel_sorted (lset_sorted h)) h fun e=>?_
 rw [ldel_mem,lset_mem h]
 constructor
 ·rintro ⟨h1|h1,h2⟩
  ·subst h1;exact absurd rfl h2
  ·exact h1.1
 ·intro he
  have h1:=lget_none.1 hn e he
  exact ⟨.inr ⟨he,h1⟩,h1⟩
theorem lget_lset {s:ByteArray} {v:Int} {L:List En} (h:Sorted L):lget s (lset s v L)=some v:=(lget_some (lset_sorted h)).2 ((lset_mem h _).2 (.inl rfl))
theorem lget_lset_other {s u:ByteArray} {v:Int} {L:List En} (h:Sorted L) (hn:s≠u):lget s (lset u v L)=lget s L:=by
 cases hg:lget s L with
 | none =>
  refine lget_none.2 fun e he=>?_
  rcases (lset_mem h e).1 he with rfl|h1
  ·exact fun e1=>hn e1.symm
  ·exact lget_none.1 hg e h1.1
 | some w=>exact (lget_some (lset_sorted h)).2 ((lset_mem h _).2 (.inr ⟨(lget_some h).1 hg,hn⟩))
theorem BS.ext' {S S':BS} (h1:∀k,S.ino k=S'.ino k) (h2:S.used=S'.used):S=S':=by
 obtain ⟨f,u⟩:=S
 obtain ⟨g,v⟩:=S'
 obtain rfl:f=g:=funext h1
 obtain rfl:u=v:=h2
 rfl
theorem made_gone {S S1 S2:BS} {room D I:Nat} {s:ByteArray} (h:Inv S room) (hz:(S.ino I).kind=0) (hne:I≠D) (hn:lget s (S.ino D).dir=none)
  (a1:∀k,k≠D→k≠I→S1.ino k=S.ino k) (a2:S1.ino D={ S.ino D with dir:=lset s I (S.ino D).dir }) (a3:S1.used=S.used+(S1.ino I).body.n) (a4:(S1.ino I).links=1∧(S1.ino I).holds=0) (d:Drop S1 S2 D I s):S2=S:=by
 refine BS.ext' (fun k=>?_) ?_
 ·by_cases e1:k=I
  ·subst e1
   rcases d.ino with ⟨h1,_⟩|⟨_,h1,_⟩
   ·rw [h1,h.none k hz]
   ·omega
  ·by_cases e2:k=D
   ·subst e2
    have e3:(S1.ino k).dir=lset s I (S.ino k).dir:=by rw [a2]
    rw [d.dir,e3,ldel_lset (h.sorted k) hn,a2]
   ·rw [d.oth k e2 e1,a1 k e2 e1]
 ·rcases d.ino with ⟨_,_,_,h1⟩|⟨_,h1,_⟩
  ·rw [h1,a3];omega
  ·omega
end br
namespace mg
open Go.RowKit
open dn (En lget lset ldel nerr dotB Sorted lessB)
open br (BS Ino Inv)
abbrev Nd:=Int×Int
def opq (U:BS) (u:Int):Bool:=decide (U.marksOf u % 2=1)
def kindV (U L:BS) (n:Nd):Int:=if (if n.1≠0 then U.kindOf n.1 else L.kindOf n.2)=4 then 0 else (if n.1≠0 then U.kindOf n.1 else L.kindOf n.2)
def lstV (U L:BS) (n:Nd):Int:=if kindV U L n=0 then 2 else if kindV U L n=2 then 0 else 20
def belV (U:BS) (n:Nd):Int:=if opq U n.1=true then 0 else n.2
def seenV (U L:BS) (p:Nd):Nd :=
 if U.kindOf p.1=0 then (if L.kindOf p.2=4 then (0,0) else (0,p.2))
 else if U.kindOf p.1=4 then (0,0)
 else if U.kindOf p.1=2∧L.kindOf p.2=2∧opq U p.1=false then p else (p.1,0)
def pairV (U L:BS) (n:Nd) (s:ByteArray):Nd:=((U.get n.1 s).1,(L.get (belV U n) s).1)
def getV (U L:BS) (n:Nd) (s:ByteArray):Nd×Int :=
 if lstV U L n≠0 then ((0,0),lstV U L n)
 else if seenV U L (pairV U L n s)=(0,0) then ((0,0),2) else (seenV U L (pairV U L n s),0)
def rootV (U L:BS) (u l:Int):Nd :=
 ((if U.kindOf u=2 then u else 0),(if L.kindOf l=2∧opq U (if U.kindOf u=2 then u else 0)=false then l else 0))
structure AllV (U L:BS) (n:Nd) (l:List ByteArray):Prop where
 rise:l.Pairwise fun a b=>lessB a b=true
 mem:∀s,s∈l↔(getV U L n s).2=0
theorem rise_ext:∀ {l k:List ByteArray},(l.Pairwise fun a b=>lessB a b=true)→(k.Pairwise fun a b=>lessB a b=true)→(∀s,s∈l↔s∈k)→l=k
 | [],[],_,_,_=>rfl
 | [],b::k,_,_,h=>absurd ((h b).2 (List.mem_cons_self)) (by simp)
 | a::l,[],_,_,h=>absurd ((h a).1 (List.mem_cons_self)) (by simp)
 | a::l,b::k,hl,hk,h=>by
  have hl':=List.pairwise_cons.1 hl
  have ma:=List.pairwise_cons.1 hk
  have e:a=b:=by
   rcases List.mem_cons.1 ((h a).1 List.mem_cons_self) with e|e
   ·exact e
   ·rcases List.mem_cons.1 ((h b).2 List.mem_cons_self) with e2|e2
    ·exact e2.symm
    ·have h1:=ma.1 a e
     have h2:=hl'.1 b e2
     rw [dn.less_asymm h1] at h2
     cases h2
  subst e
  have:l=k:=rise_ext hl'.2 ma.2 fun s=>by
   have hs:=h s
   simp only [List.mem_cons] at hs
   refine ⟨fun e=>?_,fun e=>?_⟩
   ·rcases hs.1 (.inr e) with e2|e2
    ·subst e2;exact absurd rfl (dn.less_ne (hl'.1 s e))
    ·exact e2
   ·rcases hs.2 (.inr e) with e2|e2
    ·subst e2;exact absurd rfl (dn.less_ne (ma.1 s e))
    ·exact e2
  rw [this]
theorem AllV.uniq {U L U' L':BS} {n n':Nd} {l k:List ByteArray} (h:AllV U L n l) (h':AllV U' L' n' k) (he:∀s,(getV U L n s).2=0↔(getV U' L' n' s).2=0):l=k :=
 rise_ext h.rise h'.rise fun s=>(h.mem s).trans ((he s).trans (h'.mem s).symm)
theorem AllV.same {U L:BS} {n:Nd} {l k:List ByteArray} (h:AllV U L n l) (h':AllV U L n k):l=k:=h.uniq h' fun _=>Iff.rfl
theorem getV_lst {U L:BS} {n:Nd} {s:ByteArray} (h:lstV U L n≠0):getV U L n s=((0,0),lstV U L n):=by unfold getV;rw [Jb h]
theorem AllV.none {U L:BS} {n:Nd} (h:lstV U L n≠0):AllV U L n []:=⟨List.Pairwise.nil,fun s=>by rw [getV_lst h];simp [h]⟩
theorem AllV.nil_of {U L:BS} {n:Nd} {l:List ByteArray} (h:AllV U L n l) (hl:lstV U L n≠0):l=[]:=h.same (AllV.none hl)
theorem lst_cases (U L:BS) (n:Nd):(lstV U L n=2∧kindV U L n=0)∨(lstV U L n=0∧kindV U L n=2)∨(lstV U L n=20∧kindV U L n≠0∧kindV U L n≠2):=by
 unfold lstV
 by_cases h1:kindV U L n=0
 ·rw [Jb h1];exact .inl ⟨rfl,h1⟩
 ·rw [Ja h1]
  by_cases h2:kindV U L n=2
  ·rw [Jb h2];exact .inr (.inl ⟨rfl,h2⟩)
  ·rw [Ja h2];exact .inr (.inr ⟨rfl,h1,h2⟩)
section
variable {S:BS} {room:Nat}
theorem get_cases (hI:Inv S room) (d:Int) (s:ByteArray):((S.get d s).2≠0∧(S.get d s).1=0)∨((S.get d s).2=0∧(∃D:Nat,d=(D:Int)∧(S.ino D).kind=2∧∃I:Nat,lget s (S.ino D).dir=some (I:Int)∧(S.get d s).1=(I:Int)∧1≤I∧S.isI (I:Int)=true∧(S.ino I).kind≠0)):=by
 by_cases h:(S.get d s).2=0
 ·refine .inr ⟨h,?_⟩
  obtain ⟨D,e,h1,h2,h3,h4⟩:=br.get_ok h
  obtain ⟨k1,k2,I,e2,h5⟩:=hI.lead h4
  rw [e2] at h4
  refine ⟨D,e,h3,I,h4,e2,?_⟩
  obtain ⟨i1,i2,i3,i4,i5⟩:=h5
  refine ⟨i1,?_,?_⟩
  ·unfold BS.isI
   rw [br.at_nat,decide_eq_true_eq]
   exact ⟨by omega,by omega,i5⟩
  ·exact i5
 ·refine .inl ⟨h,?_⟩
  unfold BS.get at h ⊢
  split
  ·rfl
  ·rename_i h1
   rw [Ja h1] at h
   cases e:lget s (S.at d).dir with
   | none=>rfl
   | some v=>rw [e] at h;exact absurd rfl h
theorem kind_zero (S:BS):S.kindOf 0=0:=by unfold BS.kindOf BS.isI;simp
theorem marks_zero (S:BS):S.marksOf 0=0:=by unfold BS.marksOf BS.isI;simp
theorem opq_zero (S:BS):opq S 0=false:=by unfold opq;rw [marks_zero];rfl
theorem isI_kind {i:Int} (h:S.isI i=true):S.kindOf i=(S.at i).kind∧(S.at i).kind≠0:=by
 unfold BS.kindOf
 rw [Jb h]
 refine ⟨rfl,?_⟩
 unfold BS.isI at h
 rw [decide_eq_true_eq] at h
 exact h.2.2
theorem get_zero (hI:Inv S room) (d:Int) (s:ByteArray):(S.get d s).1=0↔(S.get d s).2≠0:=by
 rcases get_cases hI d s with ⟨h1,h2⟩|⟨h1,D,_,_,I,_,h3,h4,_⟩
 ·exact ⟨fun _=>h1,fun _=>h2⟩
 ·exact ⟨fun e=>by omega,fun e=>absurd h1 e⟩
theorem get_kind (hI:Inv S room) (d:Int) (s:ByteArray):S.kindOf (S.get d s).1=0↔(S.get d s).1=0:=by
 rcases get_cases hI d s with ⟨h1,h2⟩|⟨h1,D,_,_,I,_,h3,h4,h5,_⟩
 ·rw [h2,kind_zero]
 ·rw [h3]
  exact ⟨fun e=>absurd ((isI_kind h5).1.symm.trans e) (isI_kind h5).2,fun e=>by omega⟩
theorem get_none (d:Int) (s:ByteArray) (h:S.dirE d false≠0):S.get d s=(0,S.dirE d false):=by unfold BS.get;rw [Jb h]
theorem dirE_kind (d:Int):S.dirE d false=if S.kindOf d=0 then 2 else if S.kindOf d=2 then 0 else 20:=by
 unfold BS.dirE BS.kindOf
 cases h:S.isI d with
 | false=>simp
 | true =>
  have:=(isI_kind h).2
  by_cases h2:(S.at d).kind=2
  ·simp [h2]
  ·simp [h2,this]
end
end mg
namespace mg
open Go.RowKit
open dn (En lget lset ldel nerr dotB Sorted lessB)
open br (BS Ino Inv fresh)
section
variable {S U L:BS} {room room2:Nat}
theorem seen_none {u l:Int} (h:U.kindOf u=0):seenV U L (u,l)=if L.kindOf l=4 then (0,0) else (0,l):=by unfold seenV;dsimp only;rw [Jb h]
theorem seen_white {u l:Int} (h:U.kindOf u=4):seenV U L (u,l)=(0,0):=by unfold seenV;dsimp only;rw [h,Ja (by decide),Jb rfl]
theorem seen_both {u l:Int} (h:U.kindOf u=2) (h1:L.kindOf l=2) (h2:opq U u=false):seenV U L (u,l)=(u,l):=by unfold seenV;dsimp only;rw [Ja (by rw [h];decide),Ja (by rw [h];decide),Jb ⟨h,h1,h2⟩]
theorem seen_up {u l:Int} (h:U.kindOf u≠0) (h4:U.kindOf u≠4) (h2:¬(U.kindOf u=2∧L.kindOf l=2∧opq U u=false)):seenV U L (u,l)=(u,0):=by unfold seenV;dsimp only;rw [Ja h,Ja h4,Ja h2]
theorem ne_up {u l:Int} (h:u≠0):((u,l):Nd)≠(0,0):=fun e=>h (congrArg Prod.fst e)
theorem ne_low {u l:Int} (h:l≠0):((u,l):Nd)≠(0,0):=fun e=>h (congrArg Prod.snd e)
theorem get_at_zero (S:BS) (s:ByteArray):S.get 0 s=(0,2):=by
 rw [get_none 0 s (by rw [dirE_kind,kind_zero];decide),dirE_kind,kind_zero];rfl
structure Down (U L:BS) (n x:Nd) (s:ByteArray):Prop where
 some:x≠(0,0)
 kind:kindV U L x≠0
 up:x.1≠0→U.get n.1 s=(x.1,0)
 low:x.2≠0→L.get n.2 s=(x.2,0)
 both:x.1≠0→x.2≠0→U.kindOf x.1=2∧L.kindOf x.2=2
theorem get_down (hU:Inv U room) (hL:Inv L room2) (n:Nd) (s:ByteArray) (h:(getV U L n s).2=0):Down U L n (getV U L n s).1 s:=by
 have qa:lstV U L n=0:=Classical.byContradiction fun e=>by rw [getV_lst e] at h;exact e h
 unfold getV at h ⊢
 rw [Ja (by rw [qa];decide)] at h ⊢
 by_cases hz:seenV U L (pairV U L n s)=(0,0)
 ·rw [Jb hz] at h;exact absurd h (by decide)
 ·rw [Ja hz]
  dsimp only
  have ma:∀l:Int,l=(L.get (belV U n) s).1→l≠0→L.get n.2 s=(l,0)∧L.kindOf l≠0:=fun l e hl=>by
   have hb:belV U n=n.2:=by
    unfold belV
    by_cases ho:opq U n.1=true
    ·exfalso
     unfold belV at e
     rw [Jb ho,get_at_zero] at e
     exact hl e
    ·rw [Ja ho]
   rw [hb] at e
   have h2:(L.get n.2 s).2=0:=Classical.byContradiction fun e2=>hl (by rw [e];exact (get_zero hL _ _).2 e2)
   refine ⟨by rw [e,←h2],fun e3=>hl ?_⟩
   rw [e] at e3 ⊢
   exact (get_kind hL _ _).1 e3
  have ja:∀u:Int,u=(U.get n.1 s).1→u≠0→U.get n.1 s=(u,0)∧U.kindOf u≠0:=fun u e hu=>by
   have h2:(U.get n.1 s).2=0:=Classical.byContradiction fun e2=>hu (by rw [e];exact (get_zero hU _ _).2 e2)
   refine ⟨by rw [e,←h2],fun e3=>hu ?_⟩
   rw [e] at e3 ⊢
   exact (get_kind hU _ _).1 e3
  unfold pairV at hz ⊢
  obtain ⟨u,eu⟩:∃u,(U.get n.1 s).1=u:=⟨_,rfl⟩
  obtain ⟨l,el⟩:∃l,(L.get (belV U n) s).1=l:=⟨_,rfl⟩
  rw [eu,el] at hz ⊢
  by_cases k0:U.kindOf u=0
  ·rw [seen_none k0] at hz ⊢
   by_cases k4:L.kindOf l=4
   ·rw [Jb k4] at hz;exact absurd rfl hz
   ·rw [Ja k4] at hz ⊢
    have hl:l≠0:=fun e=>hz (by rw [e])
    obtain ⟨g1,g2⟩:=ma l el.symm hl
    exact ⟨hz,by unfold kindV;dsimp only;rw [Ja (show ¬((0:Int)≠0) by decide),Ja k4];exact g2,fun e=>absurd rfl e,fun _=>g1,fun e=>absurd rfl e⟩
  ·have hu:u≠0:=fun e=>k0 (by rw [e];exact kind_zero U)
   obtain ⟨g1,g2⟩:=ja u eu.symm hu
   by_cases k4:U.kindOf u=4
   ·rw [seen_white k4] at hz;exact absurd rfl hz
   ·have hk:∀y:Int,kindV U L (u,y)≠0:=fun y=>by unfold kindV;dsimp only;rw [Jb hu,Ja k4];exact k0
    by_cases hc:U.kindOf u=2∧L.kindOf l=2∧opq U u=false
    ·rw [seen_both hc.1 hc.2.1 hc.2.2] at hz ⊢
     exact ⟨hz,hk l,fun _=>g1,fun e=>(ma l el.symm e).1,fun _ _=>⟨hc.1,hc.2.1⟩⟩
    ·rw [seen_up k0 k4 hc] at hz ⊢
     exact ⟨hz,hk 0,fun _=>g1,fun e=>absurd rfl e,fun _ e=>absurd rfl e⟩
end
end mg
end Go.Proofs.YtgoddboicjfkcaaGreat
