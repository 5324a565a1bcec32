/- Part 28 of what is known of the program's functions and of the document's words: contracts, and the mathematics beneath them. -/
import Derived.Test.YtgoddboicjfkcaaGreatProg
import Derived.Test.YtgoddboicjfkcaaGreatZ13
import Derived.Test.YtgoddboicjfkcaaGreatZ22
import Derived.Test.YtgoddboicjfkcaaGreatZ27
import Derived.Test.YtgoddboicjfkcaaGreatZ26
set_option linter.unusedVariables false
set_option linter.unusedSimpArgs false
set_option maxRecDepth 100000
set_option maxHeartbeats 8000000
namespace Go.Proofs.YtgoddboicjfkcaaGreat.cu
open Go.RowKit
open dn (En lget lset ldel nerr dotB Sorted lessB)
open br (BS Ino Inv at_nat upd_same upd_other badKind vacant_ok free_spec abE)
open cb (newI)
open mg (Nd opq kindV lstV belV seenV pairV getV rootV kind_zero get_kind get_zero)
structure Mk (S S2:BS) (D n:Nat) (s:ByteArray) (x:Ino):Prop where
 d1:1≤D
 d2:D≤200
 hD:(S.ino D).kind=2
 hl:(S.ino D).links≠0
 hn:lget s (S.ino D).dir=none
 n1:1≤n
 n2:n≤200
 hz:(S.ino n).kind=0
 ne:n≠D
 oth:∀ k,k≠D→k≠n→S2.ino k=S.ino k
 eD:S2.ino D={ S.ino D with dir:=lset s (n:Int) (S.ino D).dir }
 eN:S2.ino n=x
 us:S2.used=S.used+x.body.n
theorem mk_of {S:BS} {room:Nat} (hG:br.Good S room) {d:Int} {s t:ByteArray} {kind:Int} (h:(S.make d s kind t).1.2=0) :
  ∃ D n:Nat,d=(D:Int)∧(S.make d s kind t).1.1=(n:Int)∧Mk S (S.make d s kind t).2 D n s (newI kind d t)∧badKind kind t=false∧br.nameE s=0:=by
 obtain ⟨D,n,e1,e2,hm,hb⟩:=cb.made_of hG h
 by_cases h1:S.vacant d s=0
 ·by_cases hbk:badKind kind t=true
  ·exfalso
   unfold BS.make at h
   rw [if_neg (by omega),if_pos hbk] at h
   exact absurd (show (22:Int)=0 from h) (by decide)
  ·by_cases h2:200<S.free 1 200
   ·exfalso
    unfold BS.make at h
    rw [if_neg (by omega),if_neg hbk] at h
    dsimp only at h
    rw [if_pos h2] at h
    exact absurd (show (28:Int)=0 from h) (by decide)
   ·have hv:=vacant_ok h1
    obtain ⟨D',e3,_,_,_,_,_,hs⟩:=hv
    subst e1
    have e:S.make (D:Int) s kind t=(((S.free 1 200:Int),0),(⟨br.upd (br.upd S.ino (S.free 1 200) (newI kind (D:Int) t)) D { br.upd S.ino (S.free 1 200) (newI kind (D:Int) t) D with dir:=lset s ((S.free 1 200:Nat):Int) (br.upd S.ino (S.free 1 200) (newI kind (D:Int) t) D).dir },S.used⟩:BS)):=by
     unfold BS.make
     rw [if_neg (by omega),if_neg hbk]
     dsimp only
     rw [if_neg h2]
     unfold BS.putDir BS.put
     dsimp only
     rw [Int.toNat_natCast,Int.toNat_natCast]
     rfl
    have en:S.free 1 200=n:=by
     have:=e2
     rw [e] at this
     exact Int.ofNat_inj.1 this
    have eN:(S.make (D:Int) s kind t).2.ino n=newI kind (D:Int) t:=by
     rw [e,en]
     show br.upd (br.upd S.ino n (newI kind (D:Int) t)) D _ n=_
     rw [upd_other _ _ hm.ne,upd_same]
    refine ⟨D,n,rfl,e2,⟨hm.d1,hm.d2,hm.hD,hm.hl,hm.hn,hm.n1,hm.n2,hm.hz,hm.ne,hm.oth,hm.eD,eN,?_⟩,by simpa using hbk,cb.nameE_yes hs⟩
    rw [hm.us,eN]
 ·exfalso
  unfold BS.make at h
  rw [if_pos h1] at h
  exact h1 h
theorem make_no {S:BS} {d:Int} {s t:ByteArray} {kind:Int} (h:(S.make d s kind t).1.2≠0):(S.make d s kind t).2=S∧(S.make d s kind t).1.1=0:=by
 unfold BS.make at h ⊢
 by_cases h1:S.vacant d s=0
 ·rw [if_neg (by simpa using h1)] at h ⊢
  by_cases hb:badKind kind t=true
  ·rw [if_pos hb];exact ⟨rfl,rfl⟩
  ·rw [if_neg hb] at h ⊢
   dsimp only at h ⊢
   by_cases h2:200<S.free 1 200
   ·rw [if_pos h2];exact ⟨rfl,rfl⟩
   ·rw [if_neg h2] at h;exact absurd rfl h
 ·rw [if_pos h1];exact ⟨rfl,rfl⟩
section
variable {S S2 L:BS} {room room2 D n:Nat} {s:ByteArray} {x:Ino}
theorem toN {i:Int} {k:Nat} (h:1≤k) (e:i.toNat=k):i=(k:Int):=by omega
theorem Mk.at_other (h:Mk S S2 D n s x) {i:Int} (h1:i≠(n:Int)) (h2:i≠(D:Int)):S2.at i=S.at i:=by
 unfold BS.at
 exact h.oth _ (fun e=>h2 (toN h.d1 e)) (fun e=>h1 (toN h.n1 e))
theorem Mk.at_kind (h:Mk S S2 D n s x) {i:Int} (h1:i≠(n:Int)):(S2.at i).kind=(S.at i).kind∧(S2.at i).marks=(S.at i).marks∧(S2.at i).links=(S.at i).links∧(S2.at i).body=(S.at i).body∧(S2.at i).target=(S.at i).target∧(S2.at i).parent=(S.at i).parent:=by
 by_cases h2:i=(D:Int)
 ·subst h2;rw [at_nat,at_nat,h.eD];exact ⟨rfl,rfl,rfl,rfl,rfl,rfl⟩
 ·rw [h.at_other h1 h2];exact ⟨rfl,rfl,rfl,rfl,rfl,rfl⟩
theorem Mk.isI (h:Mk S S2 D n s x) {i:Int} (h1:i≠(n:Int)):S2.isI i=S.isI i:=by unfold BS.isI;rw [(h.at_kind h1).1]
theorem Mk.isN (h:Mk S S2 D n s x) (hk:x.kind≠0):S2.isI (n:Int)=true:=by
 have:=h.n1;have:=h.n2
 unfold BS.isI;rw [at_nat,h.eN,decide_eq_true_eq];exact ⟨by omega,by omega,hk⟩
theorem Mk.isN0 (h:Mk S S2 D n s x):S.isI (n:Int)=false:=by
 unfold BS.isI;rw [at_nat,h.hz];simp
theorem Mk.kindOf (h:Mk S S2 D n s x) {i:Int} (h1:i≠(n:Int)):S2.kindOf i=S.kindOf i:=by unfold BS.kindOf;rw [h.isI h1,(h.at_kind h1).1]
theorem Mk.kindN (h:Mk S S2 D n s x) (hk:x.kind≠0):S2.kindOf (n:Int)=x.kind:=by unfold BS.kindOf;rw [h.isN hk,if_pos rfl,at_nat,h.eN]
theorem Mk.kindN0 (h:Mk S S2 D n s x):S.kindOf (n:Int)=0:=by unfold BS.kindOf;rw [h.isN0];rfl
theorem Mk.marksOf (h:Mk S S2 D n s x) {i:Int} (h1:i≠(n:Int)):S2.marksOf i=S.marksOf i:=by unfold BS.marksOf;rw [h.isI h1,(h.at_kind h1).2.1]
theorem Mk.marksN (h:Mk S S2 D n s x) (hk:x.kind≠0):S2.marksOf (n:Int)=x.marks:=by unfold BS.marksOf;rw [h.isN hk,if_pos rfl,at_nat,h.eN]
theorem Mk.opq (h:Mk S S2 D n s x) {i:Int} (h1:i≠(n:Int)):opq S2 i=opq S i:=by unfold mg.opq;rw [h.marksOf h1]
theorem Mk.opqN (h:Mk S S2 D n s x) (hk:x.kind≠0) (hm:x.marks=0):mg.opq S2 (n:Int)=false:=by unfold mg.opq;rw [h.marksN hk,hm];decide
theorem Mk.kindD (h:Mk S S2 D n s x):S.kindOf (D:Int)=2:=by
 have:=h.d1;have:=h.d2
 unfold BS.kindOf BS.isI
 rw [at_nat,h.hD,decide_eq_true ⟨by omega,by omega,by decide⟩];rfl
theorem Mk.neN (h:Mk S S2 D n s x):((D:Nat):Int)≠(n:Int):=fun e=>h.ne (Int.ofNat_inj.1 e).symm
theorem Mk.dirE (h:Mk S S2 D n s x) {i:Int} (h1:i≠(n:Int)) (c:Bool):S2.dirE i c=S.dirE i c:=by unfold BS.dirE;rw [h.isI h1,(h.at_kind h1).1,(h.at_kind h1).2.2.1]
theorem Mk.getD (h:Mk S S2 D n s x) (hI:Inv S room):S2.get (D:Int) s=((n:Int),0):=by
 unfold BS.get
 rw [h.dirE h.neN,mg.dirE_kind,h.kindD,if_neg (by decide),at_nat,h.eD]
 dsimp only
 rw [br.lget_lset (hI.sorted D)]
theorem Mk.getD0 (h:Mk S S2 D n s x):S.get (D:Int) s=(0,2):=cb.get_no h.d1 h.d2 h.hD h.hn
theorem Mk.get (h:Mk S S2 D n s x) (hI:Inv S room) {d:Int} {t:ByteArray} (h1:d≠(n:Int)) (h2:¬ (d=(D:Int)∧t=s)):S2.get d t=S.get d t:=by
 unfold BS.get
 rw [h.dirE h1]
 by_cases e:d=(D:Int)
 ·subst e
  have ht:t≠s:=fun e=>h2 ⟨rfl,e⟩
  rw [at_nat,at_nat,h.eD]
  dsimp only
  rw [br.lget_lset_other (hI.sorted D) ht]
 ·rw [h.at_other h1 e]
theorem Mk.getN (h:Mk S S2 D n s x) (hx:x.dir=[]) (t:ByteArray):(S2.get (n:Int) t).1=0:=by
 unfold BS.get
 by_cases e:S2.dirE (n:Int) false≠0
 ·rw [if_pos e]
 ·rw [if_neg e,at_nat,h.eN,hx];rfl
theorem Mk.get_ne (h:Mk S S2 D n s x) (hI:Inv S room) (d:Int) (t:ByteArray):(S.get d t).1≠(n:Int):=by
 intro e
 rcases mg.get_cases hI d t with ⟨_,h2⟩|⟨_,_,_,_,I,_,h3,h4,h5,h6⟩
 ·have:=h.n1;omega
 ·have:I=n:=Int.ofNat_inj.1 (h3.symm.trans e)
  exact h6 (by rw [this];exact h.hz)
theorem Mk.kindV (h:Mk S S2 D n s x) {a:Nd} (h1:a.1≠(n:Int)):kindV S2 L a=kindV S L a:=by unfold mg.kindV;rw [h.kindOf h1]
theorem Mk.lstV (h:Mk S S2 D n s x) {a:Nd} (h1:a.1≠(n:Int)):lstV S2 L a=lstV S L a:=by unfold mg.lstV;rw [h.kindV h1]
theorem Mk.belV (h:Mk S S2 D n s x) {a:Nd} (h1:a.1≠(n:Int)):belV S2 a=belV S a:=by unfold mg.belV;rw [h.opq h1]
theorem Mk.seenV (h:Mk S S2 D n s x) {p:Nd} (h1:p.1≠(n:Int)):seenV S2 L p=seenV S L p:=by unfold mg.seenV;rw [h.kindOf h1,h.opq h1]
theorem Mk.pairV (h:Mk S S2 D n s x) (hI:Inv S room) {a:Nd} {t:ByteArray} (h1:a.1≠(n:Int)) (h2:¬ (a.1=(D:Int)∧t=s)):pairV S2 L a t=pairV S L a t:=by unfold mg.pairV;rw [h.get hI h1 h2,h.belV h1]
theorem Mk.getV (h:Mk S S2 D n s x) (hI:Inv S room) {a:Nd} {t:ByteArray} (h1:a.1≠(n:Int)) (h2:¬ (a.1=(D:Int)∧t=s)):getV S2 L a t=getV S L a t:=by
 have e:(mg.pairV S L a t).1≠(n:Int):=h.get_ne hI a.1 t
 unfold mg.getV
 rw [h.lstV h1,h.pairV hI h1 h2,h.seenV e]
theorem Mk.rootV (h:Mk S S2 D n s x) {u l:Int} (h1:u≠(n:Int)):rootV S2 L u l=rootV S L u l:=by
 have h0:(0:Int)≠(n:Int):=by have:=h.n1;omega
 unfold mg.rootV
 rw [h.kindOf h1]
 by_cases e:S.kindOf u=2
 ·rw [if_pos e,h.opq h1]
 ·rw [if_neg e,h.opq h0]
theorem Mk.getV_was (h:Mk S S2 D n s x) (l:Int):mg.getV S L ((D:Int),l) s=if (L.get (mg.belV S ((D:Int),l)) s).1=0∨L.kindOf (L.get (mg.belV S ((D:Int),l)) s).1=4 then ((0,0),2) else ((0,(L.get (mg.belV S ((D:Int),l)) s).1),0):=by
 have h0:((D:Nat):Int)≠0:=by have:=h.d1;omega
 have hk:mg.kindV S L ((D:Int),l)=2:=by unfold mg.kindV;dsimp only;rw [if_pos h0,h.kindD];decide
 have hl:mg.lstV S L ((D:Int),l)=0:=by unfold mg.lstV;rw [hk];decide
 have hp:mg.pairV S L ((D:Int),l) s=(0,(L.get (mg.belV S ((D:Int),l)) s).1):=by unfold mg.pairV;dsimp only;rw [h.getD0]
 generalize (L.get (mg.belV S ((D:Int),l)) s).1=y at *
 unfold mg.getV
 rw [if_neg (by rw [hl];decide),hp,mg.seen_none (kind_zero S)]
 by_cases h4:L.kindOf y=4
 ·rw [if_pos h4,if_pos rfl,if_pos (.inr h4)]
 ·rw [if_neg h4]
  by_cases hy:y=0
  ·subst hy;rw [if_pos rfl,if_pos (.inl rfl)]
  ·rw [if_neg (mg.ne_low hy),if_neg (by rintro (e|e);exact hy e;exact h4 e)]
theorem Mk.getV_now (h:Mk S S2 D n s x) (hI:Inv S room) (hk:x.kind≠0) (hm:x.marks=0) (l:Int) :
  mg.getV S2 L ((D:Int),l) s=if x.kind=4 then ((0,0),2) else if x.kind=2∧L.kindOf (L.get (mg.belV S ((D:Int),l)) s).1=2 then (((n:Int),(L.get (mg.belV S ((D:Int),l)) s).1),0) else (((n:Int),0),0):=by
 have h0:((D:Nat):Int)≠0:=by have:=h.d1;omega
 have hn:((n:Nat):Int)≠0:=by have:=h.n1;omega
 have hkv:mg.kindV S2 L ((D:Int),l)=2:=by unfold mg.kindV;dsimp only;rw [if_pos h0,h.kindOf h.neN,h.kindD];decide
 have hl:mg.lstV S2 L ((D:Int),l)=0:=by unfold mg.lstV;rw [hkv];decide
 have hp:mg.pairV S2 L ((D:Int),l) s=((n:Int),(L.get (mg.belV S ((D:Int),l)) s).1):=by unfold mg.pairV;dsimp only;rw [h.getD hI,h.belV h.neN]
 generalize (L.get (mg.belV S ((D:Int),l)) s).1=y at *
 have hkn:=h.kindN hk
 have ho:=h.opqN hk hm
 unfold mg.getV
 rw [if_neg (by rw [hl];decide),hp]
 by_cases h4:x.kind=4
 ·rw [if_pos h4,mg.seen_white (by rw [hkn,h4]),if_pos rfl]
 ·rw [if_neg h4]
  by_cases h2:x.kind=2∧L.kindOf y=2
  ·rw [if_pos h2,mg.seen_both (by rw [hkn,h2.1]) h2.2 ho,if_neg (mg.ne_up hn)]
  ·rw [if_neg h2,mg.seen_up (by rw [hkn];exact hk) (by rw [hkn];exact h4) (fun e=>h2 ⟨hkn▸e.1,e.2.1⟩),if_neg (mg.ne_up hn)]
end
def walkV (S L:BS):Nd→List ByteArray→Nd×Int
 | a,[]=>(a,0)
 | a,t::p=>if (getV S L a t).2≠0 then ((0,0),(getV S L a t).2) else walkV S L (getV S L a t).1 p
def enterF (S L:BS) (d:Int) (a:Nd) (t:ByteArray):(Nd×Int)×BS :=
 if (getV S L a t).2≠0 then (((0,0),(getV S L a t).2),S)
 else if kindV S L (getV S L a t).1≠2 then (((0,0),20),S)
 else if (getV S L a t).1.1≠0 then (((getV S L a t).1,0),S)
 else if (S.make d t 2 ⟨#[]⟩).1.2≠0 then (((0,0),(S.make d t 2 ⟨#[]⟩).1.2),(S.make d t 2 ⟨#[]⟩).2)
 else ((((S.make d t 2 ⟨#[]⟩).1.1,(getV S L a t).1.2),0),(S.make d t 2 ⟨#[]⟩).2)
def descF (L:BS):BS→Int→Nd→List ByteArray→((Int×Nd)×Int)×BS
 | S,d,a,[]=>(((d,a),0),S)
 | S,d,a,t::p=>if (enterF S L d a t).1.2≠0 then (((0,(0,0)),(enterF S L d a t).1.2),(enterF S L d a t).2) else descF L (enterF S L d a t).2 (enterF S L d a t).1.1.1 (enterF S L d a t).1.1 p
theorem descF_cons {S L:BS} {d:Int} {a:Nd} {t:ByteArray} {p:List ByteArray}:descF L S d a (t::p)=if (enterF S L d a t).1.2≠0 then (((0,(0,0)),(enterF S L d a t).1.2),(enterF S L d a t).2) else descF L (enterF S L d a t).2 (enterF S L d a t).1.1.1 (enterF S L d a t).1.1 p:=rfl
structure Grow (L S S':BS):Prop where
 dir:∀ i,S.kindOf i=2→S'.kindOf i=2
 op:∀ i,S.kindOf i=2→opq S' i=opq S i
 got:∀ (b c:Nd) (t:ByteArray),S.kindOf b.1=2→getV S L b t=(c,0)→c.1≠0→getV S' L b t=(c,0)
theorem Grow.refl (L S:BS):Grow L S S:=⟨fun _ h=>h,fun _ _=>rfl,fun _ _ _ _ h _=>h⟩
theorem Grow.trans {L S S1 S2:BS} (h:Grow L S S1) (h2:Grow L S1 S2):Grow L S S2:=⟨fun i k=>h2.dir i (h.dir i k),fun i k=>(h2.op i (h.dir i k)).trans (h.op i k),fun b c t k g n=>h2.got b c t (h.dir _ k) (h.got b c t k g n) n⟩
section
variable {S S2 S' L:BS} {room room2 D n:Nat} {s:ByteArray} {x:Ino}
theorem Mk.grow (h:Mk S S2 D n s x) (hI:Inv S room):Grow L S S2 where
 dir:=fun i hi=>by
  rw [h.kindOf (fun e=>by rw [e,h.kindN0] at hi;cases hi)];exact hi
 op:=fun i hi=>h.opq fun e=>by rw [e,h.kindN0] at hi;cases hi
 got:=fun b c t hb hg hc=>by
  rw [h.getV hI (fun e=>by rw [e,h.kindN0] at hb;cases hb),hg]
  rintro ⟨e1,rfl⟩
  have e2:b=((D:Int),b.2):=Prod.ext e1 rfl
  rw [e2,h.getV_was] at hg
  split at hg
  ·injection hg with h1 h2;cases h2
  ·injection hg with h1 h2;exact hc (by rw [← h1])
theorem kindV_dir {c:Nd} (h:kindV S L c=2) (h2:c.1=0):L.kindOf c.2=2:=by
 unfold mg.kindV at h
 rw [if_neg (show ¬ c.1≠0 from fun e=>e h2)] at h
 by_cases h4:L.kindOf c.2=4
 ·rw [if_pos h4] at h;exact absurd h (by decide)
 ·rw [if_neg h4] at h;exact h
theorem kindV_two {c:Nd} (h:kindV S L c=2) (h2:c.1≠0):S.kindOf c.1=2:=by
 unfold mg.kindV at h
 rw [if_pos h2] at h
 by_cases h4:S.kindOf c.1=4
 ·rw [if_pos h4] at h;exact absurd h (by decide)
 ·rw [if_neg h4] at h;exact h
inductive Ch (S L:BS):Nd→List ByteArray→Nd→Prop
 | nil {a:Nd}:Ch S L a [] a
 | cons {a c b:Nd} {t:ByteArray} {p:List ByteArray}:getV S L a t=(c,0)→c.1≠0→S.kindOf c.1=2→Ch S L c p b→Ch S L a (t::p) b
theorem Ch.kind {a b:Nd} {p:List ByteArray} (h:Ch S L a p b):S.kindOf a.1=2→S.kindOf b.1=2:=by
 induction h with
 | nil=>exact fun h=>h
 | cons _ _ h3 _ ih=>exact fun _=>ih h3
theorem kind_ne {i:Int} (h:S.kindOf i=2):i≠0:=fun e=>by rw [e,kind_zero] at h;cases h
theorem Ch.again {a b:Nd} {p:List ByteArray} (h:Ch S L a p b):descF L S a.1 a p=(((b.1,b),0),S):=by
 induction h with
 | nil=>rfl
 | @cons a c b t p h1 h2 h3 _ ih =>
  have e:enterF S L a.1 a t=((c,0),S):=by
   have hk:kindV S L c=2:=by unfold mg.kindV;rw [if_pos h2,h3];decide
   unfold enterF
   rw [h1]
   dsimp only
   rw [if_neg (by decide),if_neg (by rw [hk];decide),if_pos h2]
  rw [descF_cons,e]
  dsimp only
  rw [if_neg (by decide),ih]
theorem enter_ok (hG:br.Good S room) {d:Int} {a:Nd} {t:ByteArray} (hd:a.1=d) (hk:S.kindOf d=2) (h:(enterF S L d a t).1.2=0) :
    br.Good (enterF S L d a t).2 room∧(enterF S L d a t).2.kindOf (enterF S L d a t).1.1.1=2∧Grow L S (enterF S L d a t).2∧getV (enterF S L d a t).2 L a t=((enterF S L d a t).1.1,0)∧(enterF S L d a t).2.used=S.used ∧
    ((getV S L a t=((enterF S L d a t).1.1,0)∧(enterF S L d a t).2=S) ∨
     (getV S L a t=((0,(enterF S L d a t).1.1.2),0)∧L.kindOf (enterF S L d a t).1.1.2=2∧∃ D n:Nat,d=(D:Int)∧(enterF S L d a t).1.1.1=(n:Int)∧Mk S (enterF S L d a t).2 D n t (newI 2 d ⟨#[]⟩))):=by
  obtain ⟨c,e,hge⟩:∃ c e,getV S L a t=(c,e):=⟨_,_,rfl⟩
  by_cases h0:e=0
  case neg =>
    exfalso
    unfold enterF at h
    rw [hge] at h
    dsimp only at h
    rw [if_pos h0] at h
    exact h0 h
  subst h0
  by_cases h1:kindV S L c=2
  case neg =>
    exfalso
    unfold enterF at h
    rw [hge] at h
    dsimp only at h
    rw [if_neg (by decide),if_pos h1] at h
    exact absurd (show (20:Int)=0 from h) (by decide)
  by_cases h2:c.1=0
  · have hy:L.kindOf c.2=2:=kindV_dir h1 h2
    have e1:enterF S L d a t=if (S.make d t 2 ⟨#[]⟩).1.2≠0 then (((0,0),(S.make d t 2 ⟨#[]⟩).1.2),(S.make d t 2 ⟨#[]⟩).2) else ((((S.make d t 2 ⟨#[]⟩).1.1,c.2),0),(S.make d t 2 ⟨#[]⟩).2):=by
      unfold enterF
      rw [hge]
      dsimp only
      rw [if_neg (by decide),if_neg (by rw [h1];decide),if_neg (by simpa using h2)]
    by_cases h3:(S.make d t 2 ⟨#[]⟩).1.2=0
    case neg =>
      exfalso
      rw [e1,if_pos h3] at h
      exact h3 h
    rw [if_neg (by simpa using h3)] at e1
    obtain ⟨D,n,rfl,e2,hm,_,_⟩:=mk_of hG h3
    have hz:(newI 2 (D:Int) ⟨#[]⟩).kind≠0:=by show (2:Int)≠0;decide
    have hg2:=hG.make (D:Int) t 2 ⟨#[]⟩
    rw [e1]
    dsimp only
    have ea:a=((D:Int),a.2):=Prod.ext hd rfl
    have ey:(L.get (mg.belV S ((D:Int),a.2)) t).1=c.2:=by
      have:=hge
      rw [ea,hm.getV_was] at this
      split at this
      · injection this with _ h9;cases h9
      · injection this with h9 _;rw [← h9]
    refine ⟨hg2,?_,hm.grow hG.1,?_,?_,.inr ⟨?_,hy,D,n,rfl,e2,hm⟩⟩
    · rw [e2,hm.kindN hz];rfl
    · rw [ea,hm.getV_now hG.1 hz rfl,if_neg (show ¬ (newI 2 (D:Int) ⟨#[]⟩).kind=4 by show ¬ ((2:Int)=4);decide),ey,if_pos ⟨rfl,hy⟩,e2]
    · rw [hm.us]
      show S.used+abE.n=S.used
      rw [br.abE_n];rfl
    · exact hge.trans (congrArg (fun z:Nd=>(z,(0:Int))) (Prod.ext h2 rfl))
  · have e1:enterF S L d a t=((c,0),S):=by
      unfold enterF
      rw [hge]
      dsimp only
      rw [if_neg (by decide),if_neg (by rw [h1];decide),if_pos h2]
    have h3:S.kindOf c.1=2:=kindV_two h1 h2
    rw [e1]
    exact ⟨hG,h3,Grow.refl L S,hge,rfl,.inl ⟨hge,rfl⟩⟩
theorem root_up {u l:Int} (hu:S.kindOf u=2):(rootV S L u l).1=u:=by unfold mg.rootV;rw [hu,if_pos rfl]
theorem desc_ok:∀ (p:List ByteArray) {S:BS} {d:Int} {a:Nd},br.Good S room→a.1=d→S.kindOf d=2→(descF L S d a p).1.2=0 →
  br.Good (descF L S d a p).2 room∧(descF L S d a p).1.1.2.1=(descF L S d a p).1.1.1∧Grow L S (descF L S d a p).2∧Ch (descF L S d a p).2 L a p (descF L S d a p).1.1.2∧(descF L S d a p).2.used=S.used
 | [],S,d,a,hG,hd,hk,h=>⟨hG,hd,Grow.refl L S,.nil,rfl⟩
 | t::p,S,d,a,hG,hd,hk,h=>by
  rw [descF_cons] at h ⊢
  by_cases h0:(enterF S L d a t).1.2=0
  case neg=>rw [if_pos h0] at h;exact absurd h h0
  rw [if_neg (by simpa using h0)] at h ⊢
  obtain ⟨g1,g2,g3,g4,g5,_⟩:=enter_ok hG hd hk h0
  have hn:(enterF S L d a t).1.1.1≠0:=kind_ne g2
  generalize (enterF S L d a t).1.1=c at *
  generalize (enterF S L d a t).2=S1 at *
  obtain ⟨k1,k2,k3,k4,k5⟩:=desc_ok p g1 rfl g2 h
  exact ⟨k1,k2,g3.trans k3,.cons (k3.got _ _ _ (g3.dir _ (hd▸hk)) g4 hn) hn (k3.dir _ g2) k4,k5.trans g5⟩
end
end Go.Proofs.YtgoddboicjfkcaaGreat.cu
namespace Go.Proofs.YtgoddboicjfkcaaGreat.cu
open Go.RowKit Go.Deep
open br (BS Ino Inv)
open cb (BrX RetW RetI No KB KD Res HB Stab NxR Same WrI Wz)
open bl (Pq Only U8)
open mg (Vx Nd Nv Nb R2 bel_step bel_alloc kindV getV set_below set2_below heap_set)
theorem R2.put {w:World} {g:Nat} {x y:Int} (h:R2 w g x y) (a b:Int):R2 ((w.setCell ⟨g,0,none⟩ (.int .i64 a)).setCell ⟨g,1,none⟩ (.int .i64 b)) g a b:=(h.up a).lo b
abbrev Rd (W:World) (c:Cp) (g:Nat) (n1 n2:Int):Prop:=W.cell? ⟨c.C,1,none⟩=some (Pq c.V)∧W.cell? ⟨g,0,none⟩=some (.int .i64 n1)∧W.cell? ⟨g,1,none⟩=some (.int .i64 n2)
def EnterE (w0 w:World) (c:Cp) (L:BS) (r T:Nat) (M:List Res) (X:Nat→Prop) (res:(Nd×Int)×BS) (e:Ending) (w':World):Prop :=
 e=.returned (.tuple #[Nv res.1.1,.int .i64 res.1.2])∧Zs w0 w' c res.2 L r T M X∧Same X w w'
theorem enter_any {w0 w:World} {c:Cp} {S L:BS} {r T:Nat} {M:List Res} {X:Nat→Prop} (h:Zs w0 w c S L r T M X) (hT:T≤800000) (d:Int) (n:Nd) (t:ByteArray) (ht:t.size≤9223372036854775807) :
  Calls Tryz.prog 172 #[Pq c.C,.int .i64 d,Nv n,.string t] w (EnterE w0 w c L r (T+1) M X (enterF S L d n t)):=by
 obtain ⟨n1,n2⟩:=n
 obtain ⟨w1,hw1⟩:∃ w1,(w.alloc (.cells #[.int .i64 n1,.int .i64 n2] 24)).alloc (.cells #[.int .i64 0,.int .i64 0] 24)=w1:=⟨_,rfl⟩
 have hb1:Below w.heap.size w w1:=by rw [← hw1];exact bel_step (bel_alloc _ _) (bel_alloc _ _)
 obtain ⟨g,hg⟩:∃ g,w.heap.size=g:=⟨_,rfl⟩
 have hg1:Nb w1 g (n1,n2):=by rw [← hw1,← hg];exact (Nb.new w n1 n2).below (bel_alloc _ _)
 have hg2:R2 w1 (g+1) 0 0:=by rw [← hw1,← hg];have:=R2.new (w.alloc (.cells #[.int .i64 n1,.int .i64 n2] 24)) 0 0;rwa [World.size_alloc] at this
 have hz1:w1.heap.size=g+1+1:=by rw [← hw1,← hg,World.size_alloc,World.size_alloc]
 have HX1:=Lib.hid (h.box (Y:=fun b=>X b∨b=g∨b=g+1) hb1 (fun b hb=>hb.imp id fun e=>by rcases e with e|e <;> (rw [e];omega)) (.inl h.xC) (.inl h.xV))
 have HSX:=Lib.hid (same_below h hb1)
 have HNX:=Lib.hid (show ∀ b,X b→b<g from fun b hb=>hg▸h.lt hb)
 have HCV:=Lib.hid (And.intro h.xC h.xV)
 have HG1:=Lib.hid hg1
 have HG2:=Lib.hid hg2
 have HZ:=Lib.hid hz1
 have HLO:=Lib.hid (show w0.heap.size≤g by rw [← hg];exact h.bel.size)
 have HRD:=Lib.hid (fun W (hb:Below w1.heap.size w1 W)=>show Rd W c g n1 n2 from ⟨(HX1.out.below hb).x.c1,(HG1.out.below hb).c0,(HG1.out.below hb).c1⟩)
 have HGET:=Lib.hid (fun W (hb:Below w1.heap.size w1 W)=>mg.get_any (HX1.out.below hb).vx (n1,n2) t)
 unfold RetW at HGET
 have HSE:Hid (enterF S L d (n1,n2) t=if (getV S L (n1,n2) t).2≠0 then (((0,0),(getV S L (n1,n2) t).2),S)
  else if kindV S L (getV S L (n1,n2) t).1≠2 then (((0,0),20),S)
  else if (getV S L (n1,n2) t).1.1≠0 then (((getV S L (n1,n2) t).1,0),S)
  else if (S.make d t 2 ⟨#[]⟩).1.2≠0 then (((0,0),(S.make d t 2 ⟨#[]⟩).1.2),(S.make d t 2 ⟨#[]⟩).2)
  else ((((S.make d t 2 ⟨#[]⟩).1.1,(getV S L (n1,n2) t).1.2),0),(S.make d t 2 ⟨#[]⟩).2)):=Lib.hid rfl
 generalize enterF S L d (n1,n2) t=res at *
 obtain ⟨gv,hgv⟩:∃ r,getV S L (n1,n2) t=r:=⟨_,rfl⟩
 rw [hgv] at HGET HSE
 clear hgv
 obtain ⟨⟨x1,x2⟩,ge⟩:=gv
 dsimp only at HGET HSE
 have HE:=Lib.hid (show ∀ (W:World) (y1 y2 er:Int) (S':BS),res=(((y1,y2),er),S')→Zs w0 W c S' L r (T+1) M X→Same X w W→EnterE w0 w c L r (T+1) M X res (.returned (.tuple #[.agg #[.int .i64 y1,.int .i64 y2],.int .i64 er])) W from
  fun W y1 y2 er S' e a b=>by rw [e];exact ⟨rfl,a,b⟩)
 obtain ⟨PQ,hPQ⟩:∃ P,EnterE w0 w c L r (T+1) M X res=P:=⟨_,rfl⟩
 rw [hPQ] at HE ⊢
 clear h hb1 hg1 hg2 hz1 hPQ
 obtain ⟨cC,hcC⟩:∃ x,x=c.C:=⟨_,rfl⟩
 rw [← hcC]
 go_enter Tryz.func172,Tryz.ntmps172
 go_upto_region 1 with fail
 try rw [hw1]
 try rw [hg]
 clear hw1
 subst hcC
 go_cut [10,11] from 12 to 57 (fun va vb wx=>∃ G,va=.pointer (some ⟨G,0,none⟩)∧vb=.int .i64 ge∧Hid (Below w1.heap.size w1 wx)∧Hid (R2 wx G x1 x2)∧Hid (w1.heap.size≤G))
 case first =>
  have S0:=HRD.out w1 (Below.refl _ _)
  have HAB:=Lib.hid (bel_alloc w1 (.cells #[.int .i64 0,.int .i64 0] 24))
  have HAD:=Lib.hid (bel_step HAB.out (Below.refl _ (w1.alloc (.cells #[.int .i64 0,.int .i64 0] 24))).drew)
  have SA:=HRD.out _ HAB.out
  have HGd:=Lib.hid (HGET.out w1.drew (Below.refl w1.heap.size w1).drew)
  have HGA:=Lib.hid (HGET.out (w1.alloc (.cells #[.int .i64 0,.int .i64 0] 24)).drew HAD.out)
  have HZA:=Lib.hid (show R2 (w1.alloc (.cells #[.int .i64 0,.int .i64 0] 24)).drew w1.heap.size 0 0 from (R2.new w1 0 0).below (Below.refl _ _).drew)
  clear HX1 HGET
  go_region_held3 (fun W=>W.cell? ⟨c.C,1,none⟩=some (Pq c.V)∧W.cell? ⟨g,0,none⟩=some (.int .i64 n1)∧W.cell? ⟨g,1,none⟩=some (.int .i64 n2))
   (first|with_reducible exact S0|with_reducible exact S5|with_reducible exact SA|with_reducible exact ST|assumption|go_keep)
   (first
    | (go_at_call 17;((with_reducible refine HGd.out.mono ?_);rintro _ w5 ⟨rfl,hb5⟩;have HB5:=Lib.hid (bel_step (Below.refl w1.heap.size w1).drew hb5);have S5:=HRD.out w5 HB5.out;have HF5:=Lib.hid (show ∃ G,w5.heap.size=G∧Below w1.heap.size w1 (w5.alloc (.cells #[.int .i64 x1,.int .i64 x2] 24))∧R2 (w5.alloc (.cells #[.int .i64 x1,.int .i64 x2] 24)) G x1 x2∧w1.heap.size≤G from ⟨_,rfl,bel_step HB5.out (bel_alloc _ _),R2.new w5 x1 x2,HB5.out.size⟩);clear hb5))
    | (go_at_call 17;((with_reducible refine HGA.out.mono ?_);rintro _ w5 ⟨rfl,hb5⟩;have HB5:=Lib.hid (bel_step HAD.out hb5);have S5:=HRD.out w5 HB5.out;have HZ5:=Lib.hid (HZA.out.below hb5);obtain ⟨z0,z1,f0,f1⟩:=HZ5.out;have HBT:=Lib.hid (show Below w1.heap.size w1 ((w5.setCell ⟨w1.heap.size,0,none⟩ (.int .i64 x1)).setCell ⟨w1.heap.size,1,none⟩ (.int .i64 x2)) from set2_below HB5.out (Nat.le_refl _) _ _);have ST:=HRD.out _ HBT.out;have HFG:=Lib.hid (R2.put HZ5.out x1 x2);clear hb5)))
  all_goals
   go_wp2_with fail
   go_meet
   case rel=>first|exact ⟨_,rfl,rfl,HBT,HFG,Lib.hid (Nat.le_refl _)⟩|(obtain ⟨G,hG,h1,h2,h3⟩:=HF5.out;subst hG;exact ⟨_,rfl,rfl,Lib.hid h1,Lib.hid h2,Lib.hid h3⟩)
 case rest =>
  obtain ⟨G,rfl,rfl,HBX,HRX,HGL⟩:=hcut
  obtain ⟨wx,rfl⟩:∃ x,x=wc:=⟨_,rfl⟩
  obtain ⟨Y,hY⟩:∃ Y:Nat→Prop,(fun b=>X b∨b=g∨b=g+1∨b=G)=Y:=⟨_,rfl⟩
  have hYX:∀ b,X b→Y b:=fun b hb=>by rw [← hY];exact .inl hb
  have hYg:Y (g+1):=by rw [← hY];exact .inr (.inr (.inl rfl))
  have hYG:Y G:=by rw [← hY];exact .inr (.inr (.inr rfl))
  have hgC:g+1≠c.C∧g+1≠c.V:=⟨fun e=>by have:=HNX.out _ HCV.out.1;omega,fun e=>by have:=HNX.out _ HCV.out.2;omega⟩
  have hGC:G≠c.C∧G≠c.V:=⟨fun e=>by have:=HNX.out _ HCV.out.1;have:=HGL.out;have:=HZ.out;omega,fun e=>by have:=HNX.out _ HCV.out.2;have:=HGL.out;have:=HZ.out;omega⟩
  have hwG:w0.heap.size≤G:=by have:=HLO.out;have:=HGL.out;have:=HZ.out;omega
  have HXX:=Lib.hid (HX1.out.box (Y:=Y) HBX.out (fun b hb=>by
   rw [← hY] at hb
   rcases hb with e|e|e|e
   ·exact .inl (.inl e)
   ·exact .inl (.inr (.inl e))
   ·exact .inl (.inr (.inr e))
   ·exact .inr ⟨by rw [e];exact HGL.out,by rw [e];exact HRX.out.lt⟩) (hYX _ HCV.out.1) (hYX _ HCV.out.2))
  have HSY:=Lib.hid (show Same X w wx from same_trans HSX.out (fun b hb=>HBX.out.block b (HX1.out.lt (.inl hb))))
  have HRR:=Lib.hid (HG2.out.below HBX.out)
  have HFN:=Lib.hid (show ∀ (W:World) (y1 y2 er:Int) (S':BS) (T':Nat),T'≤T+1→res=(((y1,y2),er),S')→Zs w0 W c S' L r T' M Y→Same X w W→PQ (.returned (.tuple #[.agg #[.int .i64 y1,.int .i64 y2],.int .i64 er])) ((W.setCell ⟨g+1,0,none⟩ (.int .i64 y1)).setCell ⟨g+1,1,none⟩ (.int .i64 y2)) from
   fun W y1 y2 er S' T' hT' he hz hs=>HE.out _ y1 y2 er S' he (((hz.set2 hYg (by have:=HLO.out;omega) hgC.1 hgC.2 _ _).sub hYX HCV.out.1 HCV.out.2).up hT')
    (same_trans (same_trans hs (same_set fun e=>by have:=HNX.out _ e;omega)) (same_set fun e=>by have:=HNX.out _ e;omega)))
  have HFX:=Lib.hid (And.intro hYX (And.intro hYg (And.intro hYG (And.intro hGC hwG))))
  have HTT:=Lib.hid hT
  have HST:=Lib.hid ht
  clear hY hYX hYg hYG hgC hGC hwG HX1 HSX HG1 HG2 HRD HGET HE HBX hT ht
  by_cases e0:ge=0
  case neg =>
   have q0:(ge != 0)=true:=by simpa using e0
   rw [if_pos e0] at HSE
   obtain ⟨s0,s1,v0,v1⟩:=HRR.out
   have HRS:=Lib.hid (fun a b=>HRR.out.range a b)
   have HF:=Lib.hid (HFN.out wx 0 0 ge S T (by omega) HSE.out HXX.out HSY.out)
   go_wp2_with fail
   refine bodyPost_ret (mg.results_row_tmp rfl _ _ (g+1) _ _ rfl (HRS.out _ _) Tryz.underlying24 (by rfl) (by rfl)) rfl ?_
   exact HF.out
  subst e0
  rw [if_neg (by decide)] at HSE
  have HK:=Lib.hid (mg.kind_any (HXX.out.drew).vx (x1,x2))
  unfold cb.RetI at HK
  generalize kindV S L (x1,x2)=kv at *
  obtain ⟨t0,t1,f0,f1⟩:=HRX.out
  have S0:=And.intro HXX.out.x.c1 (And.intro t0 t1)
  go_wp2_with fail
  go_region_held3 (fun W=>W.cell? ⟨c.C,1,none⟩=some (Pq c.V)∧W.cell? ⟨G,0,none⟩=some (.int .i64 x1)∧W.cell? ⟨G,1,none⟩=some (.int .i64 x2))
   (first|with_reducible exact S0|with_reducible exact S5|assumption|go_keep)
   (first
    | (go_at_call 19;((with_reducible refine HK.out.mono ?_);rintro _ w5 ⟨rfl,hb5⟩;have HB5:=Lib.hid (bel_step (Below.refl wx.heap.size wx).drew hb5);have HX5:=Lib.hid (HXX.out.below HB5.out);have HR5:=Lib.hid (HRX.out.below HB5.out);have S5:=And.intro HX5.out.x.c1 (And.intro HR5.out.c0 HR5.out.c1);clear hb5)))
  clear S0 S5 t0 t1 f0 f1
  have HSZ:=Lib.hid (same_trans HSY.out (fun b hb=>HB5.out.block b (HXX.out.lt (HFX.out.1 b hb))))
  have HR6:=Lib.hid (HRR.out.below HB5.out)
  obtain ⟨s0,s1,v0,v1⟩:=HR6.out
  obtain ⟨t0,t1,f0,f1⟩:=HR5.out
  have HRS:=Lib.hid (fun a b=>HR6.out.range a b)
  clear HXX HRX HRR HSY HK
  by_cases hk:kv=2
  case neg =>
   rw [if_pos hk] at HSE
   have HF:=Lib.hid (HFN.out w5 0 0 20 S T (by omega) HSE.out HX5.out HSZ.out)
   have qk:(kv != 2)=true:=by simpa using hk
   clear hk
   go_wp2_with fail
   refine bodyPost_ret (mg.results_row_tmp rfl _ _ (g+1) _ _ rfl (HRS.out _ _) Tryz.underlying24 (by rfl) (by rfl)) rfl ?_
   exact HF.out
  subst hk
  rw [if_neg (by decide)] at HSE
  by_cases hx:x1=0
  case neg =>
   rw [if_pos hx] at HSE
   have HF:=Lib.hid (HFN.out w5 x1 x2 0 S T (by omega) HSE.out HX5.out HSZ.out)
   have qx:(x1 != 0)=true:=by simpa using hx
   clear hx
   go_wp2_with fail
   refine bodyPost_ret (mg.results_row_tmp rfl _ _ (g+1) _ _ rfl (HRS.out _ _) Tryz.underlying24 (by rfl) (by rfl)) rfl ?_
   exact HF.out
  subst hx
  rw [if_neg (by decide)] at HSE
  have k0:=HX5.out.x.c0
  have HM:=Lib.hid (HX5.out.make HTT.out d t 2 ⟨#[]⟩ HST.out (by decide))
  generalize S.make d t 2 ⟨#[]⟩=mk at *
  obtain ⟨⟨m1,m2⟩,S2⟩:=mk
  dsimp only at HM HSE
  go_wp2_with fail
  refine HM.out.mono ?_
  rintro _ w7 ⟨rfl,hz7,hs7⟩
  have HZ7:=Lib.hid (hz7.set HFX.out.2.2.1 HFX.out.2.2.2.2 HFX.out.2.2.2.1.1 HFX.out.2.2.2.1.2 0 (.int .i64 m1))
  have HR7:=Lib.hid (HR5.out.same (hs7 _ HFX.out.2.2.1))
  have HRA:=Lib.hid (HR7.out.up m1)
  have HRQ:=Lib.hid (show R2 (w7.setCell ⟨G,0,none⟩ (.int .i64 m1)) (g+1) 0 0 from (HR6.out.same (hs7 _ HFX.out.2.1)).same (heap_set (by have:=HGL.out;have:=HZ.out;omega)))
  have HSW:=Lib.hid (show Same X w (w7.setCell ⟨G,0,none⟩ (.int .i64 m1)) from same_trans (same_trans HSZ.out (fun b hb=>hs7 b (HFX.out.1 b hb))) (same_set fun e=>by have:=HNX.out _ e;have:=HGL.out;have:=HZ.out;omega))
  clear s0 s1 v0 v1 t0 t1 f0 f1 k0 hz7 hs7 HRS HX5 HR5 HR6 HSZ HM
  obtain ⟨t0,t1,f0,f1⟩:=HR7.out
  go_upto_region 9 with fail
  generalize w7.setCell ⟨G,0,none⟩ (.int .i64 m1)=w8 at *
  clear t0 t1 f0 f1
  obtain ⟨s0,s1,v0,v1⟩:=HRQ.out
  obtain ⟨t0,t1,f0,f1⟩:=HRA.out
  have HRS:=Lib.hid (fun a b=>HRQ.out.range a b)
  by_cases hm:m2=0
  ·subst hm
   rw [if_neg (by decide)] at HSE
   have HF:=Lib.hid (HFN.out w8 m1 x2 0 S2 (T+1) (by omega) HSE.out HZ7.out HSW.out)
   go_wp2_with fail
   refine bodyPost_ret (mg.results_row_tmp rfl _ _ (g+1) _ _ rfl (HRS.out _ _) Tryz.underlying24 (by rfl) (by rfl)) rfl ?_
   exact HF.out
  ·have qm:(m2 != 0)=true:=by simpa using hm
   rw [if_pos hm] at HSE
   have HF:=Lib.hid (HFN.out w8 0 0 m2 S2 (T+1) (by omega) HSE.out HZ7.out HSW.out)
   clear hm
   go_wp2_with fail
   refine bodyPost_ret (mg.results_row_tmp rfl _ _ (g+1) _ _ rfl (HRS.out _ _) Tryz.underlying24 (by rfl) (by rfl)) rfl ?_
   exact HF.out
end Go.Proofs.YtgoddboicjfkcaaGreat.cu
