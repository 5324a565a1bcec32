/- Contracts and mathematics, part 21. -/
import Derived.Deep.RegionHeldLaw
import Derived.Laws.EntriesVeiled
import Derived.Test.YtgoddboicjfkcaaGreatZ20
set_option linter.unusedVariables false
set_option linter.unusedSimpArgs false
set_option maxRecDepth 100000
set_option maxHeartbeats 8000000
namespace Go.Proofs.YtgoddboicjfkcaaGreat
namespace fl
open Go.RowKit
open dn (En lget lset ldel nerr dotB Sorted lessB)
open br (BS Ino Inv Good Tree sumF)
open mg (Nd opq kindV lstV belV seenV pairV getV rootV AllV)
theorem lget_cons' (s:ByteArray) (e:En) (l:List En):lget s (e::l)=if e.1=s then some e.2 else lget s l:=by
 unfold lget
 by_cases h:e.1=s
 ·simp [List.find?,h]
 ·simp [List.find?,h]
theorem sumF_add (f g:Nat→Nat):∀n,sumF (fun k=>f k+g k) n=sumF f n+sumF g n
 | 0=>rfl
 | n+1=>by
  have:=sumF_add f g n
  simp only [sumF] at this ⊢
  omega
theorem sumF_swap {α:Type} (f:α→Nat→Nat) (n:Nat):∀l:List α,(l.map fun e=>sumF (f e) n).sum=sumF (fun k=>(l.map fun e=>f e k).sum) n
 | []=>by simp [br.sumF_zero]
 | e::l=>by
  simp only [List.map_cons,List.sum_cons]
  rw [sumF_swap f n l,←sumF_add]
theorem sum_filter {α:Type} (P:α→Bool) (c:Nat):∀l:List α,(l.map fun e=>if P e=true then c else 0).sum=(l.filter P).length*c
 | []=>by simp
 | e::l=>by
  simp only [List.map_cons,List.sum_cons,List.filter_cons]
  rw [sum_filter P c l]
  cases P e with
  | true=>simp [Nat.add_mul,Nat.add_comm]
  | false=>simp
theorem sum_le {α:Type} {f g:α→Nat}:∀ {l:List α},(∀e∈l,f e≤g e)→(l.map f).sum≤(l.map g).sum
 | [],_=>Nat.le_refl _
 | e::l,h=>by
  simp only [List.map_cons,List.sum_cons]
  have h1:=h e (List.mem_cons_self)
  have h2:=sum_le (l:=l) fun x hx=>h x (List.mem_cons_of_mem _ hx)
  omega
theorem sum_add {α:Type} (f g:α→Nat):∀l:List α,(l.map fun e=>f e+g e).sum=(l.map f).sum+(l.map g).sum
 | []=>rfl
 | e::l=>by
  have:=sum_add f g l
  simp only [List.map_cons,List.sum_cons]
  omega
inductive Anc (S:BS) (i:Nat):Nat→Prop
 | refl:Anc S i i
 | up {p k:Nat}:Anc S i p→(S.ino k).kind=2→(S.ino k).links≠0→(S.ino k).parent=(p:Int)→k≠1→Anc S i k
theorem Anc.trans {S:BS} {i j k:Nat} (h:Anc S i j) (h2:Anc S j k):Anc S i k:=by
 induction h2 with
 | refl=>exact h
 | up _ a b c d ih=>exact .up ih a b c d
theorem Anc.line {S:BS} {a b k:Nat} (h:Anc S a k):Anc S b k→Anc S a b∨Anc S b a:=by
 induction h with
 | refl=>exact fun h=>.inr h
 | up h hk hl hp h1 ih =>
  intro h2
  cases h2 with
  | refl=>exact .inl (.up h hk hl hp h1)
  | up h' _ _ hp' _ =>
   obtain rfl:_=_:=Int.ofNat_inj.1 (hp.symm.trans hp')
   exact ih h'
def Deep (S:BS) (deep:Nat→Nat):Prop:=(∀k,deep k≤200)∧∀k,(S.ino k).kind=2→(S.ino k).links≠0→k≠1 →
 ∃p:Nat,(S.ino k).parent=(p:Int)∧(S.ino p).kind=2∧(S.ino p).links≠0∧deep p<deep k
theorem Anc.deep {S:BS} {deep:Nat→Nat} (hd:Deep S deep) {a k:Nat} (h:Anc S a k):deep a≤deep k:=by
 induction h with
 | refl=>exact Nat.le_refl _
 | up _ hk hl hp h1 ih =>
  obtain ⟨p,e,_,_,h⟩:=hd.2 _ hk hl h1
  obtain rfl:_=_:=Int.ofNat_inj.1 (hp.symm.trans e)
  omega
section
open Classical
noncomputable def wt (S:BS) (d:Nat):Nat:=sumF (fun k=>if Anc S d k then (S.ino k).dir.length else 0) 200
noncomputable def wtI (S:BS) (i:Int):Nat:=if S.kindOf i=2 then wt S i.toNat else 0
variable {S U L:BS} {room:Nat}
theorem kind_at (hI:Inv S room) {i:Int} {I:Nat} (e:i=(I:Int)) (h1:1≤I) (h2:I≤200):S.kindOf i=(S.ino I).kind:=by
 subst e
 unfold BS.kindOf BS.isI
 rw [br.at_nat]
 by_cases hk:(S.ino I).kind=0
 ·simp [hk]
 ·rw [decide_eq_true ⟨by omega,by omega,hk⟩];rfl
theorem child (hI:Inv S room) {deep:Nat→Nat} (hd:Deep S deep) {D:Nat} {e:En} (he:e∈(S.ino D).dir) (hk:S.kindOf e.2=2) :
  ∃I:Nat,e.2=(I:Int)∧(S.ino I).kind=2∧(S.ino I).links≠0∧(S.ino I).parent=(D:Int)∧I≠1∧1≤I∧I≤200∧deep D<deep I:=by
 obtain ⟨hD,hDn,I,e2,i1,i2,i3,i4,i5⟩:=hI.entry he
 have ma:(S.ino I).kind=2:=(kind_at hI e2 i1 i2).symm.trans hk
 have hp:=hI.up D e he (by rw [e2,br.at_nat];exact ma)
 rw [e2,br.at_nat] at hp
 have hl:(S.ino I).links≠0:=by omega
 obtain ⟨p,e3,_,_,h4⟩:=hd.2 I ma hl i3
 obtain rfl:p=D:=Int.ofNat_inj.1 (e3.symm.trans hp)
 exact ⟨I,e2,ma,hl,hp,i3,i1,i2,h4⟩
theorem wtI_child (hI:Inv S room) {D:Nat} {e:En} (he:e∈(S.ino D).dir) :
  wtI S e.2=sumF (fun k=>if decide (S.kindOf e.2=2∧Anc S e.2.toNat k)=true then (S.ino k).dir.length else 0) 200:=by
 unfold wtI wt
 by_cases hk:S.kindOf e.2=2
 ·rw [Jb hk];simp [hk]
 ·rw [Ja hk];simp [hk,br.sumF_zero]
theorem wt_step (hI:Inv S room) {deep:Nat→Nat} (hd:Deep S deep) {D:Nat} (h1:1≤D) (h2:D≤200) :
  ((S.ino D).dir.map fun e=>1+wtI S e.2).sum≤wt S D:=by
 have e0:((S.ino D).dir.map fun e=>1+wtI S e.2).sum=(S.ino D).dir.length+((S.ino D).dir.map fun e=>wtI S e.2).sum:=by
  rw [sum_add];congr 1
  generalize (S.ino D).dir=l
  induction l with
  | nil=>rfl
  | cons _ l ih=>simp only [List.map_cons,List.sum_cons,List.length_cons,ih];omega
 have e1:((S.ino D).dir.map fun e=>wtI S e.2).sum=((S.ino D).dir.map fun e=>sumF (fun k=>if decide (S.kindOf e.2=2∧Anc S e.2.toNat k)=true then (S.ino k).dir.length else 0) 200).sum:=by
  congr 1
  exact List.map_congr_left fun e he=>wtI_child hI he
 have e2:(S.ino D).dir.length≤sumF (fun k=>if k=D then (S.ino k).dir.length else 0) 200:=by
  have:=br.sumF_le (f:=fun k=>if k=D then (S.ino k).dir.length else 0) h1 h2
  simpa using this
 rw [e0,e1,sumF_swap]
 refine Nat.le_trans (Nat.add_le_add_right e2 _) ?_
 rw [←sumF_add]
 unfold wt
 refine br.sumF_mono fun k k1 k2=>?_
 rw [sum_filter (fun e:En=>decide (S.kindOf e.2=2∧Anc S e.2.toNat k))]
 by_cases hf:(S.ino D).dir.filter (fun e:En=>decide (S.kindOf e.2=2∧Anc S e.2.toNat k))=[]
 ·rw [hf]
  by_cases hk:k=D
  ·subst hk;rw [Jb rfl,Jb .refl];simp
  ·rw [Ja hk];simp
 ·obtain ⟨e,hm⟩:=List.exists_mem_of_ne_nil _ hf
  rw [List.mem_filter,decide_eq_true_eq] at hm
  obtain ⟨he,hk,ha⟩:=hm
  obtain ⟨I,eI,c1,c2,c3,c4,c5,c6,c7⟩:=child hI hd he hk
  have ma:Anc S I k:=by rw [eI] at ha;simpa using ha
  have hD:k≠D:=by
   rintro rfl
   have:=ma.deep hd
   omega
  have hA:Anc S D k:=Anc.trans (.up .refl c1 c2 c3 c4) ma
  rw [Ja hD,Jb hA,Nat.zero_add]
  have qa:((S.ino D).dir.filter (fun e:En=>decide (S.kindOf e.2=2∧Anc S e.2.toNat k))).length≤1:=by
   have h3:((S.ino D).dir.filter (fun e:En=>decide (S.kindOf e.2=2∧Anc S e.2.toNat k))).length≤br.names (I:Int) (S.ino D).dir:=by
    unfold br.names
    rw [←List.countP_eq_length_filter,←List.countP_eq_length_filter]
    have:∀l:List En,(∀x∈l,x∈(S.ino D).dir)→l.countP (fun e:En=>decide (S.kindOf e.2=2∧Anc S e.2.toNat k))≤l.countP (fun e:En=>decide (e.2=(I:Int))):=by
     intro l hl
     refine List.countP_mono_left fun x hx hp=>?_
     rw [decide_eq_true_eq] at hp ⊢
     obtain ⟨J,eJ,d1,d2,d3,d4,d5,d6,d7⟩:=child hI hd (hl x hx) hp.1
     have hJ:Anc S J k:=by have:=hp.2;rw [eJ] at this;simpa using this
     rw [eJ]
     by_cases hij:I=J
     ·rw [hij]
     ·exfalso
      rcases ma.line hJ with h|h
      ·cases h with
       | refl=>exact hij rfl
       | up h _ _ hp _ =>
        obtain rfl:_=_:=Int.ofNat_inj.1 (hp.symm.trans d3)
        have:=h.deep hd;omega
      ·cases h with
       | refl=>exact hij rfl
       | up h _ _ hp _ =>
        obtain rfl:_=_:=Int.ofNat_inj.1 (hp.symm.trans c3)
        have:=h.deep hd;omega
    exact this _ fun x hx=>hx
   have h4:br.names (I:Int) (S.ino D).dir≤S.names I 200:=br.sumF_le (f:=fun k=>br.names (I:Int) (S.ino k).dir) h1 h2
   have h5:=hI.links I c5 c6
   have h6:=hI.single I c1
   rw [Ja c4] at h5
   omega
  exact Nat.le_trans (Nat.mul_le_mul_right _ qa) (by rw [Nat.one_mul];exact Nat.le_refl _)
theorem sumF_cap {f:Nat→Nat} {c:Nat} (h:∀k,f k≤c):∀n,sumF f n≤n*c
 | 0=>Nat.zero_le _
 | n+1=>by
  have h1:=sumF_cap h n
  have h2:=h (n+1)
  simp only [sumF]
  rw [Nat.add_mul]
  omega
theorem wt_cap (hI:Inv S room) (d:Nat):wt S d≤800000:=by
 refine Nat.le_trans (sumF_cap (c:=4000) (fun k=>?_) 200) (by decide)
 split
 ·exact hI.dirLen k
 ·exact Nat.zero_le _
theorem wtI_cap (hI:Inv S room) (i:Int):wtI S i≤800000:=by
 unfold wtI
 split
 ·exact wt_cap hI _
 ·exact Nat.zero_le _
theorem wtI_zero (S:BS):wtI S 0=0:=by unfold wtI;rw [mg.kind_zero];rfl
noncomputable def got (S:BS) (d:Int) (s:ByteArray):Nat:=if (S.get d s).2=0 then 1+wtI S (S.get d s).1 else 0
theorem zero_sum {α:Type}:∀l:List α,(l.map fun _=>(0:Nat)).sum=0
 | []=>rfl
 | _::l=>by simpa using zero_sum l
theorem sum_once (a:ByteArray) (c:Nat):∀ {l:List ByteArray},l.Nodup→(l.map fun s=>if a=s then c else 0).sum≤c
 | [],_=>Nat.zero_le _
 | s::l,h=>by
  have hn:=List.nodup_cons.1 h
  simp only [List.map_cons,List.sum_cons]
  by_cases e:a=s
  ·subst e
   rw [Jb rfl]
   have:(l.map fun s=>if a=s then c else 0).sum=0:=by
    rw [List.map_congr_left (g:=fun _=>0) fun s hs=>Ja fun e:a=s=>hn.1 (e▸hs)]
    exact zero_sum l
   omega
  ·rw [Ja e]
   have:=sum_once a c hn.2
   omega
theorem sum_names (g:Int→Nat) {l:List ByteArray} (hl:l.Nodup):∀L:List En,(l.map fun s=>match lget s L with|some v=>g v|none=>0).sum≤(L.map fun e=>g e.2).sum
 | []=>by
  have:(l.map fun s=>match lget s [] with|some v=>g v|none=>0)=l.map fun _=>0:=List.map_congr_left fun s _=>rfl
  rw [this];clear this hl
  induction l with
  | nil=>exact Nat.le_refl _
  | cons _ l ih=>simpa using ih
 | e::L=>by
  have h1:=sum_names g hl L
  have h2:=sum_once e.1 (g e.2) hl
  have h3:(l.map fun s=>match lget s (e::L) with|some v=>g v|none=>0).sum≤(l.map fun s=>(if e.1=s then g e.2 else 0)+match lget s L with|some v=>g v|none=>0).sum:=by
   refine sum_le fun s _=>?_
   rw [lget_cons']
   by_cases e1:e.1=s
   ·rw [Jb e1,Jb e1];simp
   ·rw [Ja e1,Ja e1];simp
  rw [sum_add] at h3
  simp only [List.map_cons,List.sum_cons]
  omega
theorem got_sum (hI:Inv S room) {deep:Nat→Nat} (hd:Deep S deep) (d:Int) {l:List ByteArray} (hl:l.Nodup):(l.map fun s=>got S d s).sum≤wtI S d:=by
 by_cases hk:S.dirE d false=0
 ·obtain ⟨D,rfl,h1,h2,h3,_⟩:=br.dirE_ok hk
  have hw:wtI S (D:Int)=wt S D:=by unfold wtI;rw [kind_at hI rfl h1 h2,Jb h3];rfl
  rw [hw]
  refine Nat.le_trans (Nat.le_trans (sum_le fun s _=>?_) (sum_names (fun v=>1+wtI S v) hl (S.ino D).dir)) (wt_step hI hd h1 h2)
  unfold got BS.get
  rw [Ja (show ¬(S.dirE (D:Int) false≠0) from fun e=>e hk),br.at_nat]
  cases lget s (S.ino D).dir with
  | none=>simp
  | some v=>simp
 ·have:(l.map fun s=>got S d s)=l.map fun _=>0:=List.map_congr_left fun s _=>by
   unfold got;rw [mg.get_none d s hk];rw [Ja hk]
  rw [this]
  have h0:∀l:List ByteArray,(l.map fun _=>(0:Nat)).sum=0:=fun l=>by induction l with|nil=>rfl|cons _ l ih=>simpa using ih
  rw [h0];exact Nat.zero_le _
noncomputable def wN (U L:BS) (n:Nd):Nat:=wtI U n.1+wtI L n.2
theorem get_bel {U L:BS} {room:Nat} (hL:Inv L room) (n:Nd) (s:ByteArray) (h:(L.get (belV U n) s).1≠0):belV U n=n.2∧(L.get n.2 s).2=0:=by
 have hz:=mg.get_zero hL (belV U n) s
 have h2:(L.get (belV U n) s).2=0:=by
  by_cases e:(L.get (belV U n) s).2=0
  ·exact e
  ·exact absurd (hz.2 e) h
 unfold belV at h2 h ⊢
 split
 ·rename_i e
  rw [Jb e] at h2
  have:=br.get_ok h2
  obtain ⟨D,e0,h1,_⟩:=this
  omega
 ·rename_i e
  rw [Ja e] at h2
  exact ⟨rfl,h2⟩
theorem wN_step {r1 r2:Nat} (hU:Inv U r1) (hL:Inv L r2) (n:Nd) (s:ByteArray) (h:(getV U L n s).2=0) :
  1+wN U L (getV U L n s).1≤got U n.1 s+got L n.2 s:=by
 have h0:lstV U L n=0:=by
  by_cases e:lstV U L n=0
  ·exact e
  ·rw [mg.getV_lst e] at h;exact absurd h e
 have hn:seenV U L (pairV U L n s)≠(0,0):=by
  intro e
  unfold getV at h
  rw [Ja (by rw [h0];decide),Jb e] at h
  exact absurd h (by decide)
 have hg:(getV U L n s).1=seenV U L (pairV U L n s):=by
  unfold getV
  rw [Ja (by rw [h0];decide),Ja hn]
 rw [hg]
 have ma:=mg.get_kind hU n.1 s
 have qa:=mg.get_zero hU n.1 s
 have gU:U.kindOf (U.get n.1 s).1≠0→got U n.1 s=1+wtI U (U.get n.1 s).1:=fun e=>by
  unfold got
  rw [Jb]
  by_cases e2:(U.get n.1 s).2=0
  ·exact e2
  ·exact absurd (ma.2 (qa.2 e2)) e
 have gL:(L.get (belV U n) s).1≠0→got L n.2 s=1+wtI L (L.get (belV U n) s).1:=fun e=>by
  obtain ⟨e1,e2⟩:=get_bel hL n s e
  unfold got
  rw [Jb e2,e1]
 have ja:=mg.kind_zero L
 unfold seenV at hn ⊢
 unfold pairV at hn ⊢
 generalize U.get n.1 s=x at *
 generalize L.get (belV U n) s=y at *
 obtain ⟨x1,x2⟩:=x
 obtain ⟨y1,y2⟩:=y
 dsimp only at *
 by_cases e1:U.kindOf x1=0
 ·rw [Jb e1] at hn ⊢
  by_cases e2:L.kindOf y1=4
  ·rw [Jb e2] at hn;exact absurd rfl hn
  ·rw [Ja e2] at hn ⊢
   have hy:y1≠0:=fun e=>hn (by rw [e])
   rw [gL hy]
   unfold wN
   rw [wtI_zero];dsimp only;omega
 ·rw [Ja e1] at hn ⊢
  by_cases e2:U.kindOf x1=4
  ·rw [Jb e2] at hn;exact absurd rfl hn
  ·rw [Ja e2] at hn ⊢
   rw [gU e1]
   by_cases e3:U.kindOf x1=2∧L.kindOf y1=2∧opq U x1=false
   ·rw [Jb e3]
    have hy:y1≠0:=fun e=>by rw [e,ja] at e3;exact absurd e3.2.1 (by decide)
    rw [gL hy]
    unfold wN;dsimp only;omega
   ·rw [Ja e3]
    unfold wN
    rw [wtI_zero];dsimp only;omega
theorem wN_sum {r1 r2:Nat} (hU:Inv U r1) (hL:Inv L r2) {dU dL:Nat→Nat} (hdU:Deep U dU) (hdL:Deep L dL) (n:Nd) {l:List ByteArray} (hl:AllV U L n l) :
  (l.map fun s=>1+wN U L (getV U L n s).1).sum≤wN U L n:=by
 have hn:l.Nodup:=hl.rise.imp fun {a b} h e=>by subst e;rw [dn.less_irrefl] at h;cases h
 refine Nat.le_trans (sum_le fun s hs=>wN_step hU hL n s ((hl.mem s).1 hs)) ?_
 rw [sum_add]
 exact Nat.add_le_add (got_sum hU hdU n.1 hn) (got_sum hL hdL n.2 hn)
theorem wN_cap {r1 r2:Nat} (hU:Inv U r1) (hL:Inv L r2) (n:Nd):wN U L n≤1600000:=Nat.add_le_add (wtI_cap hU _) (wtI_cap hL _)
noncomputable def hgt (S:BS) (deep:Nat→Nat) (i:Int):Nat:=if S.kindOf i=2 then 201 - deep i.toNat else 0
theorem hgt_child (hI:Inv S room) {deep:Nat→Nat} (hd:Deep S deep) (d:Int) (s:ByteArray) (h:(S.get d s).2=0):hgt S deep (S.get d s).1<hgt S deep d:=by
 obtain ⟨D,rfl,h1,h2,h3,h4⟩:=br.get_ok h
 have h5:=(dn.lget_some (hI.sorted D)).1 h4
 have hD:hgt S deep (D:Int)=201 - deep D:=by unfold hgt;rw [kind_at hI rfl h1 h2,Jb h3];rfl
 have ma:=hd.1 D
 rw [hD]
 by_cases hk:S.kindOf (S.get (D:Int) s).1=2
 ·obtain ⟨I,eI,_,_,_,_,_,_,c7⟩:=child hI hd h5 hk
  have:=hd.1 I
  unfold hgt
  rw [Jb hk]
  dsimp only at eI
  rw [eI]
  show 201 - deep ((I:Int)).toNat<_
  rw [Int.toNat_natCast];omega
 ·unfold hgt;rw [Ja hk];omega
noncomputable def hN (U L:BS) (dU dL:Nat→Nat) (n:Nd):Nat:=max (hgt U dU n.1) (hgt L dL n.2)
theorem hgt_le (S:BS) (deep:Nat→Nat) (i:Int):hgt S deep i≤201:=by unfold hgt;split <;> omega
theorem hN_le (U L:BS) (dU dL:Nat→Nat) (n:Nd):hN U L dU dL n≤201:=Nat.max_le.2 ⟨hgt_le _ _ _,hgt_le _ _ _⟩
theorem hgt_zero (S:BS) (deep:Nat→Nat):hgt S deep 0=0:=by unfold hgt;rw [mg.kind_zero];rfl
theorem hN_child {r1 r2:Nat} (hU:Inv U r1) (hL:Inv L r2) {dU dL:Nat→Nat} (hdU:Deep U dU) (hdL:Deep L dL) (n:Nd) (s:ByteArray) (h:(getV U L n s).2=0) :
  hN U L dU dL (getV U L n s).1<hN U L dU dL n:=by
 have h0:lstV U L n=0:=by
  by_cases e:lstV U L n=0
  ·exact e
  ·rw [mg.getV_lst e] at h;exact absurd h e
 have hn:seenV U L (pairV U L n s)≠(0,0):=by
  intro e
  unfold getV at h
  rw [Ja (by rw [h0];decide),Jb e] at h
  exact absurd h (by decide)
 have hg:(getV U L n s).1=seenV U L (pairV U L n s):=by
  unfold getV
  rw [Ja (by rw [h0];decide),Ja hn]
 rw [hg]
 have ma:=mg.get_kind hU n.1 s
 have qa:=mg.get_zero hU n.1 s
 have cU:U.kindOf (U.get n.1 s).1≠0→hgt U dU (U.get n.1 s).1<hgt U dU n.1:=fun e=>hgt_child hU hdU _ _ (by
  by_cases e2:(U.get n.1 s).2=0
  ·exact e2
  ·exact absurd (ma.2 (qa.2 e2)) e)
 have cL:(L.get (belV U n) s).1≠0→hgt L dL (L.get (belV U n) s).1<hgt L dL n.2:=fun e=>by
  obtain ⟨e1,e2⟩:=get_bel hL n s e
  rw [e1]
  exact hgt_child hL hdL _ _ e2
 have ja:=mg.kind_zero L
 have zU:=hgt_zero U dU
 have zL:=hgt_zero L dL
 unfold seenV at hn ⊢
 unfold pairV at hn ⊢
 unfold hN
 generalize U.get n.1 s=x at *
 generalize L.get (belV U n) s=y at *
 obtain ⟨x1,x2⟩:=x
 obtain ⟨y1,y2⟩:=y
 dsimp only at *
 by_cases e1:U.kindOf x1=0
 ·rw [Jb e1] at hn ⊢
  by_cases e2:L.kindOf y1=4
  ·rw [Jb e2] at hn;exact absurd rfl hn
  ·rw [Ja e2] at hn ⊢
   have hy:y1≠0:=fun e=>hn (by rw [e])
   have:=cL hy
   dsimp only
   rw [zU];omega
 ·rw [Ja e1] at hn ⊢
  by_cases e2:U.kindOf x1=4
  ·rw [Jb e2] at hn;exact absurd rfl hn
  ·rw [Ja e2] at hn ⊢
   have:=cU e1
   by_cases e3:U.kindOf x1=2∧L.kindOf y1=2∧opq U x1=false
   ·rw [Jb e3]
    have hy:y1≠0:=fun e=>by rw [e,ja] at e3;exact absurd e3.2.1 (by decide)
    have:=cL hy
    dsimp only;omega
   ·rw [Ja e3]
    dsimp only
    rw [zL];omega
end
end fl
namespace fl
open Go.RowKit
open dn (En lget lset ldel nerr dotB Sorted lessB)
open br (BS Ino Inv Good Tree sumF)
open cb (BrX RetW RetI No)
open bl (Pq)
open mg (Nd Nv Vx Nb opq kindV lstV belV seenV pairV getV rootV AllV NR readN targN ReadN bel_step bel_alloc)
def slB:ByteArray:=⟨#[47]⟩
def contV (U L:BS) (x:Nd):ByteArray :=
 if kindV U L x=1 then bl.strF (cb.readI (readN U L x).1 (readN U L x).2 0 65536).2 (fun j=>((readN U L x).1.at (readN U L x).2).body.dat ((0:Int).toNat+j))
 else if kindV U L x=3 then (targN U L x).1 else ⟨#[]⟩
section
open Classical
noncomputable def namesV (U L:BS) (n:Nd):List ByteArray:=if h:∃l,AllV U L n l then Classical.choose h else []
theorem namesV_eq {U L:BS} {n:Nd} {l:List ByteArray} (h:AllV U L n l):namesV U L n=l:=by
 unfold namesV
 rw [dif_pos ⟨l,h⟩]
 exact (Classical.choose_spec (⟨l,h⟩:∃l,AllV U L n l)).same h
end
noncomputable def linesV (U L:BS):Nat→Nd→ByteArray→List Ln
 | 0,_,_=>[]
 | d+1,n,at_=>(namesV U L n).flatMap fun s=>⟨at_++slB++s,kindV U L (getV U L n s).1,contV U L (getV U L n s).1⟩::linesV U L d (getV U L n s).1 (at_++slB++s)
noncomputable def linesN (U L:BS) (d:Nat) (n:Nd) (at_ s:ByteArray):List Ln :=
 ⟨at_++slB++s,kindV U L (getV U L n s).1,contV U L (getV U L n s).1⟩::linesV U L d (getV U L n s).1 (at_++slB++s)
theorem linesV_succ {U L:BS} {d:Nat} {n:Nd} {at_:ByteArray} {l:List ByteArray} (h:AllV U L n l):linesV U L (d+1) n at_=l.flatMap (linesN U L d n at_):=by
 unfold linesV;rw [namesV_eq h];rfl
theorem linesV_len {U L:BS} {r1 r2:Nat} (hU:Inv U r1) (hL:Inv L r2) {dU dL:Nat→Nat} (hdU:Deep U dU) (hdL:Deep L dL) (hA:∀n,∃l,AllV U L n l):∀(d:Nat) (n:Nd) (at_:ByteArray),(linesV U L d n at_).length≤wN U L n
 | 0,n,at_=>Nat.zero_le _
 | d+1,n,at_=>by
  obtain ⟨l,hl⟩:=hA n
  rw [linesV_succ hl,List.length_flatMap]
  refine Nat.le_trans (sum_le fun s _=>?_) (wN_sum hU hL hdU hdL n hl)
  show (linesN U L d n at_ s).length≤_
  unfold linesN
  rw [List.length_cons]
  have:=linesV_len hU hL hdU hdL hA d (getV U L n s).1 (at_++slB++s)
  omega
end fl
namespace fl
open Go.RowKit
open dn (En lget lset ldel nerr dotB Sorted lessB)
open br (BS Ino Inv Good Tree sumF)
open cb (BrX RetW RetI No)
open bl (Pq)
open mg (Nd Nv Vx Nb opq kindV lstV belV seenV pairV getV rootV AllV NR QB readN targN ReadN AllE bel_step bel_alloc grown_bel grown_set set_below set_size heap_set)
def lc (x:Ln):List Value:=[.string x.path,.int .i64 x.kind,.string x.data]
def lcs (X:List Ln):List Value:=X.flatMap lc
theorem lcs_len:∀X:List Ln,(lcs X).length=X.length*3
 | []=>rfl
 | x::X=>by
  have:=lcs_len X
  unfold lcs at this ⊢
  rw [List.flatMap_cons,List.length_append,this,List.length_cons]
  show 3+_=_
  omega
theorem lcs_app (X Y:List Ln):lcs (X++Y)=lcs X++lcs Y:=by unfold lcs;rw [List.flatMap_append]
theorem lcs_get:∀ {X:List Ln} {k:Nat} {x:Ln},X[k]?=some x→(lcs X)[3*k]?=some (.string x.path)∧(lcs X)[3*k+1]?=some (.int .i64 x.kind)∧(lcs X)[3*k+2]?=some (.string x.data)
 | [],k,x,h=>by cases k <;> cases h
 | y::X,0,x,h=>by
  injection h with h
  subst h
  exact ⟨rfl,rfl,rfl⟩
 | y::X,k+1,x,h=>by
  have h1:=lcs_get (X:=X) (k:=k) (x:=x) (by simpa using h)
  have e:lcs (y::X)=lc y++lcs X:=by unfold lcs;rw [List.flatMap_cons]
  have hl:(lc y).length=3:=rfl
  rw [e]
  refine ⟨?_,?_,?_⟩
  ·rw [List.getElem?_append_right (by rw [hl];omega),hl,show 3*(k+1) - 3=3*k from by omega];exact h1.1
  ·rw [List.getElem?_append_right (by rw [hl];omega),hl,show 3*(k+1)+1 - 3=3*k+1 from by omega];exact h1.2.1
  ·rw [List.getElem?_append_right (by rw [hl];omega),hl,show 3*(k+1)+2 - 3=3*k+2 from by omega];exact h1.2.2
theorem info_parts79:∃i:TypeInfo,Tryz.prog.info? 104=some i∧i.zero=some (.agg #[.string ⟨#[]⟩,.int .i64 0,.string ⟨#[]⟩])∧i.size=3∧i.bytes=40:=⟨(Tryz.prog.info? 104).get (by kernel_rfl),by kernel_rfl,by kernel_rfl,by kernel_rfl,by kernel_rfl⟩
theorem cell_three_new (w:World) (x y z:Value) (t:TypeId):∀j u,[x,y,z][j]?=some u→(w.alloc (.cells #[x,y,z] t)).cell? ((⟨w.heap.size,0,none⟩:Addr).add j)=some u:=by
 intro j u hj
 match j,hj with
 | 0,hj=>simp at hj;subst hj;simp [Addr.add]
 | 1,hj=>simp at hj;subst hj;simp [Addr.add]
 | 2,hj=>simp at hj;subst hj;simp [Addr.add]
abbrev LO (w:World) (B:Nat) (A:Value) (X:List Ln):Prop:=w.ownsRow B 104 3 A X.length (lcs X)
theorem LO.same {w w':World} {B:Nat} {v:Value} {X:List Ln} (h:LO w B v X) (hk:∀g,v.ownBlock=some g→w'.heap[g]?=w.heap[g]?):LO w' B v X:=by
 refine ⟨h.1,?_⟩
 rcases h.2 with e|⟨g,cap,cur,hv,hb,hg,r⟩
 ·exact .inl e
 ·exact .inr ⟨g,cap,cur,hv,hb,(hk g (by rw [hv];rfl)).trans hg,r⟩
theorem LO.lt {w:World} {B:Nat} {v:Value} {X:List Ln} (h:LO w B v X) {k:Nat} (hk:v.ownBlock=some k):B≤k∧k<w.heap.size:=World.ownsRow.lt h k hk
theorem LO.below {w w':World} {B:Nat} {v:Value} {X:List Ln} (h:LO w B v X) (hb:Below w.heap.size w w'):LO w' B v X:=h.same fun g hg=>hb.block g (h.lt hg).2
theorem LO.of {w:World} {B:Nat} {v:Value} {X:List Ln} {x:Ln} (h:w.ownsRow B 104 3 v (X.length+1) (lcs X++lc x)):LO w B v (X++[x]):=by
 unfold LO;rw [List.length_append,lcs_app];simpa [lcs] using h
structure Tn (w w':World) (bl:Nat) (A A':Value):Prop where
 size:w.heap.size≤w'.heap.size
 blk:∀g,g<w.heap.size→g≠bl→A.ownBlock≠some g→w'.heap[g]?=w.heap[g]?
 row:∀k,A'.ownBlock=some k→A.ownBlock=some k∨w.heap.size≤k
section
variable {w0 w w' w2:World} {bv bl bf V B:Nat} {A A' A2:Value} {X:List Ln}
theorem Tn.refl (w:World) (bl:Nat) (A:Value):Tn w w bl A A:=⟨Nat.le_refl _,fun _ _ _ _=>rfl,fun _ h=>.inl h⟩
theorem Tn.trans (h:Tn w w' bl A A') (k:Tn w' w2 bl A' A2):Tn w w2 bl A A2 :=
 ⟨Nat.le_trans h.size k.size,fun g h1 h2 h3=>(k.blk g (Nat.lt_of_lt_of_le h1 h.size) h2 (fun e=>by rcases h.row g e with e|e;exact h3 e;omega)).trans (h.blk g h1 h2 h3),
  fun j e=>by
   rcases k.row j e with e|e
   ·exact h.row j e
   ·exact .inr (Nat.le_trans h.size e)⟩
theorem Tn.bel (hb:Below w.heap.size w w'):Tn w w' bl A A:=⟨hb.size,fun g h1 _ _=>hb.block g h1,fun _ h=>.inl h⟩
theorem Tn.nb {g:Nat} {n:Nd} (h:Tn w w' bl A A') (hn:Nb w g n) (h1:g≠bl) (h2:A.ownBlock≠some g):Nb w' g n :=
 ⟨(World.cell?_of_block (a:=⟨g,0,none⟩) (h.blk g hn.lt h1 h2)).trans hn.c0,(World.cell?_of_block (a:=⟨g,1,none⟩) (h.blk g hn.lt h1 h2)).trans hn.c1⟩
theorem Tn.nr {lo:Nat} {a:Option Addr} {l:List ByteArray} (h:Tn w w' bl A A') (hn:NR w lo a l) (h1:bl<lo) (h2:∀k,A.ownBlock=some k→k<lo):NR w' lo a l :=
 hn.same h.size fun b b1 b2=>h.blk b b2 (by omega) (fun e=>by have:=h2 _ e;omega)
end
theorem name_size {U L:BS} {r1 r2:Nat} (hU:Inv U r1) (hL:Inv L r2) {n:Nd} {s:ByteArray} (h:(getV U L n s).2=0):s.size≤60:=by
 have h1:=wN_step hU hL n s h
 have one:∀ {S:BS} {r:Nat} {d:Int},Inv S r→got S d s≠0→s.size≤60:=fun {S r d} hI hg=>by
  unfold got at hg
  split at hg
  ·rename_i e
   obtain ⟨D,_,_,_,_,h4⟩:=br.get_ok e
   exact (cb.nerr_len (hI.good D _ ((dn.lget_some (hI.sorted D)).1 h4)).1).2
  ·exact absurd rfl hg
 by_cases e:got U n.1 s=0
 ·exact one hL (d:=n.2) (by omega)
 ·exact one hU e
end fl
namespace fl
open Go.RowKit
open dn (En lget lset ldel nerr dotB Sorted lessB)
open br (BS Ino Inv Tree sumF)
open cb (BrX RetW RetI No)
open bl (Pq)
open mg (Nd Nv Vx Nb opq kindV lstV belV seenV pairV getV rootV AllV NR QB readN targN ReadN AllE bel_step bel_alloc grown_bel grown_set set_below set_size heap_set)
theorem linesV_cap {U L:BS} {r1 r2:Nat} (hU:Inv U r1) (hL:Inv L r2) {dU dL:Nat→Nat} (hdU:Deep U dU) (hdL:Deep L dL):∀(d:Nat) (n:Nd) (at_:ByteArray),(linesV U L d n at_).length≤wN U L n
 | 0,n,at_=>Nat.zero_le _
 | d+1,n,at_=>by
  by_cases h:∃l,AllV U L n l
  ·obtain ⟨l,hl⟩:=h
   rw [linesV_succ hl,List.length_flatMap]
   refine Nat.le_trans (sum_le fun s _=>?_) (wN_sum hU hL hdU hdL n hl)
   show (linesN U L d n at_ s).length≤_
   unfold linesN
   rw [List.length_cons]
   have:=linesV_cap hU hL hdU hdL d (getV U L n s).1 (at_++slB++s)
   omega
  ·unfold linesV namesV
   rw [dif_neg h]
   exact Nat.zero_le _
noncomputable def ofV (U L:BS) (u l:Int):List Ln:=linesV U L 202 (rootV U L u l) ⟨#[]⟩
theorem ofV_len {U L:BS} {r1 r2:Nat} (hU:br.Good U r1) (hL:br.Good L r2) (u l:Int):(ofV U L u l).length≤1600000:=by
 obtain ⟨dU,hdU⟩:=br.Tree.bound hU.1 hU.2
 obtain ⟨dL,hdL⟩:=br.Tree.bound hL.1 hL.2
 exact Nat.le_trans (linesV_cap hU.1 hL.1 hdU hdL _ _ _) (wN_cap hU.1 hL.1 _)
end fl
namespace cu
open Go.RowKit
open Go.Maps (Keyed IsMap isMap_empty atKey_put_same atKey_put_other string_keyed has_put_same has_put_other atKey_of_not_has)
open Go.WideMaps (keyOf_string_mk string_of_keyOf)
open mg (RV k9)
set_option maxRecDepth 100000
def zput (f:ByteArray→Option Int) (a:ByteArray) (v:Int):ByteArray→Option Int:=fun x=>if x=a then some v else f x
def MapZ (w:World) (M S:Nat) (f:(ByteArray→Option Int)):Prop :=
 ∃D:DataW Value,w.ownsMap Tryz.prog 9 RV M S D∧IsMap D∧(∀a:ByteArray,Maps.has D (.string a.data.toList)=(f a).isSome)∧(∀(a:ByteArray) v zd,f a=some v→D.atKey (.string a.data.toList) zd=.held (.int .i64 v))
theorem MapZ.made (w:World):MapZ (w.alloc (.map #[] 0)) w.heap.size 0 (fun _=>none):=⟨.map [],World.ownsMap_made _ _ _ _,isMap_empty,fun a=>rfl,fun a v zd h=>(nomatch h)⟩
theorem str_inj_Z {a b:ByteArray} (h:Lit.string a.data.toList=Lit.string b.data.toList):a=b:=by
 injection h with h
 rw [←Lib.mk_data a,←Lib.mk_data b,h]
section
variable {w:World} {M S:Nat} {f:(ByteArray→Option Int)}
theorem MapZ.lt (h:MapZ w M S f):M<w.heap.size:=by obtain ⟨D,h,_⟩:=h;exact h.lt
theorem MapZ.of_block {w':World} (h:MapZ w M S f) (hb:w'.heap[M]?=w.heap[M]?):MapZ w' M S f:=by
 obtain ⟨D,⟨es,clock,h1,h2⟩,r⟩:=h
 exact ⟨D,⟨es,clock,hb.trans h1,h2⟩,r⟩
theorem MapZ.below {w':World} (h:MapZ w M S f) (hb:Below w.heap.size w w'):MapZ w' M S f:=h.of_block (hb.block M h.lt)
theorem MapZ.put (h:MapZ w M S f) (hn:S≤4000000) {a:ByteArray} (ha:a.size≤maxLen) (v:Int) :
  ∃w',(Instr.mapUpdate 179 (.map (some M)) (.string a) (.int .i64 v)).run Tryz.prog w=.ok () w'∧MapZ w' M (S+1) (zput f a v)∧w.grownBy w' (some M):=by
 obtain ⟨D,h1,h2,h3,h4⟩:=h
 obtain ⟨w',hrun,hown,hg⟩:=h1.update (string_keyed k9) Tryz.underlying179 (by unfold maxLen;omega) (keyOf_string_mk k9 ha) (show RV (.int .i64 v)=some (.held (.int .i64 v),[]) from rfl)
 refine ⟨w',hrun,⟨_,hown,h2.put _ _,fun x=>?_,fun x u zd hx=>?_⟩,hg⟩
 ·unfold zput
  by_cases e:x=a
  ·subst e;rw [Jb rfl,has_put_same h2 (show WideAt.IsKeyLit (.string x.data.toList) from trivial)];rfl
  ·rw [Ja e,has_put_other (fun h=>e (str_inj_Z h)),h3]
 ·unfold zput at hx
  by_cases e:x=a
  ·subst e
   rw [Jb rfl] at hx
   injection hx with hx
   subst hx
   exact atKey_put_same h2 (show WideAt.IsKeyLit (.string x.data.toList) from trivial) _ _
  ·rw [Ja e] at hx
   rw [atKey_put_other (fun h=>e (str_inj_Z h))]
   exact h4 x u zd hx
theorem MapZ.look (h:MapZ w M S f) {a:ByteArray} (ha:a.size≤maxLen) :
  (Instr.lookup 179 (.map (some M)) (.string a) false).run Tryz.prog w=.ok (.int .i64 ((f a).getD 0)) w:=by
 obtain ⟨D,h1,h2,h3,h4⟩:=h
 obtain ⟨v,ps,hrun,hv⟩:=h1.lookup (string_keyed k9) Tryz.underlying179 (z:=.int .i64 0) (by kernel_rfl) (show RV (.int .i64 0)=some (.held (.int .i64 0),[]) from rfl) (keyOf_string_mk k9 ha)
 rw [hrun]
 unfold RV at hv
 injection hv with hv
 injection hv with hv
 cases hf:f a with
 | some u=>rw [h4 a u _ hf] at hv;injection hv with hv;rw [hv];rfl
 | none =>
  rw [atKey_of_not_has (by rw [h3,hf];rfl)] at hv
  injection hv with hv;rw [hv];rfl
end
end cu
namespace cu
open Go.ChangeShapes Go.WideShapes Go.ChangeAt Go.RowKit
theorem cells9:Tryz.prog.cellsOf 9=1:=by kernel_rfl
theorem open_names {H:Type} {enc:TypeId×Value→H} {W:World} {r:Reach} {b0:Nat} {sp:Nat→Bool} {held:Bool} {v:Value} {d:DataW H} {p:List MemPlace}
  (hv:Value.okWide Tryz.prog W r b0 43 v) (h:DataW.Trod enc Tryz.prog W 0 sp held 43 v d p) :
  ∃A c l,v=.slice A (l:List ByteArray).length c∧(l.length≤c∧c≤maxLen)∧NL W (fun b=>b<W.heap.size) A l:=by
 obtain ⟨fuel,hf⟩:=h
 have ma:v.cells.toList=[v]:=by
  obtain ⟨A,n,c,rfl⟩:=okWide_slice Tryz.underlying43 hv
  rfl
 rw [ma] at hf
 rcases open_strings Tryz.underlying43 Tryz.underlying9 cells9 hf with ⟨e,_⟩|⟨a,len,cap,ss,e,_,hl,hm,hz,_,hc,hz2⟩
 ·injection e with e
  subst e
  exact ⟨none,0,[],rfl,⟨Nat.le_refl _,by unfold maxLen;omega⟩,fun i s hi=>by cases hi⟩
 ·injection e with e
  subst e
  have xa:len≤ss.length:=by rw [hz];split <;> omega
  have qa:(ss.take len).length=len:=by rw [List.length_take];omega
  refine ⟨some a,cap,ss.take len,by rw [qa],by rw [qa];exact ⟨hl,hm⟩,fun i s hi=>?_⟩
  have ja:i<len:=by have:=(List.getElem?_eq_some_iff.1 hi).1;omega
  obtain ⟨b,off,rfl,hb⟩:=cb.spot_none (hc 0 (by omega))
  have:=hc i (by omega)
  rw [Go.WideShapes.add_plain] at this
  rw [List.getElem?_take,Jb ja] at hi
  have e:ss.getD i ByteArray.empty=s:=by rw [List.getD_eq_getElem?_getD,hi];rfl
  rw [e] at this
  refine ⟨b,off,rfl,hb,this,?_⟩
  have h2:=hz2 s (List.mem_of_getElem? hi)
  unfold maxLen at h2
  exact h2
theorem names_stay {H:Type} {enc:TypeId×Value→H} {W W':World} {v:Value} {d:DataW H} {ps before:List MemPlace} {sp:Nat→Bool}
  (h:DataW.Trod enc Tryz.prog W 0 (fun _=>true) true 43 v d ps) (hb:Below W.heap.size W W') (hsub:∀x∈ps,x∈before) (hlt:∀x∈before,x.block<W.heap.size) (hsp:∀x∈before,sp x.block=true) (hlaid:laidOutB Tryz.prog=true) :
  DataW.Trod enc Tryz.prog W' 0 sp true 43 v d ps :=
 WideElems.Trod_stays hlaid (by kernel_rfl) (of_decide_eq_true (by kernel_rfl)) h (fun x hx=>hb.same (hlt x (hsub x hx))) (fun x hx=>hsp x (hsub x hx))
end cu
end Go.Proofs.YtgoddboicjfkcaaGreat
