/- Part 46 of what is known of the program's functions and of the document's words: contracts, and the mathematics beneath them. -/
import Derived.Test.YtgoddboicjfkcaaGreatProg
import Derived.Test.YtgoddboicjfkcaaGreatZ02
import Derived.Test.YtgoddboicjfkcaaGreatZ44
import Derived.Test.YtgoddboicjfkcaaGreatZ36
import Derived.Lib.MinMax
import Derived.Lib.Builder
import Derived.Lib.AppendStr
import Derived.Lib.UnsafeStr
import Derived.Laws.Externs
import Derived.Deep.QuietTactic
import Derived.Test.YtgoddboicjfkcaaGreatZ33
import Derived.Test.YtgoddboicjfkcaaGreatZ45
set_option linter.unusedVariables false
set_option linter.unusedSimpArgs false
set_option maxRecDepth 100000
set_option maxHeartbeats 8000000
namespace Go.Proofs.YtgoddboicjfkcaaGreat.fl
open Go.RowKit
open dn (En lget lset ldel nerr dotB Sorted lessB)
open br (BS Ino Inv Tree sumF fresh)
open mg (Nd opq kindV lstV belV seenV pairV getV rootV AllV)
theorem sorted_ex (Q:ByteArray→Prop):∀ C:List ByteArray,∃ L:List En,Sorted L∧∀ s,(∃ v,(s,v)∈L)↔(s∈C∧Q s)
 | []=>⟨[],List.Pairwise.nil,fun s=>by simp⟩
 | c::C=>by
  obtain ⟨L,hL,hm⟩:=sorted_ex Q C
  by_cases hc:Q c
  ·refine ⟨lset c 0 L,dn.lset_sorted hL,fun s=>?_⟩
   constructor
   ·rintro ⟨v,hv⟩
    rcases (dn.lset_mem hL _).1 hv with e|⟨e,_⟩
    ·injection e with e1 e2
     rw [e1];exact ⟨List.mem_cons_self,hc⟩
    ·have:=(hm s).1 ⟨v,e⟩
     exact ⟨List.mem_cons_of_mem _ this.1,this.2⟩
   ·rintro ⟨hs,hq⟩
    by_cases e:s=c
    ·exact ⟨0,(dn.lset_mem hL _).2 (.inl (by rw [e]))⟩
    ·rcases List.mem_cons.1 hs with h|h
     ·exact absurd h e
     ·obtain ⟨v,hv⟩:=(hm s).2 ⟨h,hq⟩
      exact ⟨v,(dn.lset_mem hL _).2 (.inr ⟨hv,e⟩)⟩
  ·refine ⟨L,hL,fun s=>?_⟩
   rw [hm s]
   constructor
   ·rintro ⟨a,b⟩;exact ⟨List.mem_cons_of_mem _ a,b⟩
   ·rintro ⟨a,b⟩
    rcases List.mem_cons.1 a with h|h
    ·exact absurd (h▸b) hc
    ·exact ⟨h,b⟩
theorem got_mem {S:BS} {room:Nat} (hI:Inv S room) {d:Int} {s:ByteArray} (h:got S d s≠0):s∈(S.all d).1.map (·.1):=by
 unfold got at h
 split at h
 ·rename_i e
  obtain ⟨D,rfl,h1,h2,h3,h4⟩:=br.get_ok e
  have hm:=(dn.lget_some (hI.sorted D)).1 h4
  refine List.mem_map.2 ⟨(s,(S.get (D:Int) s).1),?_,rfl⟩
  unfold BS.all
  rw [if_neg,br.at_nat]
  ·exact hm
  ·unfold BS.dirE BS.isI
   rw [br.at_nat,decide_eq_true ⟨by omega,by omega,by rw [h3];decide⟩,h3]
   simp
 ·exact absurd rfl h
theorem allV_ex {U L:BS} {r1 r2:Nat} (hU:Inv U r1) (hL:Inv L r2) (n:Nd):∃ l,AllV U L n l:=by
 obtain ⟨L0,hs,hm⟩:=sorted_ex (fun s=>(getV U L n s).2=0) ((U.all n.1).1.map (·.1)++(L.all n.2).1.map (·.1))
 refine ⟨L0.map (·.1),by rw [List.pairwise_map];exact hs,fun s=>?_⟩
 rw [List.mem_map]
 constructor
 ·rintro ⟨⟨a,v⟩,h1,h2⟩
  dsimp only at h2
  rw [← h2]
  exact ((hm a).1 ⟨v,h1⟩).2
 ·intro h
  have h1:=wN_step hU hL n s h
  have h2:s∈(U.all n.1).1.map (·.1)++(L.all n.2).1.map (·.1):=by
   rw [List.mem_append]
   by_cases e:got U n.1 s=0
   ·exact .inr (got_mem hL (by omega))
   ·exact .inl (got_mem hU e)
  obtain ⟨v,hv⟩:=(hm s).2 ⟨h2,h⟩
  exact ⟨(s,v),hv,rfl⟩
theorem names_no {U L:BS} {n:Nd} (hl:lstV U L n≠0):namesV U L n=[]:=namesV_eq (AllV.none hl)
abbrev yA:ByteArray:=⟨#[47,97]⟩
abbrev yB:ByteArray:=⟨#[47,97,47,98]⟩
abbrev yC:ByteArray:=⟨#[47,99]⟩
abbrev yX:ByteArray:=⟨#[120]⟩
abbrev y1:ByteArray:=⟨#[97]⟩
abbrev y2:ByteArray:=⟨#[98]⟩
abbrev y3:ByteArray:=⟨#[99]⟩
def zl:List Ln:=[⟨yA,2,⟨#[]⟩⟩,⟨yB,1,yX⟩,⟨yC,3,y1⟩]
def z1:List Ln:=[⟨yB,1,yX⟩]
structure Zn where
 q:ByteArray
 s:ByteArray
 kind:Int
 data:ByteArray
def Zn.path (z:Zn):ByteArray:=z.q++slB++z.s
def Zn.ln (z:Zn):Ln:=⟨z.path,z.kind,z.data⟩
noncomputable def linesZ (U L:BS):Nat→Nd→ByteArray→List Zn
 | 0,_,_=>[]
 | d+1,n,at_=>(namesV U L n).flatMap fun s=>⟨at_,s,kindV U L (getV U L n s).1,contV U L (getV U L n s).1⟩::linesZ U L d (getV U L n s).1 (at_++slB++s)
theorem linesZ_ln (U L:BS):∀ (d:Nat) (n:Nd) (at_:ByteArray),(linesZ U L d n at_).map Zn.ln=linesV U L d n at_
 | 0,_,_=>rfl
 | d+1,n,at_=>by
  unfold linesZ linesV
  rw [List.map_flatMap]
  congr 1
  funext s
  rw [List.map_cons,linesZ_ln U L d]
  rfl
abbrev bl8 (s:ByteArray):List UInt8:=s.data.toList
def noSl (s:ByteArray):Prop:=(47:UInt8)∉bl8 s
theorem bl8_app (a b:ByteArray):bl8 (a++b)=bl8 a++bl8 b:=by
 unfold bl8
 rw [ByteArray.data_append,Array.toList_append]
theorem bl8_inj {a b:ByteArray} (h:bl8 a=bl8 b):a=b:=by rw [← Lib.mk_data a,← Lib.mk_data b];unfold bl8 at h;rw [h]
def pre (q:ByteArray) (p:ByteArray):Prop:=(bl8 q++[47]) <+: bl8 p
theorem path_bl (z:Zn):bl8 z.path=bl8 z.q++[47]++bl8 z.s:=by unfold Zn.path;rw [bl8_app,bl8_app];rfl
theorem sl_pre {a b:List UInt8} (ha:(47:UInt8)∉a) (hb:(47:UInt8)∉b) {r t:List UInt8} (h:a++47::r=b++47::t):a=b:=by
 induction a generalizing b with
 | nil =>
  cases b with
  | nil=>rfl
  | cons y b =>
   simp only [List.nil_append,List.cons_append,List.cons.injEq] at h
   exact absurd (h.1▸List.mem_cons_self) hb
 | cons x a ih =>
  cases b with
  | nil =>
   simp only [List.nil_append,List.cons_append,List.cons.injEq] at h
   exact absurd (h.1▸List.mem_cons_self) ha
  | cons y b =>
   simp only [List.cons_append,List.cons.injEq] at h
   rw [h.1,ih (fun e=>ha (List.mem_cons_of_mem _ e)) (fun e=>hb (List.mem_cons_of_mem _ e)) h.2]
theorem sl_none {a b:List UInt8} (hb:(47:UInt8)∉b) {r:List UInt8} (h:a++47::r=b):False:=hb (h▸by simp)
def hasDir (Z:List Zn) (p:ByteArray):Prop:=p=⟨#[]⟩∨∃ z∈Z,z.kind=2∧z.path=p
def lastN (Z:List Zn) (q:ByteArray):ByteArray:=Z.foldl (fun a z=>if z.q=q then z.s else a) ⟨#[]⟩
structure OkZ (Z:List Zn) (z:Zn):Prop where
 new:∀ y∈Z,y.path≠z.path
 dir:hasDir Z z.q
 up:lessB (lastN Z z.q) z.s=true
 k1:1≤z.kind
 k3:z.kind≤3
 empty:z.kind=2→z.data=⟨#[]⟩
 ns:noSl z.s
 sz:z.path.size≤30000
def OkAll (P Z:List Zn):Prop:=∀ i z,Z[i]?=some z→OkZ (P++Z.take i) z
theorem OkAll.nil (P:List Zn):OkAll P []:=fun i z h=>by cases h
theorem OkAll.cons {P Z:List Zn} {z:Zn} (h:OkZ P z) (k:OkAll (P++[z]) Z):OkAll P (z::Z):=fun i y hy=>by
 cases i with
 | zero=>injection hy with hy;subst hy;simpa using h
 | succ i =>
  have:=k i y hy
  rw [List.append_assoc] at this
  exact this
theorem OkAll.app {P Z Y:List Zn} (h:OkAll P Z) (k:OkAll (P++Z) Y):OkAll P (Z++Y):=fun i y hy=>by
 by_cases hi:i<Z.length
 ·rw [List.getElem?_append_left hi] at hy
  have:=h i y hy
  rwa [List.take_append_of_le_length (Nat.le_of_lt hi)]
 ·have hi':=Nat.le_of_not_lt hi
  rw [List.getElem?_append_right hi'] at hy
  have:=k (i - Z.length) y hy
  rw [List.take_append,List.take_of_length_le hi',← List.append_assoc]
  exact this
theorem lastN_app (Z Y:List Zn) (q:ByteArray) (h:∀ y∈Y,y.q≠q):lastN (Z++Y) q=lastN Z q:=by
 unfold lastN
 rw [List.foldl_append]
 generalize Z.foldl (fun a z=>if z.q=q then z.s else a) ⟨#[]⟩=a
 induction Y generalizing a with
 | nil=>rfl
 | cons y Y ih =>
  rw [List.foldl_cons,if_neg (h y List.mem_cons_self)]
  exact ih (fun y hy=>h y (List.mem_cons_of_mem _ hy)) a
theorem lastN_one (Z:List Zn) (z:Zn):lastN (Z++[z]) z.q=z.s:=by unfold lastN;rw [List.foldl_append,List.foldl_cons,List.foldl_nil,if_pos rfl]
theorem lastN_none {Z:List Zn} {q:ByteArray} (h:∀ y∈Z,y.q≠q):lastN Z q=⟨#[]⟩:=by have:=lastN_app [] Z q h;rwa [List.nil_append] at this
theorem hasDir.more {Z Y:List Zn} {p:ByteArray} (h:hasDir Z p):hasDir (Z++Y) p:=h.imp id fun ⟨z,a,b⟩=>⟨z,List.mem_append.2 (.inl a),b⟩
theorem path_pre (z:Zn):pre z.q z.path:=⟨bl8 z.s,by rw [path_bl]⟩
theorem pre_up {q s p:ByteArray} (h:pre (q++slB++s) p):pre q p:=by
 obtain ⟨t,h⟩:=h
 refine ⟨bl8 s++47::t,?_⟩
 rw [← h,bl8_app,bl8_app]
 show _=bl8 q++[47]++bl8 s++[47]++t
 simp
theorem pre_two {q s s' p:ByteArray} (hs:noSl s) (hs':noSl s') (h:pre (q++slB++s) p) (k:pre (q++slB++s') p):s=s':=by
 obtain ⟨t,h⟩:=h
 obtain ⟨t',k⟩:=k
 rw [← h,bl8_app,bl8_app,bl8_app,bl8_app] at k
 have e:bl8 s'++47::t'=bl8 s++47::t:=by
  have k':bl8 q++[47]++(bl8 s'++47::t')=bl8 q++[47]++(bl8 s++47::t):=by
   have:bl8 slB=[47]:=rfl
   rw [this] at k
   simpa [List.append_assoc] using k
  exact List.append_cancel_left k'
 exact (bl8_inj (sl_pre hs' hs e)).symm
theorem pre_name {q s s':ByteArray} (hs':noSl s') (h:pre (q++slB++s) (q++slB++s')):False:=by
 obtain ⟨t,h⟩:=h
 rw [bl8_app,bl8_app,bl8_app,bl8_app] at h
 have e:bl8 s++47::t=bl8 s':=by
  have k':bl8 q++[47]++(bl8 s++47::t)=bl8 q++[47]++bl8 s':=by
   have:bl8 slB=[47]:=rfl
   rw [this] at h
   simpa [List.append_assoc] using h
  exact List.append_cancel_left k'
 exact sl_none hs' e
theorem name_inj {q s s':ByteArray} (h:q++slB++s=q++slB++s'):s=s':=by
 have:=congrArg bl8 h
 rw [bl8_app,bl8_app,bl8_app,bl8_app] at this
 exact bl8_inj (List.append_cancel_left this)
theorem pre_self {q:ByteArray} (h:pre q q):False:=by
 obtain ⟨t,h⟩:=h
 have:=congrArg List.length h
 simp only [List.length_append,List.length_cons,List.length_nil] at this
 omega
structure Ahead (P:List Zn) (at_:ByteArray) (l:List ByteArray):Prop where
 dir:hasDir P at_
 done:∀ z∈P,pre at_ z.path→∃ s',noSl s'∧(z.path=at_++slB++s'∨pre (at_++slB++s') z.path)∧∀ s∈l,lessB s' s=true
 last:∀ s∈l,lessB (lastN P at_) s=true
theorem less_nil {s:ByteArray} (h:s≠⟨#[]⟩):lessB ⟨#[]⟩ s=true:=by
 have:bl8 s≠[]:=fun e=>h (bl8_inj (e.trans rfl))
 unfold lessB
 rw [Lib.toList_data,Lib.toList_data]
 unfold bl8 at this
 cases hs:s.data.toList with
 | nil=>exact absurd hs this
 | cons x t=>rfl
theorem name_ok {U L:BS} {r1 r2:Nat} (hU:Inv U r1) (hL:Inv L r2) {n:Nd} {s:ByteArray} (h:(getV U L n s).2=0):noSl s∧s≠⟨#[]⟩∧s.size≤60:=by
 have h1:=wN_step hU hL n s h
 have one:∀ {S:BS} {r:Nat} {d:Int},Inv S r→got S d s≠0→nerr s.data.toList=0:=fun {S r d} hI hg=>by
  unfold got at hg
  split at hg
  ·rename_i e
   obtain ⟨D,_,_,_,_,h4⟩:=br.get_ok e
   exact (hI.good D _ ((dn.lget_some (hI.sorted D)).1 h4)).1
  ·exact absurd rfl hg
 have hn:nerr s.data.toList=0:=by
  by_cases e:got U n.1 s=0
  ·exact one hL (d:=n.2) (by omega)
  ·exact one hU e
 refine ⟨?_,?_,(cb.nerr_len hn).2⟩
 ·intro hm
  have:nerr s.data.toList≠0:=by
   unfold nerr
   split
   ·decide
   ·split
    ·decide
    ·rw [if_pos (.inr hm)];decide
  exact this hn
 ·rintro rfl
  have:=(cb.nerr_len hn).1
  exact absurd this (by decide)
theorem kind_in {S:BS} {r:Nat} (hI:Inv S r) (i:Int):0≤S.kindOf i∧S.kindOf i≤4:=by
 unfold BS.kindOf
 split
 ·exact hI.kinds _
 ·exact ⟨by decide,by decide⟩
theorem kindV_in {U L:BS} {r1 r2:Nat} (hU:Inv U r1) (hL:Inv L r2) {n:Nd} (h:kindV U L n≠0):1≤kindV U L n∧kindV U L n≤3:=by
 obtain ⟨K,hK,hb⟩:∃ K:Int,(if n.1≠0 then U.kindOf n.1 else L.kindOf n.2)=K∧0≤K∧K≤4:=⟨_,rfl,by split;exact kind_in hU n.1;exact kind_in hL n.2⟩
 unfold kindV at h ⊢
 rw [hK] at h ⊢
 split at h
 ·exact absurd rfl h
 ·rename_i e
  rw [if_neg e];omega
theorem names_leaf {U L:BS} {n:Nd} (h:kindV U L n≠2):namesV U L n=[]:=by
 refine names_no ?_
 rcases mg.lst_cases U L n with ⟨a,_⟩|⟨_,a⟩|⟨a,_⟩
 ·omega
 ·exact absurd a h
 ·omega
theorem linesZ_leaf {U L:BS} {d:Nat} {n:Nd} {at_:ByteArray} (h:kindV U L n≠2):linesZ U L d n at_=[]:=by
 cases d with
 | zero=>rfl
 | succ d=>unfold linesZ;rw [names_leaf h];rfl
theorem cont_dir {U L:BS} {n:Nd} (h:kindV U L n=2):contV U L n=⟨#[]⟩:=by unfold contV;rw [h];rfl
theorem OkAll.mem {P Z:List Zn} (h:OkAll P Z) {z:Zn} (hz:z∈Z):∃ Y,OkZ Y z:=by
 obtain ⟨i,hi⟩:=List.mem_iff_getElem?.1 hz
 exact ⟨_,h i z hi⟩
theorem less_irr {s:ByteArray} (h:lessB s s=true):False:=by rw [dn.less_irrefl] at h;cases h
noncomputable def lineN (U L:BS) (d:Nat) (n:Nd) (at_ s:ByteArray):List Zn:=⟨at_,s,kindV U L (getV U L n s).1,contV U L (getV U L n s).1⟩::linesZ U L d (getV U L n s).1 (at_++slB++s)
theorem size3 (a s:ByteArray):(a++slB++s).size=a.size+1+s.size:=by rw [ByteArray.size_append,ByteArray.size_append];rfl
theorem linesZ_ok {U L:BS} {r:Nat} (hU:Inv U r) (hL:Inv L r):∀ (d:Nat) (n:Nd) (at_:ByteArray) (P:List Zn),at_.size+61*d≤30000→Ahead P at_ (namesV U L n) →
  OkAll P (linesZ U L d n at_)∧∀ z∈linesZ U L d n at_,pre at_ z.path
 | 0,_,_,_,_,_=>⟨OkAll.nil _,fun z h=>by cases h⟩
 | d+1,n,at_,P,hd,hA=>by
  obtain ⟨l0,hl0⟩:=allV_ex hU hL n
  have e0:=namesV_eq hl0
  unfold linesZ
  rw [e0] at hA ⊢
  have hg:∀ s∈l0,(getV U L n s).2=0:=fun s hs=>(hl0.mem s).1 hs
  have hr:=hl0.rise
  clear e0 hl0
  show OkAll P (l0.flatMap (lineN U L d n at_))∧∀ z∈l0.flatMap (lineN U L d n at_),pre at_ z.path
  induction l0 generalizing P with
  | nil=>exact ⟨OkAll.nil _,fun z h=>by cases h⟩
  | cons s l ih =>
   obtain ⟨n1,n2,n3⟩:=name_ok hU hL (hg s List.mem_cons_self)
   have hk:=kindV_in hU hL (mg.get_down hU hL n s (hg s List.mem_cons_self)).kind
   rw [List.pairwise_cons] at hr
   obtain ⟨z,ez⟩:∃ z:Zn,z=⟨at_,s,kindV U L (getV U L n s).1,contV U L (getV U L n s).1⟩:=⟨_,rfl⟩
   have zq:z.q=at_:=by rw [ez]
   have zs:z.s=s:=by rw [ez]
   have zp:z.path=at_++slB++s:=by rw [ez];rfl
   have hz:OkZ P z:=by
    refine ⟨fun y hy e=>?_,zq▸hA.dir,by rw [zq,zs];exact hA.last s List.mem_cons_self,by rw [ez];exact hk.1,by rw [ez];exact hk.2,fun e=>by rw [ez] at e ⊢;exact cont_dir e,zs▸n1,by rw [zp,size3];omega⟩
    rw [zp] at e
    have hp:pre at_ y.path:=by have:=path_pre z;rw [zq,zp,← e] at this;exact this
    obtain ⟨s',a,b,c⟩:=hA.done y hy hp
    rw [e] at b
    rcases b with b|b
    ·have:=name_inj b;subst this;exact less_irr (c _ List.mem_cons_self)
    ·exact pre_name n1 b
   have hno:∀ y∈P++[z],pre (at_++slB++s) y.path→False:=fun y hy hp=>by
    rcases List.mem_append.1 hy with hy|hy
    ·obtain ⟨s',a,b,c⟩:=hA.done y hy (pre_up hp)
     rcases b with b|b
     ·rw [b] at hp;exact pre_name a hp
     ·have:=pre_two n1 a hp b;subst this;exact less_irr (c _ List.mem_cons_self)
    ·rw [List.mem_singleton] at hy;rw [hy,zp] at hp;exact pre_self hp
   have hB:OkAll (P++[z]) (linesZ U L d (getV U L n s).1 (at_++slB++s))∧∀ y∈linesZ U L d (getV U L n s).1 (at_++slB++s),pre (at_++slB++s) y.path:=by
    by_cases k2:kindV U L (getV U L n s).1=2
    ·refine linesZ_ok hU hL d (getV U L n s).1 (at_++slB++s) (P++[z]) (by rw [size3];omega) ⟨?_,fun y hy hp=>(hno y hy hp).elim,fun s2 hs2=>?_⟩
     ·exact .inr ⟨z,List.mem_append.2 (.inr List.mem_cons_self),by rw [ez];exact k2,zp⟩
     ·rw [lastN_none fun y hy e=>hno y hy (by have:=path_pre y;rw [e] at this;exact this)]
      obtain ⟨lx,hlx⟩:=allV_ex hU hL (getV U L n s).1
      rw [namesV_eq hlx] at hs2
      exact less_nil (name_ok hU hL ((hlx.mem s2).1 hs2)).2.1
    ·rw [linesZ_leaf k2]
     exact ⟨OkAll.nil _,fun z h=>by cases h⟩
   have hC:Ahead (P++lineN U L d n at_ s) at_ l:=by
    unfold lineN
    rw [← ez]
    refine ⟨hA.dir.more,fun y hy hp=>?_,fun s2 hs2=>?_⟩
    ·rcases List.mem_append.1 hy with hy|hy
     ·obtain ⟨s',a,b,c⟩:=hA.done y hy hp
      exact ⟨s',a,b,fun s2 h2=>c s2 (List.mem_cons_of_mem _ h2)⟩
     ·refine ⟨s,n1,?_,hr.1⟩
      rcases List.mem_cons.1 hy with hy|hy
      ·exact .inl (hy▸zp)
      ·exact .inr (hB.2 y hy)
    ·have e1:P++z::linesZ U L d (getV U L n s).1 (at_++slB++s)=(P++[z])++linesZ U L d (getV U L n s).1 (at_++slB++s):=by simp
     rw [e1,lastN_app _ _ _ fun y hy e=>?_]
     ·have:=lastN_one P z
      rw [zq,zs] at this
      rw [this]
      exact hr.1 s2 hs2
     ·obtain ⟨Y,hY⟩:=hB.1.mem hy
      have h1:=hB.2 y hy
      have h2:y.path=at_++slB++y.s:=by rw [← e];rfl
      rw [h2] at h1
      exact pre_name hY.ns h1
   obtain ⟨i1,i2⟩:=ih _ hC (fun s2 h2=>hg s2 (List.mem_cons_of_mem _ h2)) hr.2
   rw [List.flatMap_cons]
   refine ⟨OkAll.app ?_ i1,fun y hy=>?_⟩
   ·unfold lineN
    rw [← ez]
    exact OkAll.cons hz hB.1
   ·rcases List.mem_append.1 hy with hy|hy
    ·unfold lineN at hy
     rw [← ez] at hy
     rcases List.mem_cons.1 hy with hy|hy
     ·have:=path_pre z
      rw [zq] at this
      rw [hy];exact this
     ·exact pre_up (hB.2 y hy)
    ·exact i2 y hy
theorem top_ok {U L:BS} {r:Nat} (hU:Inv U r) (hL:Inv L r) (n:Nd):OkAll [] (linesZ U L 202 n ⟨#[]⟩) :=
 (linesZ_ok hU hL 202 n ⟨#[]⟩ [] (by decide) ⟨.inl rfl,fun z h=>(nomatch h),fun s hs=>by
  obtain ⟨lx,hlx⟩:=allV_ex hU hL n
  rw [namesV_eq hlx] at hs
  exact less_nil (name_ok hU hL ((hlx.mem s).1 hs)).2.1⟩).1
end Go.Proofs.YtgoddboicjfkcaaGreat.fl
namespace Go.Proofs.YtgoddboicjfkcaaGreat.cu
open Go.RowKit
open dn (En lget lset ldel nerr dotB Sorted)
open br (BS Ino Inv at_nat upd_same upd_other abE nameE badKind fresh sumF)
open bl (AB)
open cb (newI WrI)
open mg (Nd opq kindV getV rootV belV AllV readN targN)
open fl (Ln wt wtI wN Anc Deep linesV ofV contV linesV_len noSl slB Zn linesZ linesZ_ln OkAll OkZ top_ok allV_ex)
theorem len_names:∀ (n:Nat) (l:List En),(∀ e∈l,1≤e.2∧e.2≤(n:Int))→l.length≤sumF (fun k=>br.names (k:Int) l) n
 | n,[],h=>Nat.zero_le _
 | n,e::l,h=>by
  have h1:=len_names n l fun x hx=>h x (List.mem_cons_of_mem _ hx)
  have h2:sumF (fun k=>br.names (k:Int) (e::l)) n=sumF (fun k=>if e.2=(k:Int) then 1 else 0) n+sumF (fun k=>br.names (k:Int) l) n:=by
   rw [← fl.sumF_add]
   refine br.sumF_congr fun k _ _=>?_
   unfold br.names
   rw [List.filter_cons]
   by_cases e1:e.2=(k:Int)
   ·rw [if_pos e1];simp [e1];omega
   ·rw [if_neg e1];simp [e1]
  have h3:1≤sumF (fun k=>if e.2=(k:Int) then 1 else 0) n:=by
   obtain ⟨a,b⟩:=h e List.mem_cons_self
   have h4:=br.sumF_le (f:=fun k=>if e.2=(k:Int) then 1 else 0) (k:=e.2.toNat) (n:=n) (by omega) (by omega)
   have h5:e.2=((e.2.toNat:Nat):Int):=by omega
   rw [if_pos h5] at h4
   exact h4
  rw [h2,List.length_cons];omega
theorem sumF_two (f:Nat→Nat→Nat) (m:Nat):∀ n,sumF (fun k=>sumF (fun i=>f k i) m) n=sumF (fun i=>sumF (fun k=>f k i) n) m
 | 0=>(br.sumF_zero fun _ _ _=>rfl).symm
 | n+1=>by
  show sumF (fun k=>sumF (fun i=>f k i) m) n+sumF (fun i=>f (n+1) i) m=_
  rw [sumF_two f m n,← fl.sumF_add]
  rfl
theorem names_all {S:BS} {room:Nat} (hI:Inv S room):sumF (fun k=>(S.ino k).dir.length) 200≤4000:=by
 have h1:sumF (fun k=>(S.ino k).dir.length) 200≤sumF (fun k=>sumF (fun i=>br.names (i:Int) (S.ino k).dir) 200) 200 :=
  br.sumF_mono fun k _ _=>len_names 200 _ fun e he=>(hI.good k e he).2.2
 rw [sumF_two] at h1
 have h2:sumF (fun i=>sumF (fun k=>br.names (i:Int) (S.ino k).dir) 200) 200≤sumF (fun _=>20) 200:=br.sumF_mono fun i i1 i2=>by
  have h3:=hI.links i i1 i2
  have h4:=hI.twenty i
  show S.names i 200≤20
  split at h3 <;> omega
 have h5:sumF (fun _=>20) 200≤200*20:=fl.sumF_cap (fun _=>Nat.le_refl _) 200
 omega
theorem wtI_le {S:BS} {room:Nat} (hI:Inv S room) (i:Int):wtI S i≤4000:=by
 unfold wtI
 split
 ·refine Nat.le_trans ?_ (names_all hI)
  unfold wt
  exact br.sumF_mono fun k _ _=>by split <;> omega
 ·exact Nat.zero_le _
theorem fresh_dir (k:Nat):(fresh.ino k).dir=[]:=by
 unfold fresh
 dsimp only
 by_cases e:k=1
 ·subst e;rw [upd_same];rfl
 ·rw [upd_other _ _ e];rfl
theorem wtI_fresh (i:Int):wtI fresh i=0:=by
 unfold wtI
 split
 ·unfold wt
  exact br.sumF_zero fun k _ _=>by rw [fresh_dir];simp
 ·rfl
theorem lines_many {U:BS} {r:Nat} (hU:br.Good U r):(ofV U fresh 1 1).length≤4000:=by
 obtain ⟨dU,hdU⟩:=br.Tree.bound hU.1 hU.2
 have hF:=br.Good.fresh r
 obtain ⟨dL,hdL⟩:=br.Tree.bound hF.1 hF.2
 refine Nat.le_trans (linesV_len hU.1 hF.1 hdU hdL (fun n=>allV_ex hU.1 hF.1 n) _ _ _) ?_
 unfold wN
 rw [wtI_fresh]
 have:=wtI_le hU.1 (rootV U fresh 1 1).1
 omega
theorem lines_none:ofV fresh fresh 1 1=[]:=by
 have hF:=br.Good.fresh 0
 obtain ⟨dL,hdL⟩:=br.Tree.bound hF.1 hF.2
 have h:=linesV_len hF.1 hF.1 hdL hdL (fun n=>allV_ex hF.1 hF.1 n) 202 (rootV fresh fresh 1 1) ⟨#[]⟩
 unfold wN at h
 rw [wtI_fresh,wtI_fresh] at h
 exact List.length_eq_zero_iff.1 (by unfold ofV;omega)
theorem strF_size (n:Nat) (f:Nat→UInt8):(bl.strF n f).size=n:=by
 show ((List.range n).map f).toArray.size=n
 simp
theorem readI_le (S:BS) (i off n:Int):(cb.readI S i off n).2≤n.toNat:=by
 unfold cb.readI
 split
 ·exact Nat.zero_le _
 ·unfold bl.readR
  split
  ·exact Nat.zero_le _
  ·exact Nat.min_le_left _ _
theorem target_le {S:BS} {r:Nat} (hI:Inv S r) (i:Int):(S.targetOf i).1.size≤400:=by
 unfold BS.targetOf
 split
 ·exact (show (⟨#[]⟩:ByteArray).size≤400 by decide)
 ·split
  ·exact (show (⟨#[]⟩:ByteArray).size≤400 by decide)
  ·exact hI.target _
theorem cont_le {U L:BS} {r1 r2:Nat} (hU:Inv U r1) (hL:Inv L r2) (x:Nd):(contV U L x).size≤65536:=by
 unfold contV
 split
 ·rw [strF_size];exact readI_le _ _ _ _
 ·split
  ·unfold targN
   split
   ·exact (show (⟨#[]⟩:ByteArray).size≤65536 by decide)
   ·split
    ·exact Nat.le_trans (target_le hU _) (by decide)
    ·exact Nat.le_trans (target_le hL _) (by decide)
  ·exact (show (⟨#[]⟩:ByteArray).size≤65536 by decide)
theorem lines_data {U L:BS} {r1 r2:Nat} (hU:Inv U r1) (hL:Inv L r2):∀ (d:Nat) (n:Nd) (at_:ByteArray),∀ x∈linesV U L d n at_,x.data.size≤65536
 | 0,n,at_,x,hx=>nomatch hx
 | d+1,n,at_,x,hx=>by
  unfold linesV at hx
  obtain ⟨s,_,hs⟩:=List.mem_flatMap.1 hx
  rcases List.mem_cons.1 hs with e|e
  ·rw [e];exact cont_le hU hL _
  ·exact lines_data hU hL d _ _ x e
structure LnOk (x:Ln):Prop where
 sl:∃ k:Nat,∃ h:k<x.path.size,x.path.data[k]'h=47
 path:x.path.size≤30000
 data:x.data.size≤65536
theorem lines_ok {U:BS} {r:Nat} (hU:br.Good U r):∀ x∈ofV U fresh 1 1,LnOk x:=fun x hx=>by
 have hF:=br.Good.fresh r
 have h2:=lines_data hU.1 hF.1 _ _ _ x hx
 unfold ofV at hx
 rw [← linesZ_ln] at hx
 obtain ⟨z,hz,rfl⟩:=List.mem_map.1 hx
 obtain ⟨Y,ho⟩:=(top_ok hU.1 hF.1 (rootV U fresh 1 1)).mem hz
 refine ⟨⟨z.q.size,?_⟩,ho.sz,h2⟩
 have hl:z.path.data.toList=z.q.data.toList++[47]++z.s.data.toList:=fl.path_bl z
 have hlen:z.q.size<z.path.data.toList.length:=by rw [hl];simp
 refine ⟨by show z.q.size<z.path.data.size;simpa using hlen,?_⟩
 have h3:z.path.data.toList[z.q.size]'hlen=47:=by
  have:z.path.data.toList[z.q.size]?=some 47:=by
   rw [hl,List.append_assoc,List.getElem?_append_right (by show z.q.data.toList.length≤z.q.data.size;simp)]
   have:z.q.size - z.q.data.toList.length=0:=by show z.q.data.size - _=0;simp
   rw [this];rfl
  exact (List.getElem?_eq_some_iff.1 this).2
 show z.path.data[z.q.size]=47
 simpa using h3
structure Bg (S:BS):Prop where
 k2:(S.ino 2).kind=2
 l2:(S.ino 2).links≠0
 out:Out S 3
 d3:(S.ino 3).dir=[]
 l3:(S.ino 3).links≠0
 one:∀ k,(S.ino k).links≤1
section
variable {S S2 L:BS} {room D n:Nat} {s t:ByteArray} {x:Ino} {d kind:Int}
theorem Mk.bg (h:Mk S S2 D n s x) (hD:D≠3) (hx:x.links≤1) (hB:Bg S):Bg S2:=by
 have n2:(2:Nat)≠n:=fun e=>by have:=h.hz;rw [← e,hB.k2] at this;cases this
 have n3:(3:Nat)≠n:=fun e=>by have:=h.hz;rw [← e,hB.out.kind] at this;cases this
 have e:∀ k,k≠n→(S2.ino k).kind=(S.ino k).kind∧(S2.ino k).links=(S.ino k).links:=fun k hk=>by
  by_cases e1:k=D
  ·subst e1;rw [h.eD];exact ⟨rfl,rfl⟩
  ·rw [h.oth k e1 hk];exact ⟨rfl,rfl⟩
 refine ⟨(e 2 n2).1.trans hB.k2,(e 2 n2).2▸hB.l2,h.out hB.out,?_,(e 3 n3).2▸hB.l3,fun k=>?_⟩
 ·rw [h.oth 3 (fun e=>hD e.symm) n3];exact hB.d3
 ·by_cases e1:k=n
  ·rw [e1,h.eN];exact hx
  ·rw [(e k e1).2];exact hB.one k
theorem Bg.make (hB:Bg S) (hG:br.Good S room) (hd:d≠3):Bg (S.make d s kind t).2:=by
 by_cases h:(S.make d s kind t).1.2=0
 ·obtain ⟨D,n,e,_,hm,_⟩:=mk_of hG h
  exact hm.bg (fun e2=>hd (by rw [e,e2];rfl)) (by show (1:Int)≤1;decide) hB
 ·rw [(make_no h).1];exact hB
theorem make_ne3 (hB:Bg S) (hG:br.Good S room):(S.make d s kind t).1.1≠3:=by
 by_cases h:(S.make d s kind t).1.2=0
 ·obtain ⟨D,n,_,e,hm,_⟩:=mk_of hG h
  rw [e]
  intro e2
  have e3:n=3:=Int.ofNat_inj.1 e2
  have:=hm.hz
  rw [e3,hB.out.kind] at this;cases this
 ·rw [(make_no h).2];decide
theorem Bg.write {i off:Int} {len p:Nat} {g:Nat→UInt8} {err:Int} (hB:Bg S) (hw:WrI S room i off len g p err S2):Bg S2:=by
 rcases hw with ⟨_,_,_,rfl⟩|⟨_,_,_,_,rfl⟩
 ·exact hB
 ·have e:∀ k,((S.wrote i off p g).ino k).kind=(S.ino k).kind∧((S.wrote i off p g).ino k).links=(S.ino k).links∧((S.wrote i off p g).ino k).dir=(S.ino k).dir∧((S.wrote i off p g).ino k).parent=(S.ino k).parent:=fun k=>by
   unfold BS.wrote
   dsimp only
   by_cases e1:k=i.toNat
   ·rw [e1,upd_same];exact ⟨rfl,rfl,rfl,rfl⟩
   ·rw [upd_other _ _ e1];exact ⟨rfl,rfl,rfl,rfl⟩
  exact ⟨(e 2).1.trans hB.k2,(e 2).2.1▸hB.l2,⟨hB.out.w1,hB.out.w2,(e 3).1.trans hB.out.kind,(e 3).2.2.2.trans hB.out.par,hB.out.ne⟩,(e 3).2.2.1.trans hB.d3,(e 3).2.1▸hB.l3,fun k=>(e k).2.1▸hB.one k⟩
def upB:ByteArray:=⟨#[117,112]⟩
def workB:ByteArray:=⟨#[119,111,114,107]⟩
def S0:BS:=((fresh.make 1 upB 2 ⟨#[]⟩).2.make 1 workB 2 ⟨#[]⟩).2
theorem Bg.start:Bg S0 where
 k2:=by decide +kernel
 l2:=by decide +kernel
 out:=⟨by decide,by decide,by decide +kernel,by decide +kernel,by decide⟩
 d3:=by decide +kernel
 l3:=by decide +kernel
 one:=fun k=>by
  have hG:br.Good S0 0:=((br.Good.fresh 0).make _ _ _ _).make _ _ _ _
  by_cases h:(S0.ino k).kind=2
  ·exact hG.1.single k h
  ·by_cases h4:k≤3
   ·have:k=0∨k=1∨k=2∨k=3:=by omega
    rcases this with e|e|e|e <;> subst e <;> decide +kernel
   ·by_cases h5:200<k
    ·rw [hG.1.out k (.inr h5)];decide
    ·have:∀ k:Fin 201,(S0.ino k.val).links≤1:=by decide +kernel
     exact this ⟨k,by omega⟩
theorem Bg.kind2 (h:Bg S):S.kindOf 2=2:=by
 unfold BS.kindOf BS.isI
 rw [show S.at (2:Int)=S.ino 2 from rfl,h.k2];decide
theorem Bg.kind3 (h:Bg S):S.kindOf 3=2:=by
 unfold BS.kindOf BS.isI
 rw [show S.at (3:Int)=S.ino 3 from rfl,h.out.kind];decide
end
end Go.Proofs.YtgoddboicjfkcaaGreat.cu
