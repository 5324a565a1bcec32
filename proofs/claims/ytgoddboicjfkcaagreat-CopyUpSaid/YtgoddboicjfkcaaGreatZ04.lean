/- Contracts and mathematics, part 4. -/
import Derived.Test.YtgoddboicjfkcaaGreatZ00
import Derived.Deep.WholeRow
import Derived.Laws.CopyOwn
set_option linter.unusedVariables false
set_option linter.unusedSimpArgs false
set_option maxRecDepth 100000
set_option maxHeartbeats 8000000
namespace Go.Proofs.YtgoddboicjfkcaaGreat
namespace bl
open Go.RowKit
def U8 (x:UInt8):Value:=.int .u8 (x.toNat:Int)
def chunkL (dat:Nat→UInt8) (k:Nat):List Value:=(List.range 16).map fun j=>U8 (dat (16*k+j))
def chunkA (dat:Nat→UInt8) (k:Nat):Array Value:=(chunkL dat k).toArray
theorem chunkL_length (dat:Nat→UInt8) (k:Nat):(chunkL dat k).length=16:=by simp [chunkL]
theorem chunkA_size (dat:Nat→UInt8) (k:Nat):(chunkA dat k).size=16:=by simp [chunkA,chunkL_length]
theorem chunkA_one (dat:Nat→UInt8) (k:Nat):(chunkA dat k).all (·.oneCell')=true:=by
 rw [Array.all_eq_true']
 intro v hv
 simp only [chunkA,List.mem_toArray,chunkL,List.mem_map] at hv
 obtain ⟨j,_,rfl⟩:=hv
 rfl
theorem chunkL_get (dat:Nat→UInt8) (k j:Nat) (hj:j<16):(chunkL dat k)[j]?=some (U8 (dat (16*k+j))):=by
 simp [chunkL,hj]
theorem chunkL_congr {dat dat':Nat→UInt8} {k:Nat} (h:∀j,j<16→dat (16*k+j)=dat' (16*k+j)):chunkL dat k=chunkL dat' k:=by
 unfold chunkL
 refine List.map_congr_left fun j hj=>?_
 rw [h j (by simpa using hj)]
theorem chunkA_congr {dat dat':Nat→UInt8} {k:Nat} (h:∀j,j<16→dat (16*k+j)=dat' (16*k+j)):chunkA dat k=chunkA dat' k:=by
 unfold chunkA;rw [chunkL_congr h]
def ent (dat:Nat→UInt8) (k:Nat):Value×Value:=(.int .i64 (k:Int),.agg (chunkA dat k))
def Ents (es:List MapEntry) (ks:List Nat) (dat:Nat→UInt8):Prop:=es.map (fun e=>(e.key,e.val))=ks.map (ent dat)
theorem find_none {dat:Nat→UInt8} {k:Nat}:∀ {es:List MapEntry} {ks:List Nat} (i:Nat),Ents es ks dat→k∉ks→Instr.findNow (.int .i64) (.int .i64 (k:Int)) es i=some none
 | [],_,i,_,_=>rfl
 | e::es,[],i,h,_=>by simp [Ents] at h
 | e::es,x::ks,i,h,hk=>by
  simp only [Ents,List.map_cons,List.cons.injEq,ent,Prod.mk.injEq] at h
  obtain ⟨⟨h1,h2⟩,h3⟩:=h
  have ma:((k:Int) == (x:Int))=false:=by
   simp only [List.mem_cons,not_or] at hk
   have:=hk.1
   simp only [beq_eq_false_iff_ne,ne_eq]
   omega
  rw [Instr.findNow,h1]
  simp only [Instr.sameNow,if_true,ma]
  exact find_none (i+1) h3 (by simp only [List.mem_cons,not_or] at hk;exact hk.2)
theorem find_some {dat:Nat→UInt8} {k:Nat}:∀ {es:List MapEntry} {ks:List Nat} (i:Nat),Ents es ks dat→k∈ks →
  Instr.findNow (.int .i64) (.int .i64 (k:Int)) es i=some (some (i+ks.idxOf k,.agg (chunkA dat k)))
 | [],[],i,_,h=>by simp at h
 | [],x::ks,i,h,_=>by simp [Ents] at h
 | e::es,[],i,h,_=>by simp [Ents] at h
 | e::es,x::ks,i,h,hk=>by
  simp only [Ents,List.map_cons,List.cons.injEq,ent,Prod.mk.injEq] at h
  obtain ⟨⟨h1,h2⟩,h3⟩:=h
  rw [Instr.findNow,h1]
  by_cases e:k=x
  ·subst e
   simp [Instr.sameNow,h2]
  ·have ma:((k:Int) == (x:Int))=false:=by simp only [beq_eq_false_iff_ne,ne_eq];omega
   have hx:(x == k)=false:=by simpa using fun h=>e h.symm
   simp only [Instr.sameNow,if_true,ma]
   rw [find_some (i+1) h3 (by simpa [e] using hk)]
   rw [List.idxOf_cons,hx]
   simp
   omega
def MapAt (w:World) (M:Nat) (th:Nat→Bool) (dat:Nat→UInt8) (n:Nat):Prop :=
 ∃(ks:List Nat) (es:Array MapEntry) (clock:Nat),w.heap[M]?=some (.map es clock)∧Ents es.toList ks dat∧ks.Nodup∧(∀k,k∈ks↔th k=true)∧(∀k,th k=false→∀j,j<16→dat (16*k+j)=0)∧ks.length=n
theorem MapAt.lt {w:World} {M n:Nat} {th:Nat→Bool} {dat:Nat→UInt8} (h:MapAt w M th dat n):M<w.heap.size:=by
 obtain ⟨ks,es,c,h,_⟩:=h
 exact (Array.getElem?_eq_some_iff.1 h).1
theorem MapAt.of_block {w w':World} {M n:Nat} {th:Nat→Bool} {dat:Nat→UInt8} (h:MapAt w M th dat n) (hb:w'.heap[M]?=w.heap[M]?):MapAt w' M th dat n:=by
 obtain ⟨ks,es,c,h,r⟩:=h
 exact ⟨ks,es,c,hb.trans h,r⟩
theorem MapAt.holes {w:World} {M n:Nat} {th:Nat→Bool} {dat:Nat→UInt8} (h:MapAt w M th dat n):∀k,th k=false→∀j,j<16→dat (16*k+j)=0:=by
 obtain ⟨ks,es,c,_,_,_,_,h,_⟩:=h;exact h
def zeroA:Array Value:=chunkA (fun _=>0) 0
theorem check_int (b:Bool) (k:Int) (w:World):(Instr.checkKey b 10000 3 (.int .i64 k)).run Tryz.prog w=.ok () w:=by
 unfold Instr.checkKey
 simp [run_underlying Tryz.underlying3]
theorem same_int (k:Int) (w:World):(Instr.keyThatStays (.int .i64 k) (.int .i64 k)).run Tryz.prog w=.ok (.int .i64 k) w:=by
 unfold Instr.keyThatStays
 rw [show Instr.sameBits 10000 (.int .i64 k) (.int .i64 k)=true from by unfold Instr.sameBits;simp]
 rfl
theorem run_find {w:World} {es:List MapEntry} {ks:List Nat} {dat:Nat→UInt8} (h:Ents es ks dat) (k:Nat) :
  (Instr.findKey 3 (.int .i64 (k:Int)) es).run Tryz.prog w=.ok (if k∈ks then some (ks.idxOf k,.agg (chunkA dat k)) else none) w:=by
 unfold Instr.findKey
 by_cases hk:k∈ks
 ·simp [run_underlying Tryz.underlying3,find_some 0 h hk,hk]
 ·simp [run_underlying Tryz.underlying3,find_none 0 h hk,hk]
theorem zero_chunk {th:Nat→Bool} {dat:Nat→UInt8} (hz:∀k,th k=false→∀j,j<16→dat (16*k+j)=0) {k:Nat} (hk:th k=false):chunkA dat k=zeroA:=by
 unfold zeroA chunkA chunkL
 congr 1
 refine List.map_congr_left fun j hj=>?_
 rw [hz k hk j (by simpa using hj)]
theorem MapAt.look {w:World} {M n:Nat} {th:Nat→Bool} {dat:Nat→UInt8} (h:MapAt w M th dat n) (k:Nat) (ok:Bool) :
  (Instr.lookup 247 (.map (some M)) (.int .i64 (k:Int)) ok).run Tryz.prog w=.ok (if ok then .tuple #[.agg (chunkA dat k),.bool (th k)] else .agg (chunkA dat k)) w:=by
 obtain ⟨ks,es,c,hM,hE,hd,hm,hz,hn⟩:=h
 unfold Instr.lookup
 have hf:=run_find (w:=w) hE k
 by_cases hk:k∈ks
 ·have ht:=(hm k).1 hk
  simp only [Jb hk] at hf
  simp [run_underlying Tryz.underlying247,MapKept.run_getObj_map hM,check_int,hf,ht]
 ·have ht:th k=false:=by
   cases e:th k
   ·rfl
   ·exact absurd ((hm k).2 e) hk
  simp only [Ja hk] at hf
  simp [run_underlying Tryz.underlying247,MapKept.run_getObj_map hM,check_int,hf,ht,zero_chunk hz ht]
  cases ok <;> rfl
structure Only (F:Nat→Prop) (w w':World):Prop where
 os:w'.os=w.os
 tape:w'.tape=w.tape
 output:w'.output=w.output
 size:w.heap.size≤w'.heap.size
 block:∀k,k<w.heap.size→¬F k→w'.heap[k]?=w.heap[k]?
theorem Only.refl (F:Nat→Prop) (w:World):Only F w w:=⟨rfl,rfl,rfl,Nat.le_refl _,fun _ _ _=>rfl⟩
theorem Only.trans {F:Nat→Prop} {a b c:World} (h:Only F a b) (k:Only F b c):Only F a c :=
 ⟨k.os.trans h.os,k.tape.trans h.tape,k.output.trans h.output,Nat.le_trans h.size k.size,fun i hi hF=>(k.block i (Nat.lt_of_lt_of_le hi h.size) hF).trans (h.block i hi hF)⟩
theorem Only.of_below {F:Nat→Prop} {w w':World} (h:Below w.heap.size w w'):Only F w w':=⟨h.os,h.tape,h.output,h.size,fun k hk _=>h.block k hk⟩
theorem Only.mono {F G:Nat→Prop} {w w':World} (h:Only F w w') (hFG:∀k,F k→G k):Only G w w':=⟨h.os,h.tape,h.output,h.size,fun k hk hg=>h.block k hk fun hf=>hg (hFG k hf)⟩
theorem Only.drew {F:Nat→Prop} {a w:World} (h:Only F a w):Only F a w.drew:=⟨h.os,h.tape,h.output,h.size,h.block⟩
theorem Only.setCell {F:Nat→Prop} {a w:World} (h:Only F a w) {p:Addr} (hp:F p.block) (u:Value):Only F a (w.setCell p u) :=
 h.trans ⟨rfl,rfl,rfl,by simp [World.setCell],fun k hk hf=>Below.heap_setCell _ _ _ _ fun e=>hf (e▸hp)⟩
def mset (w:World) (M:Nat) (o:Obj):World:={ w with heap:=w.heap.setIfInBounds M o }
theorem mset_only {w:World} {M:Nat} (o:Obj):Only (·=M) w (mset w M o) :=
 ⟨rfl,rfl,rfl,by simp [mset],fun k hk hf=>by show (w.heap.setIfInBounds M o)[k]?=_;rw [Array.getElem?_setIfInBounds,Ja (fun e=>hf e.symm)]⟩
theorem mset_at {w:World} {M:Nat} {o o':Obj} (h:w.heap[M]?=some o):(mset w M o').heap[M]?=some o':=by
 have:=(Array.getElem?_eq_some_iff.1 h).1
 show (w.heap.setIfInBounds M o')[M]?=_
 simp [this]
def updB (f:Nat→Bool) (a:Nat) (b:Bool):Nat→Bool:=fun x=>if x=a then b else f x
theorem ent_congr {dat dat':Nat→UInt8} {x:Nat} (h:∀j,j<16→dat (16*x+j)=dat' (16*x+j)):ent dat x=ent dat' x:=by
 unfold ent;rw [chunkA_congr h]
theorem Ents.len {es:List MapEntry} {ks:List Nat} {dat:Nat→UInt8} (h:Ents es ks dat):es.length=ks.length:=by
 have:=congrArg List.length h
 simpa using this
theorem Ents.push {es:List MapEntry} {ks:List Nat} {dat dat':Nat→UInt8} {k b:Nat} (h:Ents es ks dat) (hk:k∉ks) (hd:∀i,i / 16≠k→dat' i=dat i) :
  Ents (es++[{ key:=.int .i64 (k:Int),val:=.agg (chunkA dat' k),born:=b }]) (ks++[k]) dat':=by
 unfold Ents at *
 rw [List.map_append,List.map_append,h]
 congr 1
 refine List.map_congr_left fun x hx=>?_
 have ma:x≠k:=fun e=>hk (e▸hx)
 exact ent_congr fun j hj=>(hd _ (by omega)).symm
theorem Ents.set {dat dat':Nat→UInt8} {k:Nat} (hd:∀i,i / 16≠k→dat' i=dat i):∀ {es:List MapEntry} {ks:List Nat},Ents es ks dat→ks.Nodup→k∈ks →
  Ents (es.modify (ks.idxOf k) fun e=>{ e with key:=.int .i64 (k:Int),val:=.agg (chunkA dat' k) }) ks dat'
 | [],[],_,_,h=>by simp at h
 | [],x::ks,h,_,_=>by simp [Ents] at h
 | e::es,[],h,_,_=>by simp [Ents] at h
 | e::es,x::ks,h,hn,hk=>by
  have ma:=List.nodup_cons.1 hn
  simp only [Ents,List.map_cons,List.cons.injEq] at h
  obtain ⟨h1,h3⟩:=h
  by_cases e':k=x
  ·subst e'
   simp only [List.idxOf_cons_self,List.modify_zero_cons,Ents,List.map_cons,List.cons.injEq]
   refine ⟨rfl,h3.trans (List.map_congr_left fun x hx=>?_)⟩
   have qa:x≠k:=fun e=>ma.1 (e▸hx)
   exact ent_congr fun j hj=>(hd _ (by omega)).symm
  ·have hx:(x == k)=false:=by simpa using fun h=>e' h.symm
   have ih:=Ents.set (es:=es) hd h3 ma.2 (by simpa [e'] using hk)
   rw [List.idxOf_cons,hx]
   simp only [cond_false,List.modify_succ_cons,Ents,List.map_cons,List.cons.injEq]
   refine ⟨h1.trans (ent_congr fun j hj=>(hd _ (by omega)).symm),ih⟩
theorem Ents.key {es:List MapEntry} {ks:List Nat} {dat:Nat→UInt8} {k:Nat} (h:Ents es ks dat) (hk:k∈ks):(es[ks.idxOf k]?).map (·.key)=some (.int .i64 (k:Int)):=by
 have h2:(es.map (fun e=>(e.key,e.val)))[ks.idxOf k]?=(ks.map (ent dat))[ks.idxOf k]?:=by rw [h]
 have hlt:=List.idxOf_lt_length_iff.2 hk
 rw [List.getElem?_map,List.getElem?_map,List.getElem?_eq_getElem hlt] at h2
 have hg:ks[ks.idxOf k]=k:=List.getElem_idxOf hlt
 cases he:es[ks.idxOf k]? with
 | none=>rw [he] at h2;simp at h2
 | some e =>
  rw [he,hg] at h2
  simp only [Option.map_some,Option.some.injEq,ent,Prod.mk.injEq] at h2
  simp [h2.1]
theorem Ents.erase {dat dat':Nat→UInt8} {k:Nat} (hd:∀i,i / 16≠k→dat' i=dat i):∀ {es:List MapEntry} {ks:List Nat},Ents es ks dat→ks.Nodup→k∈ks→Ents (es.eraseIdx (ks.idxOf k)) (ks.erase k) dat'
 | [],[],_,_,h=>by simp at h
 | [],x::ks,h,_,_=>by simp [Ents] at h
 | e::es,[],h,_,_=>by simp [Ents] at h
 | e::es,x::ks,h,hn,hk=>by
  have hn':=List.nodup_cons.1 hn
  simp only [Ents,List.map_cons,List.cons.injEq] at h
  obtain ⟨h1,h3⟩:=h
  by_cases e':k=x
  ·subst e'
   simp only [List.idxOf_cons_self,List.eraseIdx_cons_zero,List.erase_cons_head,Ents]
   refine h3.trans (List.map_congr_left fun x hx=>?_)
   have ma:x≠k:=fun e=>hn'.1 (e▸hx)
   exact ent_congr fun j hj=>(hd _ (by omega)).symm
  ·have hx:(x == k)=false:=by simpa using fun h=>e' h.symm
   have ih:=Ents.erase (es:=es) hd h3 hn'.2 (by simpa [e'] using hk)
   rw [List.idxOf_cons,hx,List.erase_cons_tail (by simpa using hx)]
   simp only [cond_false,List.eraseIdx_cons_succ,Ents,List.map_cons,List.cons.injEq]
   refine ⟨h1.trans (ent_congr fun j hj=>(hd _ (by omega)).symm),ih⟩
theorem Ents.other {es:List MapEntry} {ks:List Nat} {dat dat':Nat→UInt8} {k:Nat} (h:Ents es ks dat) (hk:k∉ks) (hd:∀i,i / 16≠k→dat' i=dat i):Ents es ks dat':=by
 refine Eq.trans h (List.map_congr_left fun x hx=>?_)
 have ma:x≠k:=fun e=>hk (e▸hx)
 exact ent_congr fun j hj=>(hd _ (by omega)).symm
def addN (th:Nat→Bool) (k n:Nat):Nat:=if th k then n else n+1
def subN (th:Nat→Bool) (k n:Nat):Nat:=if th k then n - 1 else n
theorem MapAt.put {w:World} {M n:Nat} {th:Nat→Bool} {dat dat':Nat→UInt8} (h:MapAt w M th dat n) (k:Nat) (hd:∀i,i / 16≠k→dat' i=dat i) :
  ∃w',(Instr.mapUpdate 247 (.map (some M)) (.int .i64 (k:Int)) (.agg (chunkA dat' k))).run Tryz.prog w=.ok () w'∧MapAt w' M (updB th k true) dat' (addN th k n)∧Only (·=M) w w':=by
 obtain ⟨ks,es,c,hM,hE,qa,hm,hz,hn⟩:=h
 have hf:=run_find (w:=w) hE k
 have xa:∀x,updB th k true x=false→∀j,j<16→dat' (16*x+j)=0:=fun x hx j hj=>by
  unfold updB at hx
  by_cases e:x=k
  ·simp [e] at hx
  ·rw [Ja e] at hx;rw [hd _ (by omega)];exact hz x hx j hj
 by_cases hk:k∈ks
 ·have ht:=(hm k).1 hk
  have ja:=hE.key hk
  simp only [Jb hk] at hf
  refine ⟨mset w M (.map (es.modify (ks.idxOf k) fun e=>{ e with key:=.int .i64 (k:Int),val:=.agg (chunkA dat' k) }) c),?_,⟨ks,_,c,mset_at hM,?_,qa,fun x=>?_,xa,by rw [addN,Jb ht];exact hn⟩,mset_only _⟩
  ·unfold Instr.mapUpdate
   have ma:(Option.map (fun x=>x.key) es[ks.idxOf k]?).getD (.int .i64 (k:Int))=.int .i64 (k:Int):=by
    rw [←Array.getElem?_toList,ja];rfl
   simp [run_underlying Tryz.underlying247,MapKept.run_getObj_map hM,check_int,hf,ma,same_int,MapKept.run_setObj_map _ hM]
   rfl
  ·rw [Array.toList_modify]
   exact Ents.set hd hE qa hk
  ·unfold updB
   by_cases e:x=k
   ·subst e;simp [hk]
   ·rw [Ja e];exact hm x
 ·have ht:th k=false:=by
   cases e:th k
   ·rfl
   ·exact absurd ((hm k).2 e) hk
  simp only [Ja hk] at hf
  refine ⟨mset w M (.map (es.push { key:=.int .i64 (k:Int),val:=.agg (chunkA dat' k),born:=c }) (c+1)),?_,⟨ks++[k],_,c+1,mset_at hM,?_,?_,fun x=>?_,xa,by rw [addN,ht];simp [hn]⟩,mset_only _⟩
  ·unfold Instr.mapUpdate
   simp [run_underlying Tryz.underlying247,MapKept.run_getObj_map hM,check_int,hf,MapKept.run_setObj_map _ hM]
   rfl
  ·simpa using hE.push (b:=c) hk hd
  ·rw [List.nodup_append]
   exact ⟨qa,by simp,by intro a ha b hb;simp at hb;subst hb;intro e;exact hk (e▸ha)⟩
  ·unfold updB
   by_cases e:x=k
   ·subst e;simp
   ·rw [Ja e,←hm x];simp [e]
theorem MapAt.del {w:World} {M n:Nat} {th:Nat→Bool} {dat dat':Nat→UInt8} (h:MapAt w M th dat n) (k:Nat) (hd:∀i,i / 16≠k→dat' i=dat i) (hk0:∀j,j<16→dat' (16*k+j)=0) (ty:TypeId) :
  ∃w',(Builtin.delete_ #[247,3] ty #[.map (some M),.int .i64 (k:Int)]).run Tryz.prog w=.ok (.tuple #[]) w'∧MapAt w' M (updB th k false) dat' (subN th k n)∧Only (·=M) w w':=by
 obtain ⟨ks,es,c,hM,hE,hd0,hm,hz,hn⟩:=h
 have hf:=run_find (w:=w) hE k
 have ma:∀x,updB th k false x=false→∀j,j<16→dat' (16*x+j)=0:=fun x hx j hj=>by
  unfold updB at hx
  by_cases e:x=k
  ·subst e;exact hk0 j hj
  ·rw [Ja e] at hx;rw [hd _ (by omega)];exact hz x hx j hj
 by_cases hk:k∈ks
 ·have ht:=(hm k).1 hk
  simp only [Jb hk] at hf
  refine ⟨mset w M (.map (es.eraseIdxIfInBounds (ks.idxOf k)) c),?_,⟨ks.erase k,_,c,mset_at hM,?_,hd0.erase k,fun x=>?_,ma,by rw [subN,Jb ht,List.length_erase_of_mem hk,hn]⟩,mset_only _⟩
  ·unfold Builtin.delete_
   simp [run_underlying Tryz.underlying247,MapKept.run_getObj_map hM,check_int,hf,MapKept.run_setObj_map _ hM]
   rfl
  ·have hlt:ks.idxOf k<es.size:=by
    have h1:=hE.len
    have h2:=List.idxOf_lt_length_iff.2 hk
    rw [Array.length_toList] at h1
    omega
   rw [Array.eraseIdxIfInBounds,dif_pos hlt,Array.toList_eraseIdx]
   exact Ents.erase hd hE hd0 hk
  ·unfold updB
   rw [hd0.mem_erase_iff,hm x]
   by_cases e:x=k <;> simp [e]
 ·have ht:th k=false:=by
   cases e:th k
   ·rfl
   ·exact absurd ((hm k).2 e) hk
  simp only [Ja hk] at hf
  refine ⟨mset w M (.map es c),?_,⟨ks,es,c,mset_at hM,hE.other hk hd,hd0,fun x=>?_,ma,by rw [subN,ht];simp [hn]⟩,mset_only _⟩
  ·unfold Builtin.delete_
   simp [run_underlying Tryz.underlying247,MapKept.run_getObj_map hM,check_int,hf,MapKept.run_setObj_map _ hM]
   rfl
  ·unfold updB
   by_cases e:x=k
   ·subst e;simp [hk]
   ·rw [Ja e];exact hm x
theorem MapAt.len {w:World} {M n:Nat} {th:Nat→Bool} {dat:Nat→UInt8} (h:MapAt w M th dat n) (ty:TypeId) :
  (Builtin.len_ #[247] ty #[.map (some M)]).run Tryz.prog w=.ok (.int .i64 (n:Int)) w:=by
 obtain ⟨ks,es,c,hM,hE,hd0,hm,hz,hn⟩:=h
 have h1:=hE.len
 rw [Array.length_toList] at h1
 unfold Builtin.len_
 simp [run_underlying Tryz.underlying247,MapKept.run_getObj_map hM,goInt,h1,hn]
def cnt (N:Nat) (th:Nat→Bool):Nat:=((List.range N).filter th).length
theorem MapAt.cnt {w:World} {M n N:Nat} {th:Nat→Bool} {dat:Nat→UInt8} (h:MapAt w M th dat n) (hN:∀k,th k=true→k<N):n=cnt N th:=by
 obtain ⟨ks,es,c,hM,hE,hd0,hm,hz,hn⟩:=h
 have hp:ks.Perm ((List.range N).filter th):=(List.perm_ext_iff_of_nodup hd0 (List.nodup_range.filter _)).2 fun x=>by
  rw [hm x,List.mem_filter,List.mem_range]
  exact ⟨fun h=>⟨hN x h,h⟩,fun h=>h.2⟩
 rw [←hn]
 exact hp.length_eq
theorem MapAt.made (w:World):MapAt (w.alloc (.map #[] 0)) w.heap.size (fun _=>false) (fun _=>0) 0 :=
 ⟨[],#[],0,heap_alloc_last w _,rfl,List.nodup_nil,fun k=>by simp,fun _ _ _ _=>rfl,rfl⟩
theorem MapAt.ext {w:World} {M n:Nat} {th th':Nat→Bool} {dat dat':Nat→UInt8} (h:MapAt w M th dat n) (h1:∀k,th' k=th k) (h2:∀i,dat' i=dat i):MapAt w M th' dat' n:=by
 obtain rfl:th'=th:=funext h1
 obtain rfl:dat'=dat:=funext h2
 exact h
abbrev Pq (B:Nat):Value:=.pointer (some ⟨B,0,none⟩)
structure BodC (w:World) (S B M n:Nat):Prop where
 c0:w.cell? ⟨B,0,none⟩=some (Pq S)
 c1:w.cell? ⟨B,1,none⟩=some (.int .i64 (n:Int))
 c2:w.cell? ⟨B,2,none⟩=some (.map (some M))
 f1:w.frozen? ⟨B,1,none⟩=false
structure StoC (w:World) (S room used:Nat):Prop where
 c0:w.cell? ⟨S,0,none⟩=some (.int .i64 (room:Int))
 c1:w.cell? ⟨S,1,none⟩=some (.int .i64 (used:Int))
 f1:w.frozen? ⟨S,1,none⟩=false
def rowF (L:Nat) (f:Nat→UInt8):List Value:=(List.range L).map fun j=>U8 (f j)
theorem rowF_length (L:Nat) (f:Nat→UInt8):(rowF L f).length=L:=by simp [rowF]
theorem rowF_get {L j:Nat} (f:Nat→UInt8) (hj:j<L):(rowF L f)[j]?=some (U8 (f j)):=by simp [rowF,hj]
theorem rowF_congr {L:Nat} {f g:Nat→UInt8} (h:∀j,j<L→f j=g j):rowF L f=rowF L g:=by
 unfold rowF
 exact List.map_congr_left fun j hj=>by rw [h j (by simpa using hj)]
theorem rowF_one {L:Nat} {f:Nat→UInt8}:∀v∈rowF L f,v.oneCell'=true:=by
 intro v hv
 simp only [rowF,List.mem_map] at hv
 obtain ⟨j,_,rfl⟩:=hv
 rfl
theorem splice_rowF {L off m:Nat} (f g h:Nat→UInt8) (hm:off+m≤L) (hh:∀j,j<L→h j=if off≤j∧j<off+m then g (j - off) else f j):splice (rowF L f) off (rowF m g)=rowF L h:=by
 unfold splice
 apply List.ext_getElem?
 intro j
 rw [List.getElem?_append,List.getElem?_append]
 simp only [List.length_take,rowF_length,List.getElem?_take,List.getElem?_drop]
 rw [Nat.min_eq_left (by omega)]
 by_cases h1:j<off
 ·rw [Jb h1,Jb h1,rowF_get f (by omega),rowF_get h (by omega),hh j (by omega),Ja (by omega)]
 ·rw [Ja h1]
  by_cases h2:j - off<m
  ·rw [Jb h2,rowF_get g h2,rowF_get h (by omega),hh j (by omega),Jb (by omega)]
  ·rw [Ja h2]
   by_cases h3:j<L
   ·rw [show off+m+(j - off - m)=j from by omega,rowF_get f h3,rowF_get h h3,hh j h3,Ja (by omega)]
   ·rw [List.getElem?_eq_none (by rw [rowF_length];omega),List.getElem?_eq_none (by rw [rowF_length];omega)]
theorem under76:Tryz.prog.underlying 289=some (.array 16 5):=by kernel_rfl
theorem info76:(Tryz.prog.info? 289).map (·.size)=some 16:=by kernel_rfl
theorem info5:(Tryz.prog.info? 5).map (·.size)=some 1:=by kernel_rfl
abbrev Z16:Array Value:=#[.int .u8 0,.int .u8 0,.int .u8 0,.int .u8 0,.int .u8 0,.int .u8 0,.int .u8 0,.int .u8 0,.int .u8 0,.int .u8 0,.int .u8 0,.int .u8 0,.int .u8 0,.int .u8 0,.int .u8 0,.int .u8 0]
theorem store_chunk (w:World) (dat:Nat→UInt8) (k:Nat) :
  (storeCells ⟨w.heap.size,0,none⟩ (chunkA dat k).toList).run Tryz.prog (w.alloc (.cells Z16 289))=.ok () (w.alloc (.cells (chunkA dat k) 289)) :=
 run_storeCells_new w 289 Z16 (chunkA dat k) (by rw [chunkA_size];exact info76) (by rw [chunkA_size];rfl) (chunkA_one dat k)
theorem slice_chunk (w:World) (b r:Nat) (hr:r<16) :
  (Instr.sliceAt 289 (.pointer (some ⟨b,0,none⟩)) (some (.int .i64 (r:Int))) none none).run Tryz.prog w=.ok (.slice (some ⟨b,r,none⟩) (16 - r) (16 - r)) w:=by
 have h1:(r:Int)≤16:=by omega
 have h2:¬(16:Nat)=r:=by omega
 have h3:(⟨b,0,none⟩:Addr).add r=⟨b,r,none⟩:=by unfold Addr.add;split <;> simp_all
 unfold Instr.sliceAt
 simp [run_underlying under76,Instr.sliceBounds,Instr.sliceBound,h1,h2,h3,Instr.sureAddr,asIntOf]
 intro h;omega
theorem chunk_src (w:World) (dat:Nat→UInt8) (k r m a:Nat) (ha:a=16*k+r) (hm:m≤16 - r) (hr:r<16) (o:World) :
  ∀j v,(rowF m (fun j=>dat (a+j)))[j]?=some v→(w.alloc (.cells (chunkA dat k) 289)).cell? ((⟨w.heap.size,r,none⟩:Addr).add j)=some v:=by
 intro j v hv
 have hj:j<m:=by
  have:=(List.getElem?_eq_some_iff.1 hv).1
  simpa [rowF_length] using this
 rw [rowF_get _ hj] at hv
 injection hv with hv
 subst hv
 have h3:(⟨w.heap.size,r,none⟩:Addr).add j=⟨w.heap.size,r+j,none⟩:=by unfold Addr.add;split <;> simp_all
 rw [h3,ha]
 have:=chunkL_get dat k (r+j) (by omega)
 rw [Nat.add_assoc]
 simpa [chunkA] using this
theorem ret_len {a b:Nat} (h:a=b):Ending.returned (.int .i64 (a:Int))=.returned (.int .i64 (b:Int)):=by rw [h]
theorem take_any (S B M n N a k r off dl dc g L:Nat) (th:Nat→Bool) (dat f:Nat→UInt8) (w:World) (hb:BodC w S B M n) (hM:MapAt w M th dat N) (hk:(a:Int) / 16=k) (hr:(a:Int) % 16=r) (ha:a≤65536)
  (hg:w.heap[g]?=some (.cells (rowF L f).toArray 5 (0,0))) (hd:off+dl≤L) :
  Calls Tryz.prog 182 #[Pq B,.int .i64 (a:Int),.slice (some ⟨g,off,none⟩) dl dc] w (fun e w'=>e=.returned (.int .i64 ((min (16 - r) dl:Nat):Int)) ∧
   w'.heap[g]?=some (.cells (rowF L (fun j=>if off≤j∧j<off+min (16 - r) dl then dat (a+(j - off)) else f j)).toArray 5 (0,0))∧Below g w w'):=by
 have ma:=hM.look k false
 have h2:=hb.c2
 have xa:a=16*k+r:=by omega
 have qa:r<16:=by omega
 have ya:g<w.heap.size:=(Array.getElem?_eq_some_iff.1 hg).1
 have ja:(w.alloc (.cells (chunkA dat k) 289)).heap[g]?=some (.cells (rowF L f).toArray 5 (0,0)):=(Below.heap_alloc w _ g ya).trans hg
 obtain ⟨m,hm⟩:∃m,m=min (16 - r) dl:=⟨_,rfl⟩
 have da:m≤16 - r:=by omega
 have ga:m≤dl:=by omega
 have HS:=Qa (chunk_src w dat k r m a xa da qa w)
 have Qc:=Qa xa
 have HM:=Qa hm
 have HG:=Qa ja
 have HL:=Qa (show (rowF m (fun j=>dat (a+j))).length=(16 - r).min dl by rw [rowF_length];exact hm)
 have HB:=Qa (show Below g w (w.alloc (.cells (chunkA dat k) 289)) from (Below.refl _ _).alloc (by omega) _)
 have HX:=Qa (splice_rowF (L:=L) (off:=off) (m:=m) f (fun j=>dat (a+j)) (fun j=>if off≤j∧j<off+m then dat (a+(j - off)) else f j) (by omega) (fun j _=>rfl))
 have Qb:=Qa (show (rowF m (fun j=>dat (a+j))).length=m by rw [rowF_length])
 have HF:=Qa (show off+(rowF m (fun j=>dat (a+j))).length≤(rowF L f).length by rw [rowF_length,rowF_length];omega)
 rw [←hm]
 clear xa hm hg ja
 simp only [Bool.false_eq_true,if_false] at ma
 have sa:=store_chunk w dat k
 have la:=chunkA_size dat k
 have ba:=slice_chunk (w.alloc (.cells (chunkA dat k) 289)) w.heap.size r qa
 go_enter Tryz.func182,Tryz.ntmps182
 go_wp2_with ((with_reducible refine wpList_copy_splice rfl _ _ 53 53 rfl 5 Tryz.underlying53 info5 _ _ _ _ _ _ rfl rfl g off (rowF L f) 5 HG.out (rowF m (fun j=>dat (a+j))) HL.out (fun _=>⟨rfl,_,rfl,HS.out⟩) HF.out rowF_one g w HB.out (Nat.le_refl _) ?_);intro w2 ja hb2)
 go_ret
 exact ⟨ret_len Qb.out,by rw [←HX.out];exact ja.out,hb2⟩
def Bytes (w:World) (X:Nat) (A:Option Addr) (n:Nat) (f:Nat→UInt8):Prop:=∀i,i<n→∃b off,A=some ⟨b,off,none⟩∧b<X∧w.cell? ⟨b,off+i,none⟩=some (U8 (f i))
theorem add0 (b off j:Nat):(⟨b,off,none⟩:Addr).add j=⟨b,off+j,none⟩:=by unfold Addr.add;split <;> simp_all
def over (dat:Nat→UInt8) (a m:Nat) (f:Nat→UInt8):Nat→UInt8:=fun i=>if a≤i∧i<a+m then f (i - a) else dat i
theorem over_off {dat f:Nat→UInt8} {a m k r:Nat} (ha:a=16*k+r) (hm:m≤16 - r) (hr:r<16):∀i,i / 16≠k→over dat a m f i=dat i:=by
 intro i hi
 unfold over
 rw [Ja (by omega)]
theorem chunk_cells {w:World} {c:Nat} {t:TypeId} {dat:Nat→UInt8} {k:Nat} (h:w.heap[c]?=some (.cells (chunkL dat k).toArray t (0,0))) :
  ∃V:Nat→Value,chunkA dat k=#[V 0,V 1,V 2,V 3,V 4,V 5,V 6,V 7,V 8,V 9,V 10,V 11,V 12,V 13,V 14,V 15]∧∀j,j<16→w.cell? ⟨c,j,none⟩=some (V j) :=
 ⟨fun j=>U8 (dat (16*k+j)),rfl,fun j hj=>by
  rw [cell_of_row _ _ j _ t (0,0) h]
  have:=chunkL_get dat k j hj
  simpa using this⟩
theorem put_any (S B M n N a k r dl dc:Nat) (A:Option Addr) (th:Nat→Bool) (dat f:Nat→UInt8) (w:World) (hb:BodC w S B M n) (hM:MapAt w M th dat N) (hk:(a:Int) / 16=k) (hr:(a:Int) % 16=r) (ha:a≤65536)
  (hs:Bytes w w.heap.size A dl f) (hd:0<dl) :
  Calls Tryz.prog 167 #[Pq B,.int .i64 (a:Int),.slice A dl dc] w (fun e w'=>e=.returned (.int .i64 ((min dl (16 - r):Nat):Int)) ∧
   MapAt w' M (updB th k true) (over dat a (min dl (16 - r)) f) (addN th k N)∧Only (·=M) w w'):=by
 have ma:=hM.look k false
 have h2:=hb.c2
 have ga:=World.block_lt_of_cell? w _ h2
 have xa:a=16*k+r:=by omega
 have qa:r<16:=by omega
 obtain ⟨m,hm⟩:∃m,m=min dl (16 - r):=⟨_,rfl⟩
 have sa:m≤16 - r:=by omega
 have kb:m≤dl:=by omega
 obtain ⟨sb,so,rfl,hsl0,_⟩:=hs 0 hd
 have ja:∀j v,(rowF m f)[j]?=some v→(w.alloc (.cells (chunkA dat k) 289)).cell? ((⟨sb,so,none⟩:Addr).add j)=some v:=by
  intro j v hv
  have hj:j<m:=by
   have:=(List.getElem?_eq_some_iff.1 hv).1
   simpa [rowF_length] using this
  rw [rowF_get _ hj] at hv
  injection hv with hv
  subst hv
  obtain ⟨b,off,e,hB,h0⟩:=hs j (by omega)
  injection e with e
  injection e with e1 e2
  subst e1;subst e2
  rw [add0]
  exact (((Below.refl _ _).alloc (Nat.le_refl _) _).cell (p:=⟨sb,so+j,none⟩) hB).trans h0
 have HS:=Qa ja
 have Qe:=Qa xa
 have HG:=Qa (show (w.alloc (.cells (chunkA dat k) 289)).heap[w.heap.size]?=some (.cells (chunkL dat k).toArray 289 (0,0)) from heap_alloc_last w _)
 have HL:=Qa (show (rowF m f).length=dl.min (16 - r) by rw [rowF_length];exact hm)
 have HB:=Qa (show Below w.heap.size w (w.alloc (.cells (chunkA dat k) 289)) from (Below.refl _ _).alloc (Nat.le_refl _) _)
 have HX:=Qa (show splice (chunkL dat k) r (rowF m f)=chunkL (over dat a m f) k from
  splice_rowF (L:=16) (off:=r) (m:=m) (fun j=>dat (16*k+j)) f (fun j=>over dat a m f (16*k+j)) (by omega) (fun j hj=>by
   unfold over
   by_cases h:r≤j∧j<r+m
   ·rw [Jb (by omega),Jb h];congr 1;omega
   ·rw [Ja (by omega),Ja h]))
 have HO:=Qa (over_off (dat:=dat) (f:=f) xa sa qa)
 have Qb:=Qa (show (rowF m f).length=m by rw [rowF_length])
 have HF:=Qa (show r+(rowF m f).length≤(chunkL dat k).length by rw [rowF_length,chunkL_length];omega)
 rw [←hm]
 clear xa hm ja hs
 simp only [Bool.false_eq_true,if_false] at ma
 have la:=store_chunk w dat k
 have ba:=chunkA_size dat k
 have fa:=slice_chunk (w.alloc (.cells (chunkA dat k) 289)) w.heap.size r qa
 go_enter Tryz.func167,Tryz.ntmps167
 go_wp2_with ((with_reducible refine wpList_copy_splice rfl _ _ 53 53 rfl 5 Tryz.underlying53 info5 _ _ _ _ _ _ rfl rfl w.heap.size r (chunkL dat k) 289 HG.out (rowF m f) HL.out (fun _=>⟨rfl,_,rfl,HS.out⟩) HF.out rowF_one w.heap.size w HB.out (Nat.le_refl _) ?_);intro w2 hg2 hb2)
 have ya:=hg2.out
 rw [HX.out] at ya
 obtain ⟨V,hV,hcell⟩:=chunk_cells (w:=w2.drew) ya
 have da:MapAt w2.drew M th dat N:=hM.of_block (hb2.block _ hM.lt)
 obtain ⟨w3,hput,hM3,ho3⟩:=da.put k HO.out
 have mb:w2.drew.cell? ⟨B,2,none⟩=some (.map (some M)):=(hb2.cell (p:=⟨B,2,none⟩) ga).trans h2
 rw [hV] at hput
 have c0:=hcell 0 (by omega)
 have c1:=hcell 1 (by omega)
 have c2:=hcell 2 (by omega)
 have c3:=hcell 3 (by omega)
 have c4:=hcell 4 (by omega)
 have c5:=hcell 5 (by omega)
 have c6:=hcell 6 (by omega)
 have c7:=hcell 7 (by omega)
 have c8:=hcell 8 (by omega)
 have c9:=hcell 9 (by omega)
 have c10:=hcell 10 (by omega)
 have c11:=hcell 11 (by omega)
 have c12:=hcell 12 (by omega)
 have c13:=hcell 13 (by omega)
 have c14:=hcell 14 (by omega)
 have c15:=hcell 15 (by omega)
 have Qc:=Qa hM3
 have Qd:=Qa ((Only.of_below hb2).drew.trans ho3)
 clear ya hM3 ho3 da fa la ma hM hV hcell ba
 go_region
 go_wp2
 go_ret
 exact ⟨ret_len Qb.out,Qc.out,Qd.out⟩
theorem below_one (w:World) (o:Obj):Below w.heap.size w (w.alloc o):=(Below.refl _ _).alloc (Nat.le_refl _) _
theorem StoC.set {w:World} {S room used:Nat} (h:StoC w S room used) (u:Nat):StoC (w.setCell ⟨S,1,none⟩ (.int .i64 (u:Int))) S room u:=by
 have h0:=h.c0
 have h1:=h.c1
 have hf:=h.f1
 exact ⟨(World.cell?_setCell_other _ _ _ _ (by intro e;injection e with _ e;simp at e)).trans h0,World.cell?_setCell_same _ _ _ h1,(World.frozen?_setCell _ _ _ _).trans hf⟩
theorem set_block {w:World} {a:Addr} {u:Value} {M:Nat} (h:M≠a.block):(w.setCell a u).heap[M]?=w.heap[M]?:=Below.heap_setCell w a u M h
theorem prov_there (S B M n N k:Nat) (th:Nat→Bool) (dat:Nat→UInt8) (w:World) (hb:BodC w S B M n) (hM:MapAt w M th dat N) (ht:th k=true) :
  Calls Tryz.prog 166 #[Pq S,Pq B,.int .i64 (k:Int)] w (fun e w'=>e=.returned (.bool true)∧Below w.heap.size w w'):=by
 have ma:=hM.look k true
 rw [ht] at ma
 simp only [if_true] at ma
 have h2:=hb.c2
 have qa:=store_chunk w dat k
 have ja:=chunkA_size dat k
 go_enter Tryz.func166,Tryz.ntmps166
 go_wp2
 go_ret
 exact ⟨rfl,below_one _ _⟩
theorem prov_full (S B M n N k room used:Nat) (th:Nat→Bool) (dat:Nat→UInt8) (w:World) (hb:BodC w S B M n) (hM:MapAt w M th dat N) (hS:StoC w S room used) (ht:th k=false) (hu:room≤used) :
  Calls Tryz.prog 166 #[Pq S,Pq B,.int .i64 (k:Int)] w (fun e w'=>e=.returned (.bool false)∧Below w.heap.size w w'):=by
 have ma:=hM.look k true
 rw [ht] at ma
 simp only [if_true] at ma
 have h2:=hb.c2
 have qa:=World.block_lt_of_cell? w _ hS.c0
 have s0:=hS.c0
 have s1:=hS.c1
 have ja:¬((used:Int)<(room:Int)):=by omega
 have xa:((room:Int)≤(used:Int)):=by omega
 have ya:=store_chunk w dat k
 have da:=chunkA_size dat k
 go_enter Tryz.func166,Tryz.ntmps166
 go_wp2
 go_region
 go_wp2
 go_ret
 exact ⟨rfl,(below_one _ _).drew⟩
theorem prov_make (S B M n N k room used:Nat) (th:Nat→Bool) (dat:Nat→UInt8) (w:World) (hb:BodC w S B M n) (hM:MapAt w M th dat N) (hS:StoC w S room used) (ht:th k=false) (hu:used<room) (hr:room≤65536) (hSM:S≠M) :
  Calls Tryz.prog 166 #[Pq S,Pq B,.int .i64 (k:Int)] w (fun e w'=>e=.returned (.bool true)∧MapAt w' M (updB th k true) dat (N+1)∧StoC w' S room (used+1)∧Only (fun x=>x=M∨x=S) w w'):=by
 have ma:=hM.look k true
 rw [ht] at ma
 simp only [if_true] at ma
 have h2:=hb.c2
 have sa:=World.block_lt_of_cell? w _ h2
 have xa:=World.block_lt_of_cell? w _ hS.c0
 have s0:=hS.c0
 have s1:=hS.c1
 have la:((used:Int)<(room:Int)):=by omega
 have ba:¬((room:Int)≤(used:Int)):=by omega
 have fa:=store_chunk w dat k
 have kb:=chunkA_size dat k
 have qa:=(below_one w (.cells (chunkA dat k) 289)).drew
 have ya:MapAt (w.alloc (.cells (chunkA dat k) 289)).drew M th dat N:=hM.of_block (qa.block _ hM.lt)
 obtain ⟨w3,hput,hM3,ho3⟩:=ya.put (dat':=dat) k (fun _ _=>rfl)
 rw [zero_chunk hM.holes ht,addN,ht] at *
 have f1:=hS.f1
 have ja:=(ho3.block S (Nat.lt_of_lt_of_le xa qa.size) hSM).trans (qa.block S xa)
 have u1:w3.cell? ⟨S,1,none⟩=some (.int .i64 (used:Int)):=(World.cell?_of_block (a:=⟨S,1,none⟩) ja).trans s1
 have u0:w3.cell? ⟨S,0,none⟩=some (.int .i64 (room:Int)):=(World.cell?_of_block (a:=⟨S,0,none⟩) ja).trans s0
 have g1:w3.frozen? ⟨S,1,none⟩=false:=(World.frozen?_of_block (a:=⟨S,1,none⟩) ja).trans f1
 have Qb:=Qa hM3
 have Qc:=Qa (((Only.of_below qa).trans ho3).mono (G:=fun x=>x=M∨x=S) fun _=>Or.inl)
 have Qd:=Qa hSM
 clear hM3 ho3 ya ja hSM
 have da:(Instr.mapUpdate 247 (.map (some M)) (.int .i64 (k:Int)) (.agg Z16)).run Tryz.prog (w.alloc (.cells zeroA 289)).drew=.ok () w3:=hput
 clear hput
 have ga:zeroA.size=16:=rfl
 go_enter Tryz.func166,Tryz.ntmps166
 go_wp2
 go_region
 go_wp2
 go_ret
 exact ⟨rfl,Qb.out.of_block (set_block fun e=>Qd.out e.symm),(StoC.set ⟨u0,u1,g1⟩ (used+1)),Qc.out.setCell (Or.inr rfl) _⟩
theorem BodC.below {w w':World} {S B M n:Nat} (h:BodC w S B M n) (hb:w'.heap[B]?=w.heap[B]?):BodC w' S B M n :=
 ⟨(World.cell?_of_block (a:=⟨B,0,none⟩) hb).trans h.c0,(World.cell?_of_block (a:=⟨B,1,none⟩) hb).trans h.c1,(World.cell?_of_block (a:=⟨B,2,none⟩) hb).trans h.c2,(World.frozen?_of_block (a:=⟨B,1,none⟩) hb).trans h.f1⟩
theorem StoC.below {w w':World} {S room used:Nat} (h:StoC w S room used) (hb:w'.heap[S]?=w.heap[S]?):StoC w' S room used :=
 ⟨(World.cell?_of_block (a:=⟨S,0,none⟩) hb).trans h.c0,(World.cell?_of_block (a:=⟨S,1,none⟩) hb).trans h.c1,(World.frozen?_of_block (a:=⟨S,1,none⟩) hb).trans h.f1⟩
theorem BodC.set {w:World} {S B M n:Nat} (h:BodC w S B M n) (u:Nat):BodC (w.setCell ⟨B,1,none⟩ (.int .i64 (u:Int))) S B M u :=
 ⟨(World.cell?_setCell_other _ _ _ _ (by intro e;injection e with _ e;simp at e)).trans h.c0,World.cell?_setCell_same _ _ _ h.c1,(World.cell?_setCell_other _ _ _ _ (by intro e;injection e with _ e;simp at e)).trans h.c2,(World.frozen?_setCell _ _ _ _).trans h.f1⟩
def wiped (dat:Nat→UInt8) (a k:Nat):Nat→UInt8:=fun i=>if a≤i∧i / 16=k then 0 else dat i
theorem zero5 (w:World):(zeroValue 5).run Tryz.prog w=.ok (U8 0) w:=by kernel_rfl
theorem clear_chunk (w:World) (dat:Nat→UInt8) (k r a:Nat) (ty:TypeId) (hr:r<16) (ha:a=16*k+r) :
  (Builtin.clear_ #[53] ty #[.slice (some ⟨w.heap.size,r,none⟩) (16 - r) (16 - r)]).run Tryz.prog (w.alloc (.cells (chunkA dat k) 289))=.ok (.tuple #[]) (w.alloc (.cells (chunkA (wiped dat a k) k) 289)):=by
 obtain ⟨m,hm⟩:∃m,16 - r=m+1:=⟨15 - r,by omega⟩
 have hz:(Builtin.zeroCells (U8 0).cells (m+1)).toList=rowF (m+1) (fun _=>0):=by
  unfold rowF
  apply List.ext_getElem?
  intro j
  simp [Builtin.zeroCells,U8,Value.cells,Nat.mod_one]
 have ma:=run_storeCells_at Tryz.prog w.heap.size r 289 (rowF (m+1) (fun _=>0)) 0 (chunkA dat k) (w.alloc (.cells (chunkA dat k) 289)) (heap_alloc_last w _) (by rw [rowF_length,chunkA_size];omega) rowF_one
 have qa:splice (chunkL dat k) r (rowF (m+1) (fun _=>0))=chunkL (wiped dat a k) k :=
  splice_rowF (L:=16) (off:=r) (m:=m+1) (fun j=>dat (16*k+j)) (fun _=>0) (fun j=>wiped dat a k (16*k+j)) (by omega) (fun j hj=>by
   unfold wiped
   by_cases h:r≤j∧j<r+(m+1)
   ·rw [Jb (by omega),Jb h]
   ·rw [Ja (by omega),Ja h])
 have hx:((chunkA dat k).toList.take (r+0)++rowF (m+1) (fun _=>0)++(chunkA dat k).toList.drop (r+0+(rowF (m+1) (fun _=>0)).length)).toArray=chunkA (wiped dat a k) k:=by
  unfold chunkA
  rw [←qa]
  simp [splice]
 rw [hx,World.setRow_alloc_new] at ma
 rw [hm]
 unfold Builtin.clear_
 have ja:(Builtin.zeroCells (Value.int IntKind.u8 0).cells (m+1)).toList=rowF (m+1) fun x=>0:=hz
 simp [run_underlying Tryz.underlying53,zero5,ja,ma]
theorem wipe_hole (S B M n N a k:Nat) (th:Nat→Bool) (dat:Nat→UInt8) (w:World) (hb:BodC w S B M n) (hM:MapAt w M th dat N) (hk:(a:Int) / 16=k) (ha:a≤65536) (ht:th k=false) :
  Calls Tryz.prog 241 #[Pq B,.int .i64 (a:Int)] w (fun e w'=>e=.returned (.tuple #[])∧Below w.heap.size w w'):=by
 have ma:=hM.look k true
 rw [ht] at ma
 simp only [if_true] at ma
 have h2:=hb.c2
 have qa:=store_chunk w dat k
 have ja:=chunkA_size dat k
 go_enter Tryz.func241,Tryz.ntmps241
 go_wp2
 go_end0
 exact ⟨rfl,below_one _ _⟩
theorem wipe_there (S B M n N a k r:Nat) (th:Nat→Bool) (dat:Nat→UInt8) (w:World) (hb:BodC w S B M n) (hM:MapAt w M th dat N) (hk:(a:Int) / 16=k) (hr:(a:Int) % 16=r) (ha:a≤65536) (ht:th k=true) :
  Calls Tryz.prog 241 #[Pq B,.int .i64 (a:Int)] w (fun e w'=>e=.returned (.tuple #[])∧MapAt w' M th (wiped dat a k) N∧Only (·=M) w w'):=by
 have ma:=hM.look k true
 rw [ht] at ma
 simp only [if_true] at ma
 have h2:=hb.c2
 have ga:=World.block_lt_of_cell? w _ h2
 have ja:a=16*k+r:=by omega
 have qa:r<16:=by omega
 have sa:=store_chunk w dat k
 have la:=chunkA_size dat k
 have ba:=slice_chunk (w.alloc (.cells (chunkA dat k) 289)) w.heap.size r qa
 have fa:=clear_chunk w dat k r a 0 qa ja
 have xa:=(below_one w (.cells (chunkA (wiped dat a k) k) 289)).drew
 have ya:MapAt (w.alloc (.cells (chunkA (wiped dat a k) k) 289)).drew M th dat N:=hM.of_block (xa.block _ hM.lt)
 obtain ⟨w3,hput,hM3,ho3⟩:=ya.put (dat':=wiped dat a k) k (fun i hi=>by unfold wiped;rw [Ja (by omega)])
 have da:MapAt w3 M th (wiped dat a k) N:=by
  rw [addN,Jb ht] at hM3
  exact hM3.ext (fun x=>by unfold updB;by_cases e:x=k <;> simp [e,ht]) (fun _=>rfl)
 obtain ⟨V,hV,hcell⟩:=chunk_cells (w:=(w.alloc (.cells (chunkA (wiped dat a k) k) 289)).drew) (heap_alloc_last w _)
 have kb:(w.alloc (.cells (chunkA (wiped dat a k) k) 289)).drew.cell? ⟨B,2,none⟩=some (.map (some M)):=(xa.cell (p:=⟨B,2,none⟩) ga).trans h2
 have HM:=Qa da
 have HO:=Qa ((Only.of_below xa).trans ho3)
 have HV:=Qa hV
 have HC:=Qa hcell
 clear da hM3 ho3 ya hcell hV
 generalize hw2:w.alloc (.cells (chunkA (wiped dat a k) k) 289)=w2 at *
 have HW:=Qa hw2
 have Qb:=Qa ja
 clear hw2 ja
 go_enter Tryz.func241,Tryz.ntmps241
 go_wp2
 have hV:=HV.out
 rw [hV] at hput
 have c0:=HC.out 0 (by omega)
 have c1:=HC.out 1 (by omega)
 have c2:=HC.out 2 (by omega)
 have c3:=HC.out 3 (by omega)
 have c4:=HC.out 4 (by omega)
 have c5:=HC.out 5 (by omega)
 have c6:=HC.out 6 (by omega)
 have c7:=HC.out 7 (by omega)
 have c8:=HC.out 8 (by omega)
 have c9:=HC.out 9 (by omega)
 have c10:=HC.out 10 (by omega)
 have c11:=HC.out 11 (by omega)
 have c12:=HC.out 12 (by omega)
 have c13:=HC.out 13 (by omega)
 have c14:=HC.out 14 (by omega)
 have c15:=HC.out 15 (by omega)
 clear hV ba sa ma fa la
 go_region
 go_wp2
 go_end0
 exact ⟨rfl,HM.out,HO.out⟩
theorem ret_int {a b:Int} (h:a=b):Ending.returned (.int .i64 a)=.returned (.int .i64 b):=by rw [h]
theorem chunksTo_any (n:Nat) (w:World) (hn:n≤1000000):Calls Tryz.prog 240 #[.int .i64 (n:Int)] w (fun e w'=>e=.returned (.int .i64 (((n+15) / 16:Nat):Int))∧w=w'):=by
 go_enter Tryz.func240,Tryz.ntmps240
 go_wp2
 go_ret
 exact ⟨ret_int (show ((n:Int)+16 - 1) / 16=_ by omega),rfl⟩
theorem eq_ptr (S:Nat) (w:World):(binOp .eql 128 (Pq S) (Pq S)).run Tryz.prog w=.ok (.bool true) w:=by
 have h:(Tryz.prog.info? 221).isSome=true:=by kernel_rfl
 obtain ⟨j,hj⟩:=Option.isSome_iff_exists.1 h
 exact run_eql_ptr_same w ⟨S,0,none⟩ Tryz.underlying128 hj
theorem owns_any (S B M n:Nat) (w:World) (hb:BodC w S B M n):Calls Tryz.prog 165 #[Pq S,Pq B] w (fun e w'=>e=.returned (.bool true)∧w=w'):=by
 have h0:=hb.c0
 have he:=eq_ptr S w
 go_enter Tryz.func165,Tryz.ntmps165
 go_wp2
 go_ret
 exact ⟨rfl,rfl⟩
theorem used_any (S room used:Nat) (w:World) (hs:StoC w S room used):Calls Tryz.prog 132 #[Pq S] w (fun e w'=>e=.returned (.int .i64 (used:Int))∧w=w'):=by
 have h0:=hs.c1
 go_enter Tryz.func132,Tryz.ntmps132
 go_wp2
 go_ret
 exact ⟨rfl,rfl⟩
theorem size_any (S B M n:Nat) (w:World) (hb:BodC w S B M n):Calls Tryz.prog 180 #[Pq B] w (fun e w'=>e=.returned (.int .i64 (n:Int))∧w=w'):=by
 have h0:=hb.c1
 go_enter Tryz.func180,Tryz.ntmps180
 go_wp2
 go_ret
 exact ⟨rfl,rfl⟩
theorem body_any (S:Nat) (w:World):Calls Tryz.prog 155 #[Pq S] w (fun e w'=>e=.returned (Pq (w.heap.size+1))∧w'=(w.alloc (.map #[] 0)).alloc (.cells #[Pq S,.int .i64 0,.map (some w.heap.size)] 249)):=by
 have hm:=run_makeMap (P:=Tryz.prog) 247 w
 go_enter Tryz.func155,Tryz.ntmps155
 go_wp2
 go_ret
 exact ⟨by simp,rfl⟩
theorem new_yes (room:Nat) (w:World) (hr:room≤65536):Calls Tryz.prog 88 #[.int .i64 (room:Int)] w (fun e w'=>e=.returned (Pq w.heap.size)∧w'=w.alloc (.cells #[.int .i64 (room:Int),.int .i64 0] 221)):=by
 have h1:¬((65536:Int)<(room:Int)):=by omega
 have h0:¬((room:Int)<0):=by omega
 go_enter Tryz.func88,Tryz.ntmps88
 go_wp2
 go_ret
 exact ⟨rfl,rfl⟩
theorem new_no (room:Int) (w:World) (hr:room<0∨65536<room):Calls Tryz.prog 88 #[.int .i64 room] w (fun e w'=>e=.returned (.pointer none)∧w=w'):=by
 by_cases h:room<0
 ·go_enter Tryz.func88,Tryz.ntmps88
  go_wp2
  go_ret
  exact ⟨rfl,rfl⟩
 ·have h2:65536<room:=by omega
  go_enter Tryz.func88,Tryz.ntmps88
  go_wp2
  go_ret
  exact ⟨rfl,rfl⟩
structure AB where
 size:Nat
 th:Nat→Bool
 dat:Nat→UInt8
def AB.n (b:AB):Nat:=cnt 4096 b.th
structure AB.Ok (b:AB):Prop where
 size:b.size≤65536
 th:∀k,b.th k=true→16*k<b.size
 dat:∀i,b.size≤i→b.dat i=0
theorem below_step {w0 w w':World} {X:Nat} (h:Below X w0 w) (hb:Below X w w'):Below X w0 w':=h.trans hb
structure Bod (w:World) (S B M:Nat) (b:AB):Prop where
 c:BodC w S B M b.size
 m:MapAt w M b.th b.dat b.n
 ok:b.Ok
theorem Bod.of {w:World} {S B M N:Nat} {b:AB} (c:BodC w S B M b.size) (m:MapAt w M b.th b.dat N) (ok:b.Ok):Bod w S B M b:=by
 refine ⟨c,?_,ok⟩
 have h:=m.cnt (N:=4096) fun k hk=>by have h1:=ok.th k hk;have h2:=ok.size;omega
 unfold AB.n
 rw [←h]
 exact m
theorem Bod.keep {w w':World} {S B M:Nat} {b:AB} (h:Bod w S B M b) (h1:w'.heap[B]?=w.heap[B]?) (h2:w'.heap[M]?=w.heap[M]?):Bod w' S B M b:=⟨h.c.below h1,h.m.of_block h2,h.ok⟩
theorem Bod.ltB {w:World} {S B M:Nat} {b:AB} (h:Bod w S B M b):B<w.heap.size:=World.block_lt_of_cell? w _ h.c.c0
theorem Bod.ltM {w:World} {S B M:Nat} {b:AB} (h:Bod w S B M b):M<w.heap.size:=h.m.lt
theorem Bod.below {w w':World} {S B M X:Nat} {b:AB} (h:Bod w S B M b) (hb:Below X w w') (h1:B<X) (h2:M<X):Bod w' S B M b:=h.keep (hb.block B h1) (hb.block M h2)
theorem make_bytes (w:World) (n:Nat) (hn:n≤1000000) :
  (Instr.makeSlice 53 (.int .i64 (n:Int)) (.int .i64 (n:Int))).run Tryz.prog w=.ok (.slice (some ⟨w.heap.size,0,none⟩) n n) (w.alloc (.cells (rowF n (fun _=>0)).toArray 5)):=by
 obtain ⟨i,hi,hz,hs,hb⟩:=info_parts (P:=Tryz.prog) (e:=5) (z:=.int .u8 0) (size:=1) (bytes:=1) (by kernel_rfl)
 have hr:=run_make (P:=Tryz.prog) w 53 5 i (.int .u8 0) Tryz.underlying53 hi hz .i64 .i64 n n (by omega) (Int.le_refl _) (by rw [hb];omega) (by omega)
 rw [hr]
 simp only [Int.toNat_natCast,hs]
 congr 3
 apply Array.ext_getElem?
 intro j
 simp [madeCells,rowF,Value.cells,U8,Nat.mod_one,Array.getElem?_range,List.getElem?_range]
 by_cases h:j<n <;> simp [h]
def Row (w:World) (lo:Nat) (A:Option Addr) (n c:Nat) (f:Nat→UInt8):Prop:=n=c∧((A=none∧n=0)∨∃g,lo≤g∧A=some ⟨g,0,none⟩∧w.heap[g]?=some (.cells (rowF n f).toArray 5 (0,0)))
def readR (b:AB) (off n:Int):Int×Nat:=if off<0∨n<0 then (22,0) else (0,min n.toNat (b.size - off.toNat))
def ReadE (w:World) (b:AB) (off n:Int) (e:Ending) (w':World):Prop :=
 ∃A c,e=.returned (.tuple #[.slice A (readR b off n).2 c,.int .i64 (readR b off n).1])∧Row w' w.heap.size A (readR b off n).2 c (fun j=>b.dat (off.toNat+j))∧Below w.heap.size w w'
theorem row_step {m g:Nat} {w:World} {f f':Nat→UInt8} (h:w.heap[g]?=some (.cells (rowF m f).toArray 5 (0,0))) (hf:∀j,j<m→f j=f' j):w.heap[g]?=some (.cells (rowF m f').toArray 5 (0,0)):=by
 rw [←rowF_congr hf];exact h
theorem take_at (S B M g L s done:Nat) (b:AB) (f:Nat→UInt8) (w:World) (hb:Bod w S B M b) (ha:s+done≤65536) (hg:w.heap[g]?=some (.cells (rowF L f).toArray 5 (0,0))) (hd:done<L) :
  Calls Tryz.prog 182 #[Pq B,.int .i64 ((s:Int)+(done:Int)),.slice (some ⟨g,done,none⟩) (L - done) (L - done)] w (fun e w'=>∃m:Nat,e=.returned (.int .i64 (m:Int))∧0<m∧done+m≤L ∧
   w'.heap[g]?=some (.cells (rowF L (fun j=>if done≤j∧j<done+m then b.dat (s+j) else f j)).toArray 5 (0,0))∧Below g w w'):=by
 have h:=take_any S B M b.size b.n (s+done) ((s+done) / 16) ((s+done) % 16) done (L - done) (L - done) g L b.th b.dat f w hb.c hb.m (by omega) (by omega) ha hg (by omega)
 rw [show ((s:Int)+(done:Int))=((s+done:Nat):Int) from by omega]
 refine h.mono fun e w' ⟨he,h1,h2⟩=>⟨_,he,by omega,by omega,row_step h1 fun j _=>?_,h2⟩
 split
 ·congr 1;omega
 ·rfl
theorem read_any (S B M:Nat) (b:AB) (off n:Int) (w:World) (hb:Bod w S B M b):Calls Tryz.prog 134 #[Pq S,Pq B,.int .i64 off,.int .i64 n] w (ReadE w b off n):=by
 have ho:=owns_any S B M b.size w hb.c
 have hB:=hb.ltB
 have hM:=hb.ltM
 have qa:=hb.ok.size
 by_cases h0:off<0
 ·have HP:=Qa (show ReadE w b off n (.returned (.tuple #[.slice none 0 0,.int .i64 22])) w from by
   have:readR b off n=(22,0):=by unfold readR;rw [Jb (Or.inl h0)]
   refine ⟨none,0,?_,?_,Below.refl _ _⟩
   ·rw [this]
   ·rw [this];exact ⟨rfl,.inl ⟨rfl,rfl⟩⟩)
  clear qa hB hM
  go_enter Tryz.func134,Tryz.ntmps134
  go_wp2
  go_ret2
  exact HP.out
 by_cases h1:n<0
 ·have HP:=Qa (show ReadE w b off n (.returned (.tuple #[.slice none 0 0,.int .i64 22])) w from by
   have:readR b off n=(22,0):=by unfold readR;rw [Jb (Or.inr h1)]
   refine ⟨none,0,?_,?_,Below.refl _ _⟩
   ·rw [this]
   ·rw [this];exact ⟨rfl,.inl ⟨rfl,rfl⟩⟩)
  clear qa hB hM
  go_enter Tryz.func134,Tryz.ntmps134
  go_wp2
  go_ret2
  exact HP.out
 obtain ⟨s,rfl⟩:∃s:Nat,off=(s:Int):=⟨off.toNat,by omega⟩
 obtain ⟨q,rfl⟩:∃q:Nat,n=(q:Int):=⟨n.toNat,by omega⟩
 have hR:readR b (s:Int) (q:Int)=(0,min q (b.size - s)):=by unfold readR;rw [Ja (by omega)];simp
 have c1:=hb.c.c1
 by_cases h2:b.size≤s
 ·have HP:=Qa (show ReadE w b (s:Int) (q:Int) (.returned (.tuple #[.slice none 0 0,.int .i64 0])) w from by
   have:readR b (s:Int) (q:Int)=(0,0):=by rw [hR,show min q (b.size - s)=0 from by omega]
   refine ⟨none,0,?_,?_,Below.refl _ _⟩
   ·rw [this]
   ·rw [this];exact ⟨rfl,.inl ⟨rfl,rfl⟩⟩)
  clear qa hB hM hR
  have xa:(b.size:Int)≤(s:Int):=by omega
  have ya:¬((s:Int)<(b.size:Int)):=by omega
  go_enter Tryz.func134,Tryz.ntmps134
  go_wp2_with (go_at_call 165;((with_reducible refine ho.mono ?_);rintro e w' ⟨rfl,rfl⟩))
  go_ret2
  exact HP.out
 obtain ⟨m,hm⟩:∃m,m=min q (b.size - s):=⟨_,rfl⟩
 have ja:=make_bytes w m (by omega)
 have HR:=Qa hR
 have HM:=Qa hm
 have ga:s+m≤65536:=by omega
 have xa:¬(b.size:Int)≤(s:Int):=by omega
 have ya:((s:Int)<(b.size:Int)):=by omega
 have HG:=Qa (heap_alloc_last w (.cells (rowF m (fun _=>0)).toArray 5))
 have HB:=Qa (hb.below (below_one w (.cells (rowF m (fun _=>0)).toArray 5)) hB hM)
 have Qb:=Qa (below_one w (.cells (rowF m (fun _=>0)).toArray 5))
 have HF:=Qa (show ∀w',w'.heap[w.heap.size]?=some (.cells (rowF m (fun j=>if j<m then b.dat (s+j) else 0)).toArray 5 (0,0))→Below w.heap.size w w' →
   ReadE w b (s:Int) (q:Int) (.returned (.tuple #[.slice (some ⟨w.heap.size,0,none⟩) m m,.int .i64 0])) w' from fun w' hg hbl=>by
  refine ⟨some ⟨w.heap.size,0,none⟩,m,?_,?_,hbl⟩
  ·rw [hR,←hm]
  ·rw [hR,←hm]
   exact ⟨rfl,.inr ⟨w.heap.size,Nat.le_refl _,rfl,row_step hg fun j hj=>by rw [Jb hj,Int.toNat_natCast]⟩⟩)
 have sa:decide (b.size≤s)=false:=by simp;omega
 have key:(m=q∧(q:Int)≤(b.size:Int) - (s:Int))∨((b.size:Int) - (s:Int)=(m:Int)∧¬((q:Int)≤(m:Int))):=by omega
 clear hR hm hb h2
 rcases key with ⟨rfl,hle⟩|⟨hd,hlt⟩
 ·go_enter Tryz.func134,Tryz.ntmps134
  go_wp2_with (go_at_call 165;((with_reducible refine ho.mono ?_);rintro e w' ⟨rfl,rfl⟩))
  clear ja
  generalize hW:w.alloc (.cells (rowF m (fun _=>0)).toArray 5)=W at *
  have HW:=Qa hW
  clear hW
  go_loopg [12] m (fun g s12 wr=>∃done:Nat,g+done=m∧s12=.int .i64 (done:Int)∧Hid (wr.heap[w.heap.size]?=some (.cells (rowF m (fun j=>if j<done then b.dat (s+j) else 0)).toArray 5 (0,0)))∧Hid (Below w.heap.size w wr)∧Hid (Bod wr S B M b))
  case atStart=>exact ⟨0,by omega,rfl,Qa (row_step HG.out fun j _=>by simp),Qb,HB⟩
  case round =>
   clear HG Qb HB
   obtain ⟨done,hg,rfl,HG,Qb,HB⟩:=hrel
   by_cases hlt:done<m
   ·have HT:=Qa (take_at S B M w.heap.size m s done b _ wr HB.out (by omega) HG.out hlt)
    have da:¬m=done:=by omega
    go_wp2_with fail
    refine HT.out.mono ?_
    rintro e w4 ⟨p,rfl,hp0,hp1,hrow,hb4⟩
    have Qc:=Qa hrow
    have Qd:=Qa hb4
    have HX:=Qa (HB.out.below hb4 hB hM)
    clear hrow hb4 HT
    go_wp2_with fail
    go_roundg (gk - p)
    case measure=>omega
    case rel=>exact ⟨done+p,by omega,by go_num,Qa (row_step Qc.out fun j hj=>by
     by_cases h1:j<done
     ·rw [Ja (by omega),Jb h1,Jb (by omega)]
     ·by_cases h2:j<done+p
      ·rw [Jb (by omega),Jb h2]
      ·rw [Ja (by omega),Ja h1,Ja h2]),Qa (below_step Qb.out Qd.out),HX⟩
   ·have ma:done=m:=by omega
    have HE:=Qa (HF.out wr (row_step HG.out fun j hj=>by rw [Jb (by omega),Jb hj]) Qb.out)
    clear ma
    go_wp2_with fail
    go_ret2
    exact HE.out
 ·go_enter Tryz.func134,Tryz.ntmps134
  go_wp2_with (go_at_call 165;((with_reducible refine ho.mono ?_);rintro e w' ⟨rfl,rfl⟩))
  clear ja
  generalize hW:w.alloc (.cells (rowF m (fun _=>0)).toArray 5)=W at *
  have HW:=Qa hW
  clear hW
  go_loopg [12] m (fun g s12 wr=>∃done:Nat,g+done=m∧s12=.int .i64 (done:Int)∧Hid (wr.heap[w.heap.size]?=some (.cells (rowF m (fun j=>if j<done then b.dat (s+j) else 0)).toArray 5 (0,0)))∧Hid (Below w.heap.size w wr)∧Hid (Bod wr S B M b))
  case atStart=>exact ⟨0,by omega,rfl,Qa (row_step HG.out fun j _=>by simp),Qb,HB⟩
  case round =>
   clear HG Qb HB
   obtain ⟨done,hg,rfl,HG,Qb,HB⟩:=hrel
   by_cases hlt:done<m
   ·have HT:=Qa (take_at S B M w.heap.size m s done b _ wr HB.out (by omega) HG.out hlt)
    have da:¬m=done:=by omega
    go_wp2_with fail
    refine HT.out.mono ?_
    rintro e w4 ⟨p,rfl,hp0,hp1,hrow,hb4⟩
    have Qc:=Qa hrow
    have Qd:=Qa hb4
    have HX:=Qa (HB.out.below hb4 hB hM)
    clear hrow hb4 HT
    go_wp2_with fail
    go_roundg (gk - p)
    case measure=>omega
    case rel=>exact ⟨done+p,by omega,by go_num,Qa (row_step Qc.out fun j hj=>by
     by_cases h1:j<done
     ·rw [Ja (by omega),Jb h1,Jb (by omega)]
     ·by_cases h2:j<done+p
      ·rw [Jb (by omega),Jb h2]
      ·rw [Ja (by omega),Ja h1,Ja h2]),Qa (below_step Qb.out Qd.out),HX⟩
   ·have ma:done=m:=by omega
    have HE:=Qa (HF.out wr (row_step HG.out fun j hj=>by rw [Jb (by omega),Jb hj]) Qb.out)
    clear ma
    go_wp2_with fail
    go_ret2
    exact HE.out
def cutB (b:AB) (n:Nat):AB:=⟨n,fun k=>b.th k && decide (16*k<n),fun i=>if i<n then b.dat i else 0⟩
def cut (b:AB) (off:Int):AB:=if 0≤off∧off≤65536 then cutB b off.toNat else b
def cutR (off:Int):Int:=if off<0 then 22 else if 65536<off then 27 else 0
theorem cnt_le {N:Nat} {f g:Nat→Bool} (h:∀k,f k=true→g k=true):cnt N f≤cnt N g:=by
 unfold cnt
 rw [←List.countP_eq_length_filter,←List.countP_eq_length_filter]
 exact List.countP_mono_left fun x _ hx=>h x hx
theorem StoC.drew {w:World} {S room used:Nat} (h:StoC w S room used):StoC w.drew S room used:=⟨h.c0,h.c1,h.f1⟩
def fp (S B M:Nat) (x:Nat):Prop:=x=S∨x=B∨x=M
structure BodE (w:World) (S B M room used:Nat) (b b':AB) (w':World):Prop where
 s:StoC w' S room (used+b'.n - b.n)
 b:Bod w' S B M b'
 o:Only (fp S B M) w w'
def CutE (w:World) (S B M room used:Nat) (b:AB) (off:Int) (e:Ending) (w':World):Prop :=
 e=.returned (.int .i64 (cutR off))∧BodE w S B M room used b (cut b off) w'
def delT (b:AB) (c k:Nat):Nat→Bool:=fun x=>b.th x && !(decide (c≤x∧x<k))
def delD (b:AB) (c k:Nat):Nat→UInt8:=fun i=>if c≤i / 16∧i / 16<k then 0 else b.dat i
theorem cnt_congr {N:Nat} {f g:Nat→Bool} (h:∀k,f k=g k):cnt N f=cnt N g:=by
 obtain rfl:f=g:=funext h
 rfl
theorem delT_cut {b:AB} {n c k:Nat} (ok:b.Ok) (hc:c=(n+15) / 16) (hck:c≤k) (hk:(b.size+15) / 16≤k) (x:Nat):delT b c k x=(cutB b n).th x:=by
 show (b.th x && !(decide (c≤x∧x<k)))=(b.th x && decide (16*x<n))
 cases hx:b.th x
 ·rfl
 ·have h1:=ok.th x hx
  by_cases h:16*x<n
  ·have h2:¬(c≤x∧x<k):=by omega
   simp [h,h2]
  ·have h2:(c≤x∧x<k):=by omega
   simp [h,h2]
theorem wipe_any (S B M n N a:Nat) (th:Nat→Bool) (dat:Nat→UInt8) (w:World) (hb:BodC w S B M n) (hM:MapAt w M th dat N) (ha:a≤65536) :
  Calls Tryz.prog 241 #[Pq B,.int .i64 (a:Int)] w (fun e w'=>e=.returned (.tuple #[])∧MapAt w' M th (wiped dat a (a / 16)) N∧Only (·=M) w w'):=by
 cases ht:th (a / 16)
 ·refine (wipe_hole S B M n N a (a / 16) th dat w hb hM (by omega) ha ht).mono fun e w' ⟨he,hbl⟩=>⟨he,?_,Only.of_below hbl⟩
  refine (hM.of_block (hbl.block M hM.lt)).ext (fun _=>rfl) fun i=>?_
  unfold wiped
  split
  ·next h =>
   have:=hM.holes (a / 16) ht (i % 16) (by omega)
   rw [show 16*(a / 16)+i % 16=i from by omega] at this
   exact this.symm
  ·rfl
 ·exact wipe_there S B M n N a (a / 16) (a % 16) th dat w hb hM (by omega) (by omega) ha ht
theorem cut_any (S B M room used:Nat) (b:AB) (off:Int) (w:World) (hb:Bod w S B M b) (hs:StoC w S room used) (hu:b.n≤used) (hr:used≤65536) (hSB:S≠B) (hSM:S≠M) (hBM:B≠M) :
  Calls Tryz.prog 228 #[Pq S,Pq B,.int .i64 off] w (CutE w S B M room used b off):=by
 have ho:=owns_any S B M b.size w hb.c
 have ga:=World.block_lt_of_cell? w _ hs.c0
 have hB:=hb.ltB
 have hM:=hb.ltM
 have sa:=hb.ok.size
 have Qb:=Qa (show ∀e v,cut b off=b→cutR off=v→e=.returned (.int .i64 v)→CutE w S B M room used b off e w from fun e v h1 h2 he =>
  ⟨by rw [h2];exact he,by rw [h1,Nat.add_sub_cancel];exact hs,by rw [h1];exact hb,Only.refl _ _⟩)
 by_cases h0:off<0
 ·have HP:=Qa (Qb.out _ 22 (by unfold cut;rw [Ja (by omega)]) (by unfold cutR;rw [Jb h0]) rfl)
  clear sa hB hM hSB hSM hBM
  go_enter Tryz.func228,Tryz.ntmps228
  go_wp2
  go_ret
  exact HP.out
 by_cases h1:65536<off
 ·have HP:=Qa (Qb.out _ 27 (by unfold cut;rw [Ja (by omega)]) (by unfold cutR;rw [Ja (by omega),Jb h1]) rfl)
  clear sa hB hM hSB hSM hBM
  go_enter Tryz.func228,Tryz.ntmps228
  go_wp2_with (go_at_call 165;((with_reducible refine ho.mono ?_);rintro e w' ⟨rfl,rfl⟩))
  go_ret
  exact HP.out
 obtain ⟨n,rfl⟩:∃n:Nat,off=(n:Int):=⟨off.toNat,by omega⟩
 have hn:n≤65536:=by omega
 have hcut:cut b (n:Int)=cutB b n:=by unfold cut;rw [Jb (by omega),Int.toNat_natCast]
 have ma:cutR (n:Int)=0:=by unfold cutR;rw [Ja (by omega),Ja (by omega)]
 have c1:=hb.c.c1
 have c2:=hb.c.c2
 have da:=hb.m.len 3
 have qa:=chunksTo_any n w (by omega)
 have Qd:=Qa hcut
 have Qi:=Qa ma
 have HB:=Qa hb
 have HS:=Qa hs
 have Qc:=Qa (show S≠B∧S≠M∧B≠M from ⟨hSB,hSM,hBM⟩)
 clear hcut ma hb hs Qb hSB hSM hBM
 obtain ⟨c,hc⟩:∃c,c=(n+15) / 16:=⟨_,rfl⟩
 obtain ⟨d,hd⟩:∃d,d=(b.size+15) / 16:=⟨_,rfl⟩
 rw [←hc] at qa
 have HC:=Qa hc
 have HD:=Qa hd
 have xb:c≤4096:=by omega
 have yb:d≤4096:=by omega
 clear hc hd
 go_enter Tryz.func228,Tryz.ntmps228
 go_wp2_with (first|(go_at_call 165;((with_reducible refine ho.mono ?_);rintro e w' ⟨rfl,rfl⟩))|(go_at_call 240;((with_reducible refine qa.mono ?_);rintro e w' ⟨rfl,rfl⟩)))
 clear ho qa da
 go_loopg [9] (4096 - c) (fun g s9 wr=>∃(k N:Nat),g+k=4096∧c≤k∧s9=.int .i64 (k:Int)∧(k≤d∨k=c)∧Hid (MapAt wr M (delT b c k) (delD b c k) N)∧Hid (Only (·=M) w wr))
 case atStart=>exact ⟨c,b.n,by omega,by omega,rfl,by omega,Qa (HB.out.m.ext (fun x=>by unfold delT;simp;omega) (fun i=>by unfold delD;rw [Ja (by omega)])),Qa (Only.refl _ _)⟩
 case round =>
  obtain ⟨k,N,hg,qa,rfl,hkd,HM,HO⟩:=hrel
  have ja:=HO.out.block B hB Qc.out.2.2
  have la:=(World.cell?_of_block (a:=⟨B,2,none⟩) ja).trans c2
  have kb:=(World.cell?_of_block (a:=⟨B,1,none⟩) ja).trans c1
  have Qf:=Qa (show Calls Tryz.prog 240 #[.int .i64 (b.size:Int)] wr (fun e w'=>e=.returned (.int .i64 (d:Int))∧wr=w') by rw [HD.out];exact chunksTo_any b.size wr (by omega))
  by_cases hlt:k<d
  ·obtain ⟨w3,hdel,hM3,hO3⟩:=HM.out.del (dat':=delD b c (k+1)) k (fun i hi=>by
    unfold delD
    by_cases h:c≤i / 16∧i / 16<k
    ·rw [Jb (by omega),Jb h]
    ·rw [Ja (by omega),Ja h]) (fun j hj=>by unfold delD;rw [Jb (by omega)]) 0
   have Qj:=Qa (hM3.ext (th':=delT b c (k+1)) (fun x=>by
    unfold updB delT
    by_cases e:x=k
    ·subst e
     have:decide (c≤x∧x<x+1)=true:=by simp;omega
     rw [this,Jb rfl];simp
    ·have:decide (c≤x∧x<k+1)=decide (c≤x∧x<k):=decide_eq_decide.2 (by omega)
     rw [this,Ja e]) (fun _=>rfl))
   have Qk:=Qa (HO.out.trans hO3)
   clear hM3 hO3 ja
   go_wp2_with (go_at_call 240;((with_reducible refine Qf.out.mono ?_);rintro e w' ⟨rfl,rfl⟩))
   go_roundg (gk - 1)
   case measure=>omega
   case rel=>exact ⟨k+1,_,by omega,by omega,by go_num,by omega,Qj,Qk⟩
  ·have hN:N=cnt 4096 (delT b c k):=HM.out.cnt fun x hx=>by
    unfold delT at hx
    simp only [Bool.and_eq_true] at hx
    have h1:=HB.out.ok.th x hx.1
    omega
   have rb:N≤b.n:=by rw [hN];exact cnt_le fun x hx=>by unfold delT at hx;simp only [Bool.and_eq_true] at hx;exact hx.1
   have xa:=HO.out.block S ga Qc.out.2.1
   have s1:wr.drew.cell? ⟨S,1,none⟩=some (.int .i64 (used:Int)):=(World.cell?_of_block (a:=⟨S,1,none⟩) xa).trans HS.out.c1
   have f1:wr.drew.frozen? ⟨S,1,none⟩=false:=(World.frozen?_of_block (a:=⟨S,1,none⟩) xa).trans HS.out.f1
   have d2:wr.drew.cell? ⟨B,2,none⟩=some (.map (some M)):=la
   have mb:(Builtin.len_ #[247] 3 #[.map (some M)]).run Tryz.prog wr.drew=.ok (.int .i64 (N:Int)) wr.drew:=MapAt.len (w:=wr.drew) HM.out 3
   have HN:=Qa hN
   have Ql:=Qa xa
   have Qm:=Qa ja
   clear hN xa ja
   go_wp2_with (go_at_call 240;((with_reducible refine Qf.out.mono ?_);rintro e w' ⟨rfl,rfl⟩))
   go_region
   obtain ⟨U,hU⟩:∃U:Nat,U=used - (b.n - N):=⟨_,rfl⟩
   have ba:(used:Int) - ((b.n:Int) - (N:Int))=(U:Int):=by omega
   rw [ba]
   have W1:StoC (wr.setCell ⟨S,1,none⟩ (.int .i64 (U:Int))).drew S room U:=((HS.out.below Ql.out).set U).drew
   have W2:BodC (wr.setCell ⟨S,1,none⟩ (.int .i64 (U:Int))).drew S B M b.size:=(HB.out.c.below Qm.out).below (set_block fun e=>Qc.out.1 e.symm)
   have W3:MapAt (wr.setCell ⟨S,1,none⟩ (.int .i64 (U:Int))).drew M (delT b c k) (delD b c k) N:=HM.out.of_block (set_block fun e=>Qc.out.2.1 e.symm)
   have W4:Only (fp S B M) w (wr.setCell ⟨S,1,none⟩ (.int .i64 (U:Int))).drew:=((HO.out.mono (G:=fp S B M) fun x hx=>Or.inr (Or.inr hx)).setCell (p:=⟨S,1,none⟩) (Or.inl rfl) _).drew
   generalize (wr.setCell ⟨S,1,none⟩ (.int .i64 (U:Int))).drew=W at *
   have Qn:=Qa (wipe_any S B M b.size N n (delT b c k) (delD b c k) W W2 W3 hn)
   have Qo:=Qa W1
   have Qe:=Qa W2
   have Qg:=Qa W4
   have HU:=Qa hU
   clear W1 W2 W3 W4 hU ba s1 f1 d2 mb la kb c1 c2
   have fa:=Qg.out.size
   go_wp2_with fail
   refine Qn.out.mono ?_
   rintro e w6 ⟨rfl,hm6,ho6⟩
   have ya:=ho6.block B (Nat.lt_of_lt_of_le hB fa) Qc.out.2.2
   have e1:=(World.cell?_of_block (a:=⟨B,1,none⟩) ya).trans Qe.out.c1
   have e2:=(World.frozen?_of_block (a:=⟨B,1,none⟩) ya).trans Qe.out.f1
   have Qp:=Qa hm6
   have Qh:=Qa ho6
   have Qq:=Qa ya
   clear hm6 ho6 ya
   go_wp2
   go_ret
   have jb:=Qh.out.block S (Nat.lt_of_lt_of_le ga fa) Qc.out.2.1
   have pb:(cutB b n).n=N:=by
    rw [HN.out]
    exact cnt_congr fun x=>(delT_cut HB.out.ok HC.out qa (by have:=HD.out;omega) x).symm
   refine ⟨?_,?_,?_,?_⟩
   ·rw [Qi.out];rfl
   ·rw [Qd.out,pb,show used+N - b.n=U from by rw [HU.out];omega]
    exact (Qo.out.below jb).below (set_block Qc.out.1)
   ·rw [Qd.out]
    refine Bod.of (N:=N) ((Qe.out.below Qq.out).set n) ?_ ⟨hn,fun x hx=>?_,fun i hi=>?_⟩
    ·refine (Qp.out.of_block (set_block fun e=>Qc.out.2.2 e.symm)).ext (fun x=>?_) fun i=>?_
     ·exact (delT_cut HB.out.ok HC.out qa (by have:=HD.out;omega) x).symm
     ·unfold cutB wiped delD
      dsimp only
      have h1:=HC.out
      have h2:=HD.out
      have h3:=HB.out.ok.dat i
      by_cases hi:i<n
      ·rw [Jb hi,Ja (by omega),Ja (by omega)]
      ·rw [Ja hi]
       by_cases h4:i / 16=n / 16
       ·rw [Jb (by omega)]
       ·rw [Ja (by omega)]
        by_cases h5:i / 16<k
        ·rw [Jb (by omega)]
        ·rw [Ja (by omega),h3 (by omega)]
    ·simp only [cutB,Bool.and_eq_true,decide_eq_true_eq] at hx ⊢
     exact hx.2
    ·simp only [cutB] at hi ⊢
     rw [Ja (by omega)]
   ·exact (Qg.out.trans (Qh.out.mono fun x hx=>Or.inr (Or.inr hx))).setCell (Or.inr (Or.inl rfl)) _
theorem free_any (S B M room used:Nat) (b:AB) (w:World) (hb:Bod w S B M b) (hs:StoC w S room used) (hu:b.n≤used) (hr:used≤65536) (hSB:S≠B) (hSM:S≠M) (hBM:B≠M) :
  Calls Tryz.prog 213 #[Pq S,Pq B] w (fun e w'=>e=.returned (.tuple #[])∧BodE w S B M room used b (cut b 0) w'):=by
 have h:=cut_any S B M room used b 0 w hb hs hu hr hSB hSM hBM
 clear hb hs hu hr hSB hSM hBM
 go_enter Tryz.func213,Tryz.ntmps213
 go_wp2_with (go_at_call 228;((with_reducible refine h.mono ?_);rintro e w' ⟨rfl,h2⟩))
 go_end0
 exact ⟨rfl,h2⟩
end bl
end Go.Proofs.YtgoddboicjfkcaaGreat
