/- Contracts and mathematics, part 7. -/
import Derived.Test.YtgoddboicjfkcaaGreatZ02
import Derived.Test.YtgoddboicjfkcaaGreatZ05
set_option linter.unusedVariables false
set_option linter.unusedSimpArgs false
set_option maxRecDepth 100000
set_option maxHeartbeats 8000000
namespace Go.Proofs.YtgoddboicjfkcaaGreat
namespace br
open Go.RowKit
open dn (En lget lset ldel nerr dotB Sorted)
open bl (AB cut cutR cutB readR WR wr)
structure Ino where
 kind:Int
 links:Int
 holds:Int
 marks:Int
 parent:Int
 body:AB
 dir:List En
 target:ByteArray
def abE:AB:=⟨0,fun _=>false,fun _=>0⟩
def Ino.nil:Ino:=⟨0,0,0,0,0,abE,[],⟨#[]⟩⟩
structure BS where
 ino:Nat→Ino
 used:Nat
def upd (f:Nat→Ino) (i:Nat) (x:Ino):Nat→Ino:=fun k=>if k=i then x else f k
theorem upd_same (f:Nat→Ino) (i:Nat) (x:Ino):upd f i x i=x:=by simp [upd]
theorem upd_other (f:Nat→Ino) {i k:Nat} (x:Ino) (h:k≠i):upd f i x k=f k:=by simp [upd,h]
def BS.at (S:BS) (i:Int):Ino:=S.ino i.toNat
def BS.put (S:BS) (i:Int) (x:Ino):BS:=⟨upd S.ino i.toNat x,S.used⟩
def BS.isI (S:BS) (i:Int):Bool:=decide (1≤i∧i≤200∧(S.at i).kind≠0)
def fresh:BS:=⟨upd (fun _=>Ino.nil) 1 { Ino.nil with kind:=2,links:=1,parent:=1 },0⟩
def sumF (f:Nat→Nat):Nat→Nat
 | 0=>0
 | n+1=>sumF f n+f (n+1)
def BS.dirE (S:BS) (d:Int) (change:Bool):Int :=
 if S.isI d=false then 2 else if (S.at d).kind≠2 then 20 else if change=true∧(S.at d).links=0 then 2 else 0
def nameE (s:ByteArray):Int:=if nerr s.data.toList=0∧dotB s=true then 22 else nerr s.data.toList
def BS.get (S:BS) (d:Int) (s:ByteArray):Int×Int :=
 if S.dirE d false≠0 then (0,S.dirE d false) else match lget s (S.at d).dir with|some v=>(v,0)|none=>(0,2)
def BS.vacant (S:BS) (d:Int) (s:ByteArray):Int :=
 if S.dirE d true≠0 then S.dirE d true else if nameE s≠0 then nameE s else if (lget s (S.at d).dir).isSome then 17 else 0
def BS.free (S:BS):Nat→Nat→Nat
 | k,0=>k
 | k,n+1=>if (S.ino k).kind=0 then k else BS.free S (k+1) n
def badKind (kind:Int) (t:ByteArray):Bool :=
 decide (kind<1∨kind > 4∨(kind≠3∧t≠⟨#[]⟩)∨(kind=3∧(t=⟨#[]⟩∨400<t.size)))
def BS.putDir (S:BS) (d:Int) (L:List En):BS:=S.put d { S.at d with dir:=L }
def BS.make (S:BS) (d:Int) (s:ByteArray) (kind:Int) (t:ByteArray):(Int×Int)×BS :=
 if S.vacant d s≠0 then ((0,S.vacant d s),S)
 else if badKind kind t=true then ((0,22),S)
 else let n:=S.free 1 200
  if 200<n then ((0,28),S)
  else
   let S1:=S.put n ⟨kind,1,0,0,if kind=2 then d else 0,abE,[],t⟩
   (((n:Int),0),S1.putDir d (lset s n (S1.at d).dir))
def BS.less (S:BS) (i:Int) (dl dh:Int):BS :=
 let x:={ S.at i with links:=(S.at i).links - dl,holds:=(S.at i).holds - dh }
 if x.links=0∧x.holds=0 then ⟨upd S.ino i.toNat Ino.nil,S.used - x.body.n⟩ else S.put i x
def BS.drop (S:BS) (d:Int) (s:ByteArray) (i:Int):BS:=(S.putDir d (ldel s (S.at d).dir)).less i 1 0
def BS.unlink (S:BS) (d:Int) (s:ByteArray):Int×BS :=
 if S.dirE d true≠0 then (S.dirE d true,S)
 else if (S.get d s).2≠0 then ((S.get d s).2,S)
 else if (S.at (S.get d s).1).kind=2 then (21,S)
 else (0,S.drop d s (S.get d s).1)
def BS.below (S:BS) (i top:Int):Nat→Bool
 | 0=>false
 | n+1=>decide (i=top) || BS.below S (S.at i).parent top n
def BS.move (S:BS) (d:Int) (s:ByteArray) (t:Int) (u:ByteArray) (i:Int):BS :=
 let S1:=S.putDir d (ldel s (S.at d).dir)
 let S2:=S1.putDir t (lset u i (S1.at t).dir)
 if (S.at i).kind=2 then S2.put i { S2.at i with parent:=t } else S2
def BS.rename (S:BS) (d:Int) (s:ByteArray) (t:Int) (u:ByteArray):Int×BS :=
 if S.dirE d true≠0 then (S.dirE d true,S)
 else if (S.get d s).2≠0 then ((S.get d s).2,S)
 else if S.dirE t true≠0 then (S.dirE t true,S)
 else if nameE u≠0 then (nameE u,S)
 else
  let i:=(S.get d s).1
  if (S.at i).kind=2∧S.below t i 300=true then (22,S)
  else match lget u (S.at t).dir with
   | none=>(0,S.move d s t u i)
   | some old =>
    if old=i then (0,S)
    else if (S.at old).kind=2∧(S.at i).kind≠2 then (21,S)
    else if (S.at old).kind≠2∧(S.at i).kind=2 then (20,S)
    else if (S.at old).kind=2∧(S.at old).dir≠[] then (39,S)
    else (0,(S.drop t u old).move d s t u i)
def BS.kindOf (S:BS) (i:Int):Int:=if S.isI i then (S.at i).kind else 0
def BS.marksOf (S:BS) (i:Int):Int:=if S.isI i then (S.at i).marks else 0
def Ino.sizeOf (x:Ino):Nat:=if x.kind=1 then x.body.size else if x.kind=2 then x.dir.length else if x.kind=3 then x.target.size else 0
def BS.stat (S:BS) (i:Int):(Int×Nat×Int)×Int:=if S.isI i then (((S.at i).kind,(S.at i).sizeOf,(S.at i).links),0) else ((0,0,0),2)
def BS.targetOf (S:BS) (i:Int):ByteArray×Int:=if S.isI i=false then (⟨#[]⟩,2) else if (S.at i).kind≠3 then (⟨#[]⟩,22) else ((S.at i).target,0)
def BS.all (S:BS) (i:Int):List En×Int:=if S.dirE i false≠0 then ([],S.dirE i false) else ((S.at i).dir,0)
def BS.fileE (S:BS) (i:Int):Int:=if S.kindOf i=0 then 2 else if S.kindOf i=2 then 21 else if S.kindOf i=1 then 0 else 22
def BS.wrote (S:BS) (i:Int) (off:Int) (p:Nat) (f:Nat→UInt8):BS :=
 ⟨upd S.ino i.toNat { S.at i with body:=wr (S.at i).body off p f },S.used+(wr (S.at i).body off p f).n - (S.at i).body.n⟩
def BS.cutI (S:BS) (i:Int) (off:Int):Int×BS :=
 if S.fileE i≠0 then (S.fileE i,S)
 else (cutR off,⟨upd S.ino i.toNat { S.at i with body:=cut (S.at i).body off },S.used+(cut (S.at i).body off).n - (S.at i).body.n⟩)
def names (i:Int) (L:List En):Nat:=(L.filter fun e=>decide (e.2=i)).length
def BS.names (S:BS) (i:Int) (n:Nat):Nat:=sumF (fun k=>br.names i (S.ino k).dir) n
def BS.chunks (S:BS) (n:Nat):Nat:=sumF (fun k=>(S.ino k).body.n) n
structure Inv (S:BS) (room:Nat):Prop where
 out:∀k,k=0∨200<k→S.ino k=Ino.nil
 none:∀k,(S.ino k).kind=0→S.ino k=Ino.nil
 kinds:∀k,0≤(S.ino k).kind∧(S.ino k).kind≤4
 nums:∀k,0≤(S.ino k).links∧0≤(S.ino k).holds
 kept:∀k,(S.ino k).kind≠0→(S.ino k).links≠0∨(S.ino k).holds≠0
 root:(S.ino 1).kind=2∧(S.ino 1).links=1∧(S.ino 1).parent=1
 body:∀k,(S.ino k).body.Ok
 noBody:∀k,(S.ino k).kind≠1→(S.ino k).body=abE
 noDir:∀k,(S.ino k).kind≠2→(S.ino k).dir=[]
 noTarget:∀k,(S.ino k).kind≠3→(S.ino k).target=⟨#[]⟩
 target:∀k,(S.ino k).target.size≤400
 sorted:∀k,Sorted (S.ino k).dir
 good:∀k,∀e∈(S.ino k).dir,nerr e.1.data.toList=0∧dotB e.1=false∧1≤e.2∧e.2≤200
 used:S.used=S.chunks 200
 room:S.used≤room
 links:∀k,1≤k→k≤200→(S.ino k).links=(S.names k 200:Int)+if k=1 then 1 else 0
 twenty:∀k,(S.ino k).links≤20
 gone:∀k,(S.ino k).kind=2→(S.ino k).links=0→(S.ino k).dir=[]
 up:∀k,∀e∈(S.ino k).dir,(S.at e.2).kind=2→(S.at e.2).parent=k
 single:∀k,(S.ino k).kind=2→(S.ino k).links≤1
def Tree (S:BS):Prop:=∃deep:Nat→Nat,∀k,(S.ino k).kind=2→(S.ino k).links≠0→k≠1 →
 ∃p:Nat,(S.ino k).parent=(p:Int)∧(S.ino p).kind=2∧(S.ino p).links≠0∧deep p<deep k
end br
namespace br
open Go.RowKit
open dn (En lget lset ldel nerr dotB Sorted lset_new lget_none names_inj lget_some)
open bl (AB cut cutR cutB readR WR wr)
theorem sumF_congr {f g:Nat→Nat} {n:Nat} (h:∀k,1≤k→k≤n→f k=g k):sumF f n=sumF g n:=by
 induction n with
 | zero=>rfl
 | succ n ih=>simp only [sumF];rw [ih fun k h1 h2=>h k h1 (by omega),h (n+1) (by omega) (Nat.le_refl _)]
theorem sumF_upd (g:Ino→Nat) (f:Nat→Ino) (d n:Nat) (x:Ino) (h1:1≤d) (h2:d≤n):sumF (fun k=>g (upd f d x k)) n+g (f d)=sumF (fun k=>g (f k)) n+g x:=by
 induction n with
 | zero=>omega
 | succ n ih =>
  simp only [sumF]
  by_cases e:d=n+1
  ·subst e
   rw [sumF_congr (g:=fun k=>g (f k)) (n:=n) (fun k _ hk=>by show g (upd f (n+1) x k)=_;rw [upd_other f x (by omega)]),upd_same]
   omega
  ·rw [upd_other f x (fun e1=>e e1.symm)]
   have:=ih (by omega)
   omega
theorem sumF_zero {f:Nat→Nat} {n:Nat} (h:∀k,1≤k→k≤n→f k=0):sumF f n=0:=by
 induction n with
 | zero=>rfl
 | succ n ih=>simp only [sumF];rw [ih fun k h1 h2=>h k h1 (by omega),h (n+1) (by omega) (Nat.le_refl _)]
theorem sumF_le {f:Nat→Nat} {k n:Nat} (h1:1≤k) (h2:k≤n):f k≤sumF f n:=by
 induction n with
 | zero=>omega
 | succ n ih =>
  simp only [sumF]
  by_cases e:k=n+1
  ·subst e;omega
  ·have:=ih (by omega);omega
theorem sumF_pos {f:Nat→Nat} {n:Nat} (h:0<sumF f n):∃k,1≤k∧k≤n∧0<f k:=by
 induction n with
 | zero=>simp [sumF] at h
 | succ n ih =>
  simp only [sumF] at h
  by_cases e:0<f (n+1)
  ·exact ⟨n+1,by omega,Nat.le_refl _,e⟩
  ·obtain ⟨k,h1,h2,h3⟩:=ih (by omega)
   exact ⟨k,h1,by omega,h3⟩
theorem names_cons (i:Int) (x:En) (l:List En):names i (x::l)=(if x.2=i then 1 else 0)+names i l:=by
 unfold names
 rw [List.filter_cons]
 by_cases h:x.2=i
 ·simp [h];omega
 ·simp [h]
theorem names_append (i:Int) (l m:List En):names i (l++m)=names i l+names i m:=by simp [names,List.filter_append]
theorem names_lset {s:ByteArray} {v i:Int} {L:List En} (h:lget s L=none):names i (lset s v L)=names i L+if v=i then 1 else 0:=by
 rw [lset_new fun x hx=>(lget_none.1 h) x (List.mem_of_getElem? hx),names_append,names_cons]
 conv=>rhs;rw [←List.take_append_drop (dn.pos s L) L,names_append]
 dsimp only
 omega
theorem names_ldel {s:ByteArray} {v i:Int} {L:List En} (hs:Sorted L) (h:lget s L=some v):names i L=names i (ldel s L)+if v=i then 1 else 0:=by
 induction L with
 | nil=>simp [lget] at h
 | cons x l ih =>
  obtain ⟨h1,h2⟩:=hs.cons
  by_cases e:x.1=s
  ·have hv:x.2=v:=by simpa [lget,e] using h
   have hl:ldel s l=l:=by
    unfold ldel
    rw [List.filter_eq_self]
    intro y hy
    have:=dn.less_ne (h2 y hy)
    simpa [←e] using fun e1=>this e1.symm
   have hd:ldel s (x::l)=l:=by
    have:ldel s (x::l)=ldel s l:=by simp [ldel,e]
    rw [this,hl]
   rw [hd,names_cons,hv];omega
  ·have hg:lget s l=some v:=by simpa [lget,e] using h
   have hd:ldel s (x::l)=x::ldel s l:=by simp [ldel,e]
   rw [hd,names_cons,names_cons,ih h1 hg];omega
theorem names_mem {i:Int} {L:List En}:0<names i L↔∃e∈L,e.2=i:=by
 unfold names
 rw [List.length_pos_iff,Ne,List.filter_eq_nil_iff]
 simp
theorem names_put (S:BS) (i:Int) (d:Nat) (x:Ino) (u:Nat) (h1:1≤d) (h2:d≤200):(⟨upd S.ino d x,u⟩:BS).names i 200+names i (S.ino d).dir=S.names i 200+names i x.dir :=
 sumF_upd (fun x=>names i x.dir) S.ino d 200 x h1 h2
theorem chunks_put (S:BS) (d:Nat) (x:Ino) (u:Nat) (h1:1≤d) (h2:d≤200):(⟨upd S.ino d x,u⟩:BS).chunks 200+(S.ino d).body.n=S.chunks 200+x.body.n :=
 sumF_upd (fun x=>x.body.n) S.ino d 200 x h1 h2
theorem abE_n:abE.n=0:=by unfold AB.n bl.cnt abE;simp
theorem abE_ok:abE.Ok:=⟨by simp [abE],by simp [abE],by simp [abE]⟩
end br
namespace br
open Go.RowKit
open dn (En lget lset ldel nerr dotB Sorted)
open bl (AB cut cutR cutB readR WR wr)
theorem fresh_ino (k:Nat):fresh.ino k=if k=1 then { Ino.nil with kind:=2,links:=1,parent:=1 } else Ino.nil:=rfl
theorem fresh_dir (k:Nat):(fresh.ino k).dir=[]:=by rw [fresh_ino];split <;> rfl
theorem fresh_body (k:Nat):(fresh.ino k).body=abE:=by rw [fresh_ino];split <;> rfl
theorem fresh_target (k:Nat):(fresh.ino k).target=⟨#[]⟩:=by rw [fresh_ino];split <;> rfl
theorem Inv.fresh (room:Nat):Inv fresh room where
 out k hk:=by rw [fresh_ino,Ja (by omega)]
 none k hk:=by
  rw [fresh_ino] at hk ⊢
  by_cases e:k=1
  ·rw [Jb e] at hk;cases hk
  ·rw [Ja e]
 kinds k:=by rw [fresh_ino];split <;> exact ⟨by decide,by decide⟩
 nums k:=by rw [fresh_ino];split <;> exact ⟨by decide,by decide⟩
 kept k hk:=by
  rw [fresh_ino] at hk ⊢
  by_cases e:k=1
  ·rw [Jb e];left;decide
  ·rw [Ja e] at hk;exact absurd rfl hk
 root:=⟨rfl,rfl,rfl⟩
 body k:=by rw [fresh_body];exact abE_ok
 noBody k _:=fresh_body k
 noDir k _:=fresh_dir k
 noTarget k _:=fresh_target k
 target k:=by rw [fresh_target];decide
 sorted k:=by rw [fresh_dir];exact List.Pairwise.nil
 good k e he:=by rw [fresh_dir] at he;cases he
 used:=by
  show 0=sumF _ _
  exact (sumF_zero fun k _ _=>by show (br.fresh.ino k).body.n=0;rw [fresh_body,abE_n]).symm
 room:=Nat.zero_le _
 links k h1 h2:=by
  have:br.fresh.names (k:Int) 200=0:=sumF_zero fun j _ _=>by show names _ (br.fresh.ino j).dir=0;rw [fresh_dir];rfl
  rw [this,fresh_ino]
  by_cases e:k=1
  ·rw [Jb e,Jb e];rfl
  ·rw [Ja e,Ja e];rfl
 twenty k:=by rw [fresh_ino];split <;> decide
 gone k _ _:=fresh_dir k
 up k e he:=by rw [fresh_dir] at he;cases he
 single k _:=by rw [fresh_ino];split <;> decide
end br
namespace br
open Go.RowKit
open dn (En lget lset ldel nerr dotB Sorted lget_some lget_none ldel_mem ldel_sorted)
open bl (AB cut cutR cutB readR WR wr)
theorem Inv.num {S:BS} {room k:Nat} (h:Inv S room) (hk:(S.ino k).kind≠0):1≤k∧k≤200:=by
 by_cases e:k=0∨200<k
 ·exact absurd (by rw [h.out k e];rfl) hk
 ·omega
theorem Inv.linked {S:BS} {room k:Nat} (h:Inv S room) (hk:(S.ino k).links≠0):(S.ino k).kind≠0:=fun e=>hk (by rw [h.none k e];rfl)
theorem Inv.entry {S:BS} {room D:Nat} (h:Inv S room) {e:En} (he:e∈(S.ino D).dir):(S.ino D).kind=2∧(1≤D∧D≤200)∧∃I:Nat,e.2=(I:Int)∧1≤I∧I≤200∧I≠1∧1≤(S.ino I).links∧(S.ino I).kind≠0:=by
 have hD:(S.ino D).kind=2:=by
  by_cases e1:(S.ino D).kind=2
  ·exact e1
  ·rw [h.noDir D e1] at he;cases he
 have ma:=h.num (k:=D) (by rw [hD];decide)
 obtain ⟨_,_,g1,g2⟩:=h.good D e he
 refine ⟨hD,ma,e.2.toNat,by omega,by omega,by omega,?_⟩
 have hl:=h.links e.2.toNat (by omega) (by omega)
 have hn:0<names e.2 (S.ino D).dir:=names_mem.2 ⟨e,he,rfl⟩
 have hs:names e.2 (S.ino D).dir≤S.names e.2 200:=sumF_le (f:=fun k=>names e.2 (S.ino k).dir) ma.1 ma.2
 rw [show ((e.2.toNat:Nat):Int)=e.2 by omega] at hl
 have hL:1≤(S.ino e.2.toNat).links:=by split at hl <;> omega
 refine ⟨fun e1=>?_,hL,h.linked (by omega)⟩
 rw [Jb e1] at hl
 have:=h.root.2.1
 rw [←e1] at this
 omega
theorem Inv.lead {S:BS} {room D:Nat} (h:Inv S room) {s:ByteArray} {v:Int} (hg:lget s (S.ino D).dir=some v):(S.ino D).kind=2∧(1≤D∧D≤200)∧∃I:Nat,v=(I:Int)∧1≤I∧I≤200∧I≠1∧1≤(S.ino I).links∧(S.ino I).kind≠0 :=
 h.entry ((lget_some (h.sorted D)).1 hg)
theorem Inv.own {S:BS} {room D:Nat} (h:Inv S room) (ht:Tree S) {s:ByteArray} (hg:lget s (S.ino D).dir=some (D:Int)):False:=by
 obtain ⟨hD,hDn,I,hI,_,_,h1,hl,_⟩:=h.lead hg
 obtain rfl:D=I:=by omega
 have hu:=h.up D _ ((lget_some (h.sorted D)).1 hg) (by show (S.ino ((D:Int)).toNat).kind=2;rw [Int.toNat_natCast];exact hD)
 have ma:(S.ino D).parent=(D:Int):=by
  have:(S.ino ((D:Int)).toNat).parent=(D:Int):=hu
  rwa [Int.toNat_natCast] at this
 obtain ⟨deep,hd⟩:=ht
 obtain ⟨p,hp,_,_,hlt⟩:=hd D hD (by omega) h1
 obtain rfl:p=D:=by omega
 omega
structure Drop (S S':BS) (D I:Nat) (s:ByteArray):Prop where
 oth:∀k,k≠D→k≠I→S'.ino k=S.ino k
 dir:S'.ino D={ S.ino D with dir:=ldel s (S.ino D).dir }
 ino:(S'.ino I=Ino.nil∧(S.ino I).links=1∧(S.ino I).holds=0∧S'.used=S.used - (S.ino I).body.n) ∨
  (S'.ino I={ S.ino I with links:=(S.ino I).links - 1 }∧((S.ino I).links≠1∨(S.ino I).holds≠0)∧S'.used=S.used)
theorem drop_drop {S:BS} {D I:Nat} (s:ByteArray) (hne:I≠D):Drop S (S.drop D s I) D I s:=by
 have e1:(S.putDir (D:Int) (ldel s (S.at D).dir)).at (I:Int)=S.ino I:=by
  show upd S.ino ((D:Int)).toNat _ ((I:Int)).toNat=_
  rw [Int.toNat_natCast,Int.toNat_natCast,upd_other _ _ hne]
 have e2:∀k,(S.putDir (D:Int) (ldel s (S.at D).dir)).ino k=if k=D then { S.ino D with dir:=ldel s (S.ino D).dir } else S.ino k:=fun k=>by
  show upd S.ino ((D:Int)).toNat _ k=_
  rw [Int.toNat_natCast]
  rfl
 unfold BS.drop BS.less
 simp only [e1]
 by_cases hz:(S.ino I).links - 1=0∧(S.ino I).holds - 0=0
 ·rw [Jb hz]
  refine ⟨fun k h1 h2=>?_,?_,Or.inl ⟨?_,by omega,by omega,rfl⟩⟩
  ·show upd _ ((I:Int)).toNat _ k=_
   rw [Int.toNat_natCast,upd_other _ _ h2,e2,Ja h1]
  ·show upd _ ((I:Int)).toNat _ D=_
   rw [Int.toNat_natCast,upd_other _ _ (fun e=>hne e.symm),e2,Jb rfl]
  ·show upd _ ((I:Int)).toNat _ I=_
   rw [Int.toNat_natCast,upd_same]
 ·rw [Ja hz]
  refine ⟨fun k h1 h2=>?_,?_,Or.inr ⟨?_,by omega,rfl⟩⟩
  ·show upd _ ((I:Int)).toNat _ k=_
   rw [Int.toNat_natCast,upd_other _ _ h2,e2,Ja h1]
  ·show upd _ ((I:Int)).toNat _ D=_
   rw [Int.toNat_natCast,upd_other _ _ (fun e=>hne e.symm),e2,Jb rfl]
  ·show upd _ ((I:Int)).toNat _ I=_
   rw [Int.toNat_natCast,upd_same,Int.sub_zero]
section
variable {S S':BS} {D I room:Nat} {s:ByteArray}
theorem Drop.dirs (d:Drop S S' D I s) (hne:I≠D) (hd:(S.ino I).dir=[]) (k:Nat):(S'.ino k).dir=if k=D then ldel s (S.ino D).dir else (S.ino k).dir:=by
 by_cases e:k=D
 ·subst e;rw [Jb rfl,d.dir]
 ·rw [Ja e]
  by_cases e2:k=I
  ·subst e2
   rcases d.ino with ⟨h,_⟩|⟨h,_⟩
   ·rw [h,hd];rfl
   ·rw [h]
  ·rw [d.oth k e e2]
theorem Drop.keep (d:Drop S S' D I s) (k:Nat) (hk:(S'.ino k).kind≠0):(S'.ino k).kind=(S.ino k).kind∧(S'.ino k).parent=(S.ino k).parent∧(S'.ino k).body=(S.ino k).body∧(S'.ino k).target=(S.ino k).target∧(S'.ino k).holds=(S.ino k).holds∧(S'.ino k).marks=(S.ino k).marks:=by
 by_cases e2:k=I
 ·subst e2
  rcases d.ino with ⟨h,_⟩|⟨h,_⟩
  ·rw [h] at hk;exact absurd rfl hk
  ·rw [h];exact ⟨rfl,rfl,rfl,rfl,rfl,rfl⟩
 ·by_cases e:k=D
  ·subst e;rw [d.dir];exact ⟨rfl,rfl,rfl,rfl,rfl,rfl⟩
  ·rw [d.oth k e e2];exact ⟨rfl,rfl,rfl,rfl,rfl,rfl⟩
theorem Drop.links (d:Drop S S' D I s) (hne:I≠D) (k:Nat):(S'.ino k).links=(S.ino k).links - if k=I then 1 else 0:=by
 by_cases e2:k=I
 ·subst e2
  rw [Jb rfl]
  rcases d.ino with ⟨h,h1,_⟩|⟨h,_⟩
  ·rw [h,h1];rfl
  ·rw [h]
 ·rw [Ja e2,Int.sub_zero]
  by_cases e:k=D
  ·subst e;rw [d.dir]
  ·rw [d.oth k e e2]
theorem Drop.gone (d:Drop S S' D I s) (k:Nat) (hk:(S'.ino k).kind=0) (hS:∀k,(S.ino k).kind=0→S.ino k=Ino.nil) (hD:(S.ino D).kind≠0) (hI:(S.ino I).kind≠0):S'.ino k=Ino.nil:=by
 by_cases e2:k=I
 ·subst e2
  rcases d.ino with ⟨h,_⟩|⟨h,_⟩
  ·exact h
  ·rw [h] at hk;exact absurd hk hI
 ·by_cases e:k=D
  ·subst e;rw [d.dir] at hk;exact absurd hk hD
  ·rw [d.oth k e e2] at hk ⊢;exact hS k hk
theorem Drop.names (d:Drop S S' D I s) (h:Inv S room) (hne:I≠D) (hd:(S.ino I).dir=[]) (hg:lget s (S.ino D).dir=some (I:Int)) (j:Int):S'.names j 200+(if (I:Int)=j then 1 else 0)=S.names j 200:=by
 obtain ⟨_,hDn,_⟩:=h.lead hg
 obtain ⟨y,hy⟩:∃y:Ino,y.dir=ldel s (S.ino D).dir:=⟨{ S.ino D with dir:=ldel s (S.ino D).dir },rfl⟩
 have e1:S'.names j 200=(⟨upd S.ino D y,0⟩:BS).names j 200:=sumF_congr fun k _ _=>by
  show br.names j (S'.ino k).dir=br.names j (upd S.ino D y k).dir
  rw [d.dirs hne hd k]
  by_cases e:k=D
  ·subst e;rw [Jb rfl,upd_same,hy]
  ·rw [Ja e,upd_other _ _ e]
 have e2:=names_put S j D y 0 hDn.1 hDn.2
 have e3:=names_ldel (i:=j) (h.sorted D) hg
 rw [hy] at e2
 rw [e1]
 omega
theorem Drop.chunks (d:Drop S S' D I s) (h:Inv S room) (hne:I≠D) (hI:1≤I∧I≤200):S'.used=S'.chunks 200:=by
 have e1:S'.chunks 200=(⟨upd S.ino I (S'.ino I),0⟩:BS).chunks 200:=sumF_congr fun k _ _=>by
  show (S'.ino k).body.n=(upd S.ino I _ k).body.n
  by_cases e:k=I
  ·subst e;rw [upd_same]
  ·rw [upd_other _ _ e]
   by_cases e2:k=D
   ·subst e2;rw [d.dir]
   ·rw [d.oth k e2 e]
 have e2:=chunks_put S I (S'.ino I) 0 hI.1 hI.2
 have e3:=h.used
 rcases d.ino with ⟨h1,_,_,h4⟩|⟨h1,_,h4⟩
 ·have e4:(S'.ino I).body.n=0:=by rw [h1];exact abE_n
  rw [h4];omega
 ·have e4:(S'.ino I).body=(S.ino I).body:=by rw [h1]
  rw [e4] at e2
  rw [h4];omega
theorem Drop.inv (d:Drop S S' D I s) (h:Inv S room) (hne:I≠D) (hd:(S.ino I).kind=2→(S.ino I).dir=[]) (hg:lget s (S.ino D).dir=some (I:Int)):Inv S' room:=by
 obtain ⟨xa,hDn,I',hI',i1,i2,i3,i4,i5⟩:=h.lead hg
 obtain rfl:I=I':=by omega
 have ja:(S.ino I).dir=[]:=by
  by_cases e:(S.ino I).kind=2
  ·exact hd e
  ·exact h.noDir I e
 have qa:(S.ino D).kind≠0:=by rw [xa];decide
 have G:=fun k hk=>d.gone k hk h.none qa i5
 have K:=d.keep
 have L:=d.links hne
 have R:=d.dirs hne ja
 have N:=d.names h hne ja hg
 have da:(S.ino 1).kind≠0:=by rw [h.root.1];decide
 have K1:(S'.ino 1).kind≠0:=by
  by_cases e:(1:Nat)=D
  ·rw [e,d.dir];exact qa
  ·rw [d.oth 1 e (fun e=>i3 e.symm)];exact da
 have hz:∀k,(S'.ino k).kind=0∨(S'.ino k).kind≠0:=fun k=>Classical.em _
 refine ⟨fun k hk=>?_,G,fun k=>?_,fun k=>?_,fun k hk=>?_,?_,fun k=>?_,fun k hk=>?_,fun k hk=>?_,fun k hk=>?_,fun k=>?_,fun k=>?_,fun k e he=>?_,d.chunks h hne ⟨i1,i2⟩,?_,fun k h1 h2=>?_,fun k=>?_,fun k hk h0=>?_,fun k e he hk=>?_,fun k hk=>?_⟩
 ·rw [d.oth k (by omega) (by omega)];exact h.out k hk
 ·rcases hz k with e|e
  ·rw [G k e];exact ⟨by decide,by decide⟩
  ·rw [(K k e).1];exact h.kinds k
 ·rcases hz k with e|e
  ·rw [G k e];exact ⟨by decide,by decide⟩
  ·rw [(K k e).2.2.2.2.1,L]
   have:=h.nums k
   by_cases e2:k=I
   ·subst e2;rw [Jb rfl];exact ⟨by omega,this.2⟩
   ·rw [Ja e2];exact ⟨by omega,this.2⟩
 ·by_cases e2:k=I
  ·subst e2
   rcases d.ino with ⟨h1,_⟩|⟨h1,h2,_⟩
   ·rw [h1] at hk;exact absurd rfl hk
   ·rw [h1]
    show (S.ino k).links - 1≠0∨(S.ino k).holds≠0
    omega
  ·have:=h.kept k (by rw [←(K k hk).1];exact hk)
   rw [L,Ja e2,(K k hk).2.2.2.2.1,Int.sub_zero];exact this
 ·rw [(K 1 K1).1,(K 1 K1).2.1,L,Ja (fun e=>i3 e.symm),Int.sub_zero];exact h.root
 ·rcases hz k with e|e
  ·rw [G k e];exact abE_ok
  ·rw [(K k e).2.2.1];exact h.body k
 ·rcases hz k with e|e
  ·rw [G k e];rfl
  ·rw [(K k e).2.2.1];rw [(K k e).1] at hk;exact h.noBody k hk
 ·rcases hz k with e|e
  ·rw [G k e];rfl
  ·rw [(K k e).1] at hk
   rw [R]
   by_cases e2:k=D
   ·subst e2;exact absurd xa hk
   ·rw [Ja e2];exact h.noDir k hk
 ·rcases hz k with e|e
  ·rw [G k e];rfl
  ·rw [(K k e).2.2.2.1];rw [(K k e).1] at hk;exact h.noTarget k hk
 ·rcases hz k with e|e
  ·rw [G k e];decide
  ·rw [(K k e).2.2.2.1];exact h.target k
 ·rw [R];split
  ·exact ldel_sorted (h.sorted D)
  ·exact h.sorted k
 ·rw [R] at he
  split at he
  ·exact h.good D e ((ldel_mem e).1 he).1
  ·exact h.good k e he
 ·rcases d.ino with ⟨_,_,_,h4⟩|⟨_,_,h4⟩
  ·rw [h4];exact Nat.le_trans (Nat.sub_le _ _) h.room
  ·rw [h4];exact h.room
 ·have e1:=N (k:Int)
  have e2:=h.links k h1 h2
  rw [L,e2]
  by_cases e:k=I
  ·subst e
   rw [Jb rfl] at e1
   rw [Jb rfl]
   omega
  ·rw [Ja (fun e3=>e (by omega))] at e1
   rw [Ja e]
   omega
 ·rw [L];have:=h.twenty k;split <;> omega
 ·have ma:(S'.ino k).kind≠0:=by rw [hk];decide
  rw [(K k ma).1] at hk
  rw [R]
  by_cases e2:k=D
  ·subst e2
   rw [L,Ja (fun e=>hne e.symm),Int.sub_zero] at h0
   rw [Jb rfl,h.gone k hk h0];rfl
  ·rw [Ja e2]
   by_cases e3:k=I
   ·rw [e3];exact ja
   ·rw [L,Ja e3,Int.sub_zero] at h0
    exact h.gone k hk h0
 ·have ma:(S'.at e.2).kind≠0:=by rw [hk];decide
  have ya:(S.at e.2).kind=2:=by show (S.ino e.2.toNat).kind=2;rw [←(K e.2.toNat ma).1];exact hk
  show (S'.ino e.2.toNat).parent=_
  rw [(K _ ma).2.1]
  rw [R] at he
  split at he
  ·rename_i e1;subst e1;exact h.up k e ((ldel_mem e).1 he).1 ya
  ·exact h.up k e he ya
 ·have ma:(S'.ino k).kind≠0:=by rw [hk];decide
  rw [(K k ma).1] at hk
  have:=h.single k hk
  rw [L];split <;> omega
theorem Drop.tree (d:Drop S S' D I s) (h:Inv S room) (ht:Tree S) (hne:I≠D) (hd:(S.ino I).kind=2→(S.ino I).dir=[]) (hg:lget s (S.ino D).dir=some (I:Int)):Tree S':=by
 obtain ⟨ga,hDn,I',hI',i1,i2,i3,i4,i5⟩:=h.lead hg
 obtain rfl:I=I':=by omega
 obtain ⟨deep,hdp⟩:=ht
 refine ⟨deep,fun k hk hl h1=>?_⟩
 have qa:(S'.ino k).kind≠0:=by rw [hk];decide
 have ma:(S.ino k).kind=2:=by rw [←(d.keep k qa).1];exact hk
 have ya:(S.ino k).links≠0:=by
  rw [d.links hne] at hl
  by_cases e:k=I
  ·subst e;omega
  ·rw [Ja e,Int.sub_zero] at hl;exact hl
 obtain ⟨p,hp,hpk,hpl,hlt⟩:=hdp k ma ya h1
 have ja:p≠I:=fun e=>by
  subst e
  have xa:=h.num (k:=k) (by rw [ma];decide)
  have e1:=h.links k xa.1 xa.2
  rw [Ja h1] at e1
  have da:=(h.nums k).1
  have hN:0<S.names (k:Int) 200:=by omega
  obtain ⟨j,hj1,hj2,hj3⟩:=sumF_pos hN
  obtain ⟨e,he,hek⟩:=names_mem.1 hj3
  have hu:=h.up j e he (by rw [hek];show (S.ino ((k:Int)).toNat).kind=2;rw [Int.toNat_natCast];exact ma)
  rw [hek] at hu
  have sa:(S.ino k).parent=(j:Int):=by
   have:(S.ino ((k:Int)).toNat).parent=(j:Int):=hu
   rwa [Int.toNat_natCast] at this
  obtain rfl:j=p:=by omega
  rw [hd hpk] at he
  cases he
 refine ⟨p,?_,?_,?_,hlt⟩
 ·rw [(d.keep k qa).2.1];exact hp
 ·by_cases e:p=D
  ·subst e;rw [d.dir];exact hpk
  ·rw [d.oth p e ja];exact hpk
 ·rw [d.links hne,Ja ja,Int.sub_zero];exact hpl
end
end br
namespace br
open Go.RowKit
open dn (En lget lset ldel nerr dotB Sorted lget_some lget_none ldel_mem ldel_sorted lset_mem lset_sorted)
open bl (AB cut cutR cutB readR WR wr)
structure Fits (x z:Ino) (D:Nat):Prop where
 kind:1≤z.kind∧z.kind≤4
 was:x.kind≠2
 links:z.links=x.links+1∧z.links≤20
 holds:0≤z.holds
 body:z.body=x.body
 dir:z.dir=[]∧x.dir=[]
 noBody:z.kind≠1→z.body=abE
 noTarget:z.kind≠3→z.target=⟨#[]⟩
 target:z.target.size≤400
 isDir:z.kind=2→z.links=1∧z.parent=(D:Int)
structure Gain (S S':BS) (D I:Nat) (s:ByteArray):Prop where
 oth:∀k,k≠D→k≠I→S'.ino k=S.ino k
 dir:S'.ino D={ S.ino D with dir:=lset s I (S.ino D).dir }
 fits:Fits (S.ino I) (S'.ino I) D
 used:S'.used=S.used
section
variable {S S':BS} {D I room:Nat} {s:ByteArray}
theorem Gain.dirs (d:Gain S S' D I s) (hne:I≠D) (k:Nat):(S'.ino k).dir=if k=D then lset s I (S.ino D).dir else (S.ino k).dir:=by
 by_cases e:k=D
 ·subst e;rw [Jb rfl,d.dir]
 ·rw [Ja e]
  by_cases e2:k=I
  ·subst e2;rw [d.fits.dir.1,d.fits.dir.2]
  ·rw [d.oth k e e2]
theorem Gain.keep (d:Gain S S' D I s) (k:Nat) (hk:k≠I):(S'.ino k).kind=(S.ino k).kind∧(S'.ino k).parent=(S.ino k).parent∧(S'.ino k).body=(S.ino k).body∧(S'.ino k).target=(S.ino k).target∧(S'.ino k).holds=(S.ino k).holds∧(S'.ino k).links=(S.ino k).links:=by
 by_cases e:k=D
 ·subst e;rw [d.dir];exact ⟨rfl,rfl,rfl,rfl,rfl,rfl⟩
 ·rw [d.oth k e hk];exact ⟨rfl,rfl,rfl,rfl,rfl,rfl⟩
theorem Gain.names (d:Gain S S' D I s) (hDn:1≤D∧D≤200) (hne:I≠D) (hg:lget s (S.ino D).dir=none) (j:Int):S'.names j 200=S.names j 200+if (I:Int)=j then 1 else 0:=by
 obtain ⟨y,hy⟩:∃y:Ino,y.dir=lset s I (S.ino D).dir:=⟨{ S.ino D with dir:=lset s I (S.ino D).dir },rfl⟩
 have e1:S'.names j 200=(⟨upd S.ino D y,0⟩:BS).names j 200:=sumF_congr fun k _ _=>by
  show br.names j (S'.ino k).dir=br.names j (upd S.ino D y k).dir
  rw [d.dirs hne k]
  by_cases e:k=D
  ·subst e;rw [Jb rfl,upd_same,hy]
  ·rw [Ja e,upd_other _ _ e]
 have e2:=names_put S j D y 0 hDn.1 hDn.2
 have e3:=names_lset (i:=j) (v:=(I:Int)) hg
 rw [hy] at e2
 rw [e1]
 omega
theorem Gain.chunks (d:Gain S S' D I s) (h:Inv S room):S'.used=S'.chunks 200:=by
 rw [d.used,h.used]
 exact sumF_congr fun k _ _=>by
  show (S.ino k).body.n=(S'.ino k).body.n
  by_cases e:k=I
  ·subst e;rw [d.fits.body]
  ·rw [(d.keep k e).2.2.1]
theorem Gain.inv (d:Gain S S' D I s) (h:Inv S room) (hI:1≤I∧I≤200) (hDk:(S.ino D).kind=2) (hDl:(S.ino D).links≠0) (hg:lget s (S.ino D).dir=none) (hs:nerr s.data.toList=0∧dotB s=false):Inv S' room:=by
 have qa:I≠D:=fun e=>d.fits.was (by rw [e];exact hDk)
 have ya:=h.num (k:=D) (by rw [hDk];decide)
 have ja:I≠1:=fun e=>d.fits.was (by rw [e];exact h.root.1)
 have K:=d.keep
 have R:=d.dirs qa
 have N:=d.names ya qa hg
 have F:=d.fits
 have da:=h.links I hI.1 hI.2
 rw [Ja ja] at da
 have sa:=(h.nums I).1
 have xa:∀e∈lset s (I:Int) (S.ino D).dir,e=(s,(I:Int))∨e∈(S.ino D).dir:=fun e he=>by
  rcases (lset_mem (h.sorted D) e).1 he with h1|h1
  ·exact .inl h1
  ·exact .inr h1.1
 refine ⟨fun k hk=>?_,fun k hk=>?_,fun k=>?_,fun k=>?_,fun k hk=>?_,?_,fun k=>?_,fun k hk=>?_,fun k hk=>?_,fun k hk=>?_,fun k=>?_,fun k=>?_,fun k e he=>?_,d.chunks h,by rw [d.used];exact h.room,fun k h1 h2=>?_,fun k=>?_,fun k hk h0=>?_,fun k e he hk=>?_,fun k hk=>?_⟩
 ·rw [d.oth k (by omega) (by omega)];exact h.out k hk
 ·by_cases e:k=I
  ·subst e;have:=F.kind;omega
  ·rw [(K k e).1] at hk
   by_cases e2:k=D
   ·subst e2;rw [hDk] at hk;cases hk
   ·rw [d.oth k e2 e];exact h.none k hk
 ·by_cases e:k=I
  ·subst e;have:=F.kind;omega
  ·rw [(K k e).1];exact h.kinds k
 ·by_cases e:k=I
  ·subst e;exact ⟨by rw [F.links.1];omega,F.holds⟩
  ·rw [(K k e).2.2.2.2.1,(K k e).2.2.2.2.2];exact h.nums k
 ·by_cases e:k=I
  ·subst e;left;rw [F.links.1];omega
  ·rw [(K k e).2.2.2.2.1,(K k e).2.2.2.2.2];rw [(K k e).1] at hk;exact h.kept k hk
 ·have e:(1:Nat)≠I:=fun e=>ja e.symm
  rw [(K 1 e).1,(K 1 e).2.1,(K 1 e).2.2.2.2.2];exact h.root
 ·by_cases e:k=I
  ·subst e;rw [F.body];exact h.body k
  ·rw [(K k e).2.2.1];exact h.body k
 ·by_cases e:k=I
  ·subst e;exact F.noBody hk
  ·rw [(K k e).2.2.1];rw [(K k e).1] at hk;exact h.noBody k hk
 ·by_cases e:k=I
  ·subst e;exact F.dir.1
  ·rw [(K k e).1] at hk
   rw [R]
   by_cases e2:k=D
   ·subst e2;exact absurd hDk hk
   ·rw [Ja e2];exact h.noDir k hk
 ·by_cases e:k=I
  ·subst e;exact F.noTarget hk
  ·rw [(K k e).2.2.2.1];rw [(K k e).1] at hk;exact h.noTarget k hk
 ·by_cases e:k=I
  ·subst e;exact F.target
  ·rw [(K k e).2.2.2.1];exact h.target k
 ·rw [R];split
  ·exact lset_sorted (h.sorted D)
  ·exact h.sorted k
 ·rw [R] at he
  split at he
  ·rcases xa e he with rfl|h1
   ·exact ⟨hs.1,hs.2,by show (1:Int)≤(I:Int);omega,by show (I:Int)≤200;omega⟩
   ·exact h.good D e h1
  ·exact h.good k e he
 ·have e2:=h.links k h1 h2
  rw [N]
  by_cases e:k=I
  ·subst e
   rw [F.links.1,e2,Jb rfl]
   omega
  ·rw [(K k e).2.2.2.2.2,e2,Ja (fun e3:(I:Int)=(k:Int)=>e (by omega))]
   omega
 ·by_cases e:k=I
  ·subst e;exact F.links.2
  ·rw [(K k e).2.2.2.2.2];exact h.twenty k
 ·by_cases e:k=I
  ·subst e;exact F.dir.1
  ·rw [(K k e).1] at hk
   rw [(K k e).2.2.2.2.2] at h0
   rw [R]
   by_cases e2:k=D
   ·subst e2;exact absurd h0 hDl
   ·rw [Ja e2];exact h.gone k hk h0
 ·show (S'.ino e.2.toNat).parent=_
  have ma:(S'.ino e.2.toNat).kind=2:=hk
  by_cases e2:e.2.toNat=I
  ·rw [e2] at ma ⊢
   have hz:=F.isDir ma
   have la:(S.ino I).links=0:=by have:=F.links.1;omega
   have ba:S.names (I:Int) 200=0:=by omega
   have ga:k=D:=by
    by_cases e3:k=D
    ·exact e3
    ·rw [R,Ja e3] at he
     obtain ⟨_,hkn,_⟩:=h.entry he
     have h5:=(h.good k e he).2.2.1
     have h3:0<br.names (I:Int) (S.ino k).dir:=names_mem.2 ⟨e,he,by omega⟩
     have h4:br.names (I:Int) (S.ino k).dir≤S.names (I:Int) 200:=sumF_le (f:=fun k=>br.names (I:Int) (S.ino k).dir) hkn.1 hkn.2
     omega
   rw [ga];exact hz.2
  ·rw [(K _ e2).2.1]
   rw [(K _ e2).1] at ma
   rw [R] at he
   split at he
   ·rename_i e1;subst e1
    rcases xa e he with rfl|h1
    ·exact absurd (Int.toNat_natCast I) e2
    ·exact h.up k e h1 ma
   ·exact h.up k e he ma
 ·by_cases e:k=I
  ·subst e;rw [(F.isDir hk).1];decide
  ·rw [(K k e).2.2.2.2.2];rw [(K k e).1] at hk;exact h.single k hk
theorem Gain.tree (d:Gain S S' D I s) (h:Inv S room) (ht:Tree S) (hDk:(S.ino D).kind=2) (hDl:(S.ino D).links≠0):Tree S':=by
 have ma:I≠D:=fun e=>d.fits.was (by rw [e];exact hDk)
 have K:=d.keep
 obtain ⟨deep,hdp⟩:=ht
 refine ⟨fun k=>if k=I then deep D+1 else deep k,fun k hk hl h1=>?_⟩
 by_cases e:k=I
 ·subst e
  refine ⟨D,(d.fits.isDir hk).2,by rw [(K D (fun e=>ma e.symm)).1];exact hDk,by rw [(K D (fun e=>ma e.symm)).2.2.2.2.2];exact hDl,?_⟩
  dsimp only
  rw [Jb rfl,Ja (fun e=>ma e.symm)];omega
 ·rw [(K k e).1] at hk
  rw [(K k e).2.2.2.2.2] at hl
  obtain ⟨p,hp,hpk,hpl,hlt⟩:=hdp k hk hl h1
  have qa:p≠I:=fun e=>d.fits.was (by rw [←e];exact hpk)
  exact ⟨p,by rw [(K k e).2.1];exact hp,by rw [(K p qa).1];exact hpk,by rw [(K p qa).2.2.2.2.2];exact hpl,by dsimp only;rw [Ja qa,Ja e];exact hlt⟩
end
theorem Tree.of {S S':BS} (h:Tree S) (h1:∀k,(S'.ino k).kind=2→(S'.ino k).links≠0→(S.ino k).kind=2∧(S.ino k).links≠0∧(S'.ino k).parent=(S.ino k).parent)
  (h2:∀k,(S.ino k).kind=2→(S.ino k).links≠0→(S'.ino k).kind=2∧(S'.ino k).links≠0):Tree S':=by
 obtain ⟨deep,hd⟩:=h
 refine ⟨deep,fun k hk hl hn=>?_⟩
 obtain ⟨a,b,c⟩:=h1 k hk hl
 obtain ⟨p,hp,x,y,z⟩:=hd k a b hn
 obtain ⟨x',y'⟩:=h2 p x y
 exact ⟨p,c.trans hp,x',y',z⟩
structure Turned (S S':BS) (I:Nat) (b:AB):Prop where
 oth:∀k,k≠I→S'.ino k=S.ino k
 ino:S'.ino I={ S.ino I with body:=b }
 used:S'.used=S.used+b.n - (S.ino I).body.n
theorem Turned.keep {S S':BS} {I:Nat} {b:AB} (d:Turned S S' I b) (k:Nat):(S'.ino k).kind=(S.ino k).kind∧(S'.ino k).links=(S.ino k).links∧(S'.ino k).parent=(S.ino k).parent∧(S'.ino k).dir=(S.ino k).dir∧(S'.ino k).target=(S.ino k).target∧(S'.ino k).holds=(S.ino k).holds:=by
 by_cases e:k=I
 ·subst e;rw [d.ino];exact ⟨rfl,rfl,rfl,rfl,rfl,rfl⟩
 ·rw [d.oth k e];exact ⟨rfl,rfl,rfl,rfl,rfl,rfl⟩
theorem Turned.inv {S S':BS} {I room:Nat} {b:AB} (d:Turned S S' I b) (h:Inv S room) (hk:(S.ino I).kind=1) (hb:b.Ok) (hr:S'.used≤room):Inv S' room:=by
 have K:=d.keep
 have ma:=h.num (k:=I) (by rw [hk];decide)
 have hN:∀j,S'.names j 200=S.names j 200:=fun j=>sumF_congr fun k _ _=>by show br.names j (S'.ino k).dir=br.names j (S.ino k).dir;rw [(K k).2.2.2.1]
 have hB:∀k,k≠I→(S'.ino k).body=(S.ino k).body:=fun k e=>by rw [d.oth k e]
 have qa:(S'.ino I).body=b:=by rw [d.ino]
 refine ⟨fun k hk'=>?_,fun k hk'=>?_,fun k=>by rw [(K k).1];exact h.kinds k,fun k=>by rw [(K k).2.1,(K k).2.2.2.2.2];exact h.nums k,fun k hk'=>by rw [(K k).2.1,(K k).2.2.2.2.2];rw [(K k).1] at hk';exact h.kept k hk',?_,fun k=>?_,fun k hk'=>?_,
  fun k hk'=>by rw [(K k).2.2.2.1];rw [(K k).1] at hk';exact h.noDir k hk',fun k hk'=>by rw [(K k).2.2.2.2.1];rw [(K k).1] at hk';exact h.noTarget k hk',fun k=>by rw [(K k).2.2.2.2.1];exact h.target k,fun k=>by rw [(K k).2.2.2.1];exact h.sorted k,
  fun k e he=>by rw [(K k).2.2.2.1] at he;exact h.good k e he,?_,hr,fun k h1 h2=>by rw [hN,(K k).2.1];exact h.links k h1 h2,fun k=>by rw [(K k).2.1];exact h.twenty k,fun k h1 h2=>by rw [(K k).2.2.2.1];rw [(K k).1] at h1;rw [(K k).2.1] at h2;exact h.gone k h1 h2,
  fun k e he hk'=>?_,fun k hk'=>by rw [(K k).2.1];rw [(K k).1] at hk';exact h.single k hk'⟩
 ·rw [d.oth k (by omega)];exact h.out k hk'
 ·rw [(K k).1] at hk'
  rw [d.oth k (fun e=>by rw [e,hk] at hk';cases hk')];exact h.none k hk'
 ·rw [(K 1).1,(K 1).2.1,(K 1).2.2.1];exact h.root
 ·by_cases e:k=I
  ·rw [e,qa];exact hb
  ·rw [hB k e];exact h.body k
 ·rw [(K k).1] at hk'
  by_cases e:k=I
  ·rw [e] at hk';exact absurd hk hk'
  ·rw [hB k e];exact h.noBody k hk'
 ·have e1:S'.chunks 200=(⟨upd S.ino I (S'.ino I),0⟩:BS).chunks 200:=sumF_congr fun k _ _=>by
   show (S'.ino k).body.n=(upd S.ino I _ k).body.n
   by_cases e:k=I
   ·subst e;rw [upd_same]
   ·rw [upd_other _ _ e,hB k e]
  have e2:=chunks_put S I (S'.ino I) 0 ma.1 ma.2
  rw [qa] at e2
  have:=h.used
  rw [d.used];omega
 ·have h1:(S'.ino e.2.toNat).kind=2:=hk'
  rw [(K _).1] at h1
  rw [(K k).2.2.2.1] at he
  show (S'.ino e.2.toNat).parent=k
  rw [(K _).2.2.1];exact h.up k e he h1
theorem Turned.tree {S S':BS} {I:Nat} {b:AB} (d:Turned S S' I b) (h:Tree S):Tree S' :=
 h.of (fun k hk hl=>⟨by rw [←(d.keep k).1];exact hk,by rw [←(d.keep k).2.1];exact hl,(d.keep k).2.2.1⟩) fun k hk hl=>⟨by rw [(d.keep k).1];exact hk,by rw [(d.keep k).2.1];exact hl⟩
theorem sumF_mono {f g:Nat→Nat} {n:Nat} (h:∀k,1≤k→k≤n→f k≤g k):sumF f n≤sumF g n:=by
 induction n with
 | zero=>exact Nat.le_refl _
 | succ n ih=>simp only [sumF];exact Nat.add_le_add (ih fun k h1 h2=>h k h1 (by omega)) (h (n+1) (by omega) (Nat.le_refl _))
theorem sumF_lt {f g:Nat→Nat} {n j:Nat} (h:∀k,1≤k→k≤n→f k≤g k) (h1:1≤j) (h2:j≤n) (hj:f j<g j):sumF f n<sumF g n:=by
 induction n with
 | zero=>omega
 | succ n ih =>
  simp only [sumF]
  by_cases e:j=n+1
  ·subst e
   have:=sumF_mono (f:=f) (g:=g) (n:=n) fun k h1 h2=>h k h1 (by omega)
   omega
  ·have:=ih (fun k h1 h2=>h k h1 (by omega)) (by omega)
   have:=h (n+1) (by omega) (Nat.le_refl _)
   omega
theorem sumF_one {f:Nat→Nat} {n:Nat} (h:∀k,f k≤1):sumF f n≤n:=by
 induction n with
 | zero=>exact Nat.le_refl _
 | succ n ih=>simp only [sumF];have:=h (n+1);omega
theorem Tree.bound {S:BS} {room:Nat} (h:Inv S room) (ht:Tree S):∃deep:Nat→Nat,(∀k,deep k≤200)∧∀k,(S.ino k).kind=2→(S.ino k).links≠0→k≠1 →
  ∃p:Nat,(S.ino k).parent=(p:Int)∧(S.ino p).kind=2∧(S.ino p).links≠0∧deep p<deep k:=by
 obtain ⟨deep,hd⟩:=ht
 refine ⟨fun k=>sumF (fun j=>if deep j<deep k then 1 else 0) 200,fun k=>sumF_one fun j=>by split <;> omega,fun k hk hl h1=>?_⟩
 obtain ⟨p,hp,a,b,c⟩:=hd k hk hl h1
 have ma:=h.num (k:=p) (by rw [a];decide)
 refine ⟨p,hp,a,b,sumF_lt (j:=p) (fun j _ _=>?_) ma.1 ma.2 ?_⟩
 ·by_cases e:deep j<deep p
  ·rw [Jb e,Jb (by omega)];exact Nat.le_refl _
  ·rw [Ja e];exact Nat.zero_le _
 ·rw [Ja (Nat.lt_irrefl _),Jb c];exact Nat.zero_lt_one
def halfD (S:BS) (D:Nat) (s:ByteArray) (k:Nat):List En:=if k=D then ldel s (S.ino D).dir else (S.ino k).dir
structure Moved (S S':BS) (D T I:Nat) (s u:ByteArray):Prop where
 dir:∀k,(S'.ino k).dir=if k=T then lset u I (halfD S D s T) else halfD S D s k
 kind:∀k,(S'.ino k).kind=(S.ino k).kind
 links:∀k,(S'.ino k).links=(S.ino k).links
 holds:∀k,(S'.ino k).holds=(S.ino k).holds
 body:∀k,(S'.ino k).body=(S.ino k).body
 target:∀k,(S'.ino k).target=(S.ino k).target
 parent:∀k,(S'.ino k).parent=if k=I∧(S.ino I).kind=2 then (T:Int) else (S.ino k).parent
 marks:∀k,(S'.ino k).marks=(S.ino k).marks
 used:S'.used=S.used
theorem move_moved {S:BS} {D T I:Nat} (s u:ByteArray) (h1:I≠D) (h2:I≠T):Moved S (S.move D s T u I) D T I s u:=by
 have e1:∀k,(S.putDir (D:Int) (ldel s (S.at D).dir)).ino k={ S.ino k with dir:=halfD S D s k }:=fun k=>by
  show upd S.ino ((D:Int)).toNat _ k=_
  rw [Int.toNat_natCast]
  unfold halfD
  by_cases e:k=D
  ·subst e;rw [upd_same,Jb rfl];rfl
  ·rw [upd_other _ _ e,Ja e]
 have e2:∀k,((S.putDir (D:Int) (ldel s (S.at D).dir)).putDir (T:Int) (lset u I ((S.putDir (D:Int) (ldel s (S.at D).dir)).at T).dir)).ino k={ S.ino k with dir:=if k=T then lset u I (halfD S D s T) else halfD S D s k }:=fun k=>by
  show upd _ ((T:Int)).toNat { (S.putDir (D:Int) (ldel s (S.at D).dir)).ino ((T:Int)).toNat with dir:=lset u I ((S.putDir (D:Int) (ldel s (S.at D).dir)).ino ((T:Int)).toNat).dir } k=_
  rw [Int.toNat_natCast]
  by_cases e:k=T
  ·subst e;rw [upd_same,Jb rfl,e1]
  ·rw [upd_other _ _ e,Ja e,e1]
 have e3:(S.at (I:Int))=S.ino I:=by show S.ino ((I:Int)).toNat=_;rw [Int.toNat_natCast]
 have e4:∀k,(S.move D s T u I).ino k={ S.ino k with dir:=(if k=T then lset u I (halfD S D s T) else halfD S D s k),parent:=if k=I∧(S.ino I).kind=2 then (T:Int) else (S.ino k).parent }:=fun k=>by
  unfold BS.move
  rw [e3]
  dsimp only
  by_cases hk:(S.ino I).kind=2
  ·rw [Jb hk]
   show upd _ ((I:Int)).toNat { ((S.putDir (D:Int) (ldel s (S.at D).dir)).putDir (T:Int) (lset u I ((S.putDir (D:Int) (ldel s (S.at D).dir)).at T).dir)).ino ((I:Int)).toNat with parent:=(T:Int) } k=_
   rw [Int.toNat_natCast]
   by_cases e:k=I
   ·subst e;rw [upd_same,e2,Jb (And.intro rfl hk)]
   ·rw [upd_other _ _ e,e2,Ja (fun x:k=I∧(S.ino I).kind=2=>e x.1)]
  ·rw [Ja hk,e2,Ja (fun x:k=I∧(S.ino I).kind=2=>hk x.2)]
 have e5:(S.move D s T u I).used=S.used:=by
  unfold BS.move
  dsimp only
  split <;> rfl
 exact ⟨fun k=>by rw [e4],fun k=>by rw [e4],fun k=>by rw [e4],fun k=>by rw [e4],fun k=>by rw [e4],fun k=>by rw [e4],fun k=>by rw [e4],fun k=>by rw [e4],e5⟩
section
variable {S S':BS} {D T I room:Nat} {s u:ByteArray}
theorem half_sub (k:Nat) (e:En) (h:e∈halfD S D s k):e∈(S.ino k).dir:=by
 unfold halfD at h
 split at h
 ·rename_i e1;subst e1;exact ((ldel_mem e).1 h).1
 ·exact h
theorem half_sorted (h:Inv S room) (k:Nat):Sorted (halfD S D s k):=by
 unfold halfD
 split
 ·exact ldel_sorted (h.sorted D)
 ·exact h.sorted k
theorem half_names (h:Inv S room) (hg:lget s (S.ino D).dir=some (I:Int)) (j:Int):sumF (fun k=>names j (halfD S D s k)) 200+(if (I:Int)=j then 1 else 0)=S.names j 200:=by
 obtain ⟨_,hDn,_⟩:=h.lead hg
 obtain ⟨y,hy⟩:∃y:Ino,y.dir=ldel s (S.ino D).dir:=⟨{ S.ino D with dir:=ldel s (S.ino D).dir },rfl⟩
 have e1:sumF (fun k=>names j (halfD S D s k)) 200=(⟨upd S.ino D y,0⟩:BS).names j 200:=sumF_congr fun k _ _=>by
  show names j (halfD S D s k)=names j (upd S.ino D y k).dir
  unfold halfD
  by_cases e:k=D
  ·subst e;rw [Jb rfl,upd_same,hy]
  ·rw [Ja e,upd_other _ _ e]
 have e2:=names_put S j D y 0 hDn.1 hDn.2
 have e3:=names_ldel (i:=j) (h.sorted D) hg
 rw [hy] at e2
 omega
theorem Moved.names (d:Moved S S' D T I s u) (h:Inv S room) (hg:lget s (S.ino D).dir=some (I:Int)) (hu:lget u (halfD S D s T)=none) (hT:1≤T∧T≤200) (j:Int):S'.names j 200=S.names j 200:=by
 have e0:=half_names h hg j
 obtain ⟨y,hy⟩:∃y:Ino,y.dir=lset u I (halfD S D s T):=⟨{ Ino.nil with dir:=lset u I (halfD S D s T) },rfl⟩
 obtain ⟨SM,hSM⟩:∃SM:BS,∀k,(SM.ino k).dir=halfD S D s k:=⟨⟨fun k=>{ Ino.nil with dir:=halfD S D s k },0⟩,fun _=>rfl⟩
 have e1:S'.names j 200=(⟨upd SM.ino T y,0⟩:BS).names j 200:=sumF_congr fun k _ _=>by
  show br.names j (S'.ino k).dir=br.names j (upd SM.ino T y k).dir
  rw [d.dir]
  by_cases e:k=T
  ·subst e;rw [Jb rfl,upd_same,hy]
  ·rw [Ja e,upd_other _ _ e,hSM]
 have e2:=names_put SM j T y 0 hT.1 hT.2
 have e3:=names_lset (i:=j) (v:=(I:Int)) hu
 have e4:SM.names j 200=sumF (fun k=>br.names j (halfD S D s k)) 200:=sumF_congr fun k _ _=>by show br.names j (SM.ino k).dir=_;rw [hSM]
 rw [hy,hSM] at e2
 rw [e1]
 omega
theorem Moved.inv (d:Moved S S' D T I s u) (h:Inv S room) (hIT:I≠T) (hg:lget s (S.ino D).dir=some (I:Int)) (hu:lget u (halfD S D s T)=none) (hTk:(S.ino T).kind=2) (hTl:(S.ino T).links≠0) (hs:nerr u.data.toList=0∧dotB u=false):Inv S' room:=by
 obtain ⟨qa,hDn,I',hI',i1,i2,i3,i4,i5⟩:=h.lead hg
 obtain rfl:I=I':=by omega
 have xa:=h.num (k:=T) (by rw [hTk];decide)
 have N:=d.names h hg hu xa
 have ya:(S.ino D).links≠0:=fun e=>by rw [h.gone D qa e] at hg;cases hg
 have ja:∀k,∀e∈(S'.ino k).dir,(k=T∧e=(u,(I:Int)))∨e∈halfD S D s k:=fun k e he=>by
  rw [d.dir] at he
  split at he
  ·rename_i e1;subst e1
   rcases (lset_mem (half_sorted h k) e).1 he with h1|h1
   ·exact .inl ⟨rfl,h1⟩
   ·exact .inr h1.1
  ·exact .inr he
 refine ⟨fun k hk=>?_,fun k hk=>?_,fun k=>by rw [d.kind];exact h.kinds k,fun k=>by rw [d.links,d.holds];exact h.nums k,fun k hk=>by rw [d.links,d.holds];rw [d.kind] at hk;exact h.kept k hk,?_,fun k=>by rw [d.body];exact h.body k,fun k hk=>by rw [d.body];rw [d.kind] at hk;exact h.noBody k hk,
  fun k hk=>?_,fun k hk=>by rw [d.target];rw [d.kind] at hk;exact h.noTarget k hk,fun k=>by rw [d.target];exact h.target k,fun k=>?_,fun k e he=>?_,?_,by rw [d.used];exact h.room,fun k h1 h2=>by rw [N,d.links];exact h.links k h1 h2,fun k=>by rw [d.links];exact h.twenty k,fun k hk h0=>?_,fun k e he hk=>?_,fun k hk=>by rw [d.links];rw [d.kind] at hk;exact h.single k hk⟩
 ·rw [←ino_same d (k:=k) (by omega) (by omega) (by omega)];exact h.out k hk
 ·rw [d.kind] at hk
  have a1:k≠T:=fun e=>by rw [e,hTk] at hk;cases hk
  have a2:k≠D:=fun e=>by rw [e,qa] at hk;cases hk
  have a3:k≠I:=fun e=>i5 (by rw [←e];exact hk)
  rw [←ino_same d a1 a2 a3];exact h.none k hk
 ·rw [d.kind,d.links,d.parent,Ja (fun x=>i3 x.1.symm)];exact h.root
 ·rw [d.kind] at hk
  rw [d.dir,Ja (fun e=>hk (by rw [e];exact hTk))]
  unfold halfD
  rw [Ja (fun e=>hk (by rw [e];exact qa))]
  exact h.noDir k hk
 ·rw [d.dir];split
  ·exact lset_sorted (half_sorted h T)
  ·exact half_sorted h k
 ·rcases ja k e he with ⟨_,rfl⟩|h1
  ·exact ⟨hs.1,hs.2,by show (1:Int)≤(I:Int);omega,by show (I:Int)≤200;omega⟩
  ·exact h.good k e (half_sub k e h1)
 ·rw [d.used,h.used]
  exact sumF_congr fun k _ _=>by show (S.ino k).body.n=(S'.ino k).body.n;rw [d.body]
 ·rw [d.kind] at hk
  rw [d.links] at h0
  rw [d.dir,Ja (fun e=>hTl (by rw [←e];exact h0))]
  unfold halfD
  rw [Ja (fun e=>ya (by rw [←e];exact h0))]
  exact h.gone k hk h0
 ·show (S'.ino e.2.toNat).parent=_
  have ma:(S'.ino e.2.toNat).kind=2:=hk
  rw [d.kind] at ma
  by_cases e1:e.2.toNat=I
  ·rw [e1] at ma ⊢
   rw [d.parent,Jb ⟨rfl,ma⟩]
   have da:k=T:=by
    by_cases e2:k=T
    ·exact e2
    ·rcases ja k e he with ⟨h1,_⟩|h1
     ·exact absurd h1 e2
     ·have h0:=half_sub k e h1
      obtain ⟨_,hkn,_⟩:=h.entry h0
      have ga:=(h.good k e h0).2.2.1
      have a1:0<br.names (I:Int) (halfD S D s k):=names_mem.2 ⟨e,h1,by omega⟩
      have a2:br.names (I:Int) (halfD S D s k)≤sumF (fun k=>br.names (I:Int) (halfD S D s k)) 200:=sumF_le (f:=fun k=>br.names (I:Int) (halfD S D s k)) hkn.1 hkn.2
      have a3:=half_names h hg (I:Int)
      rw [Jb rfl] at a3
      have a4:=h.links I i1 i2
      rw [Ja i3] at a4
      have a5:=h.single I ma
      omega
   rw [da]
  ·rw [d.parent,Ja (fun x=>e1 x.1)]
   rcases ja k e he with ⟨_,rfl⟩|h1
   ·exact absurd (Int.toNat_natCast I) e1
   ·exact h.up k e (half_sub k e h1) ma
where
  ino_same {S S':BS} {D T I:Nat} {s u:ByteArray} (d:Moved S S' D T I s u) {k:Nat} (h1:k≠T) (h2:k≠D) (h3:k≠I):S.ino k=S'.ino k:=by
    have a:=d.dir k
    have b:=d.parent k
    rw [Ja h1] at a
    unfold halfD at a
    rw [Ja h2] at a
    rw [Ja (fun x=>h3 x.1)] at b
    have c1:=d.kind k
    have c2:=d.links k
    have c3:=d.holds k
    have c4:=d.body k
    have c5:=d.target k
    have c6:=d.marks k
    generalize S'.ino k=x at *
    generalize S.ino k=y at *
    obtain ⟨x1,x2,x3,x4,x5,x6,x7,x8⟩:=x
    obtain ⟨y1,y2,y3,y4,y5,y6,y7,y8⟩:=y
    dsimp only at *
    subst a b c1 c2 c3 c4 c5 c6
    rfl
theorem below_root (h:Inv S room) (hI:I≠1) (n:Nat):S.below 1 I n=false:=by
 induction n with
 | zero=>rfl
 | succ n ih =>
  have e1:(S.at 1).parent=1:=h.root.2.2
  unfold BS.below
  rw [e1,ih,decide_eq_false (fun e:(1:Int)=(I:Int)=>hI (by omega))]
  rfl
theorem below_up (k:Nat) (n:Nat):S.below (k:Int) I (n+1)=(decide (k=I) || S.below (S.ino k).parent I n):=by
 have e1:S.at (k:Int)=S.ino k:=by show S.ino ((k:Int)).toNat=_;rw [Int.toNat_natCast]
 show (decide ((k:Int)=(I:Int)) || S.below (S.at (k:Int)).parent I n)=_
 rw [e1]
 congr 1
 exact decide_eq_decide.2 (by omega)
theorem Moved.tree (d:Moved S S' D T I s u) (h:Inv S room) (ht:Tree S) (hI:I≠1) (hTk:(S.ino T).kind=2) (hTl:(S.ino T).links≠0) (hb:(S.ino I).kind=2→S.below (T:Int) I 300=false):Tree S':=by
 by_cases hk2:(S.ino I).kind=2
 ·have hb:=hb hk2
  obtain ⟨deep,h200,hd⟩:=ht.bound h
  have stab:∀n k,(S.ino k).kind=2→(S.ino k).links≠0→deep k<n→S.below (k:Int) I n=S.below (k:Int) I (n+1):=by
   intro n
   induction n with
   | zero=>intro k _ _ hlt;omega
   | succ n ih =>
    intro k hk hl hlt
    by_cases e:k=1
    ·subst e
     rw [show ((1:Nat):Int)=1 from rfl,below_root h hI,below_root h hI]
    ·obtain ⟨p,hp,a,b,c⟩:=hd k hk hl e
     rw [below_up,below_up,hp,ih p a b (by omega)]
  refine ⟨fun k=>if S.below (k:Int) I 300=true then deep k+201 else deep k,fun k hk hl h1=>?_⟩
  rw [d.kind] at hk
  rw [d.links] at hl
  by_cases e:k=I
  ·subst e
   refine ⟨T,by rw [d.parent,Jb ⟨rfl,hk⟩],by rw [d.kind];exact hTk,by rw [d.links];exact hTl,?_⟩
   dsimp only
   rw [Ja (by rw [hb];decide),Jb (by rw [below_up,decide_eq_true rfl];rfl)]
   have:=h200 T
   omega
  ·obtain ⟨p,hp,a,b,c⟩:=hd k hk hl h1
   refine ⟨p,by rw [d.parent,Ja (fun x=>e x.1)];exact hp,by rw [d.kind];exact a,by rw [d.links];exact b,?_⟩
   have e2:S.below (k:Int) I 300=S.below (p:Int) I 300:=by
    rw [below_up,hp,decide_eq_false e,Bool.false_or]
    exact stab 299 p a b (by have:=h200 p;omega)
   dsimp only
   rw [e2]
   split <;> omega
 ·refine ht.of (fun k hk hl=>?_) fun k hk hl=>⟨by rw [d.kind];exact hk,by rw [d.links];exact hl⟩
  rw [d.kind] at hk
  rw [d.links] at hl
  exact ⟨hk,hl,by rw [d.parent,Ja (fun x=>hk2 x.2)]⟩
end
def Good (S:BS) (room:Nat):Prop:=Inv S room∧Tree S
theorem Good.fresh (room:Nat):Good fresh room :=
 ⟨Inv.fresh room,fun _=>0,fun k hk _ h1=>by rw [fresh_ino,Ja h1] at hk;cases hk⟩
theorem at_nat (S:BS) (k:Nat):S.at (k:Int)=S.ino k:=by show S.ino ((k:Int)).toNat=_;rw [Int.toNat_natCast]
theorem put_nat (S:BS) (i:Nat) (x:Ino) (k:Nat):(S.put (i:Int) x).ino k=if k=i then x else S.ino k:=by
 show upd S.ino ((i:Int)).toNat x k=_
 rw [Int.toNat_natCast];rfl
theorem isI_yes {S:BS} {i:Int} (h:S.isI i=true):∃I:Nat,i=(I:Int)∧1≤I∧I≤200∧(S.ino I).kind≠0:=by
 unfold BS.isI at h
 obtain ⟨h1,h2,h3⟩:=of_decide_eq_true h
 exact ⟨i.toNat,by omega,by omega,by omega,h3⟩
theorem dirE_ok {S:BS} {d:Int} {c:Bool} (h:S.dirE d c=0):∃D:Nat,d=(D:Int)∧1≤D∧D≤200∧(S.ino D).kind=2∧(c=true→(S.ino D).links≠0):=by
 unfold BS.dirE at h
 cases hi:S.isI d
 ·rw [Jb hi] at h;cases h
 ·rw [Ja (by rw [hi];decide)] at h
  obtain ⟨D,rfl,h1,h2,h3⟩:=isI_yes hi
  rw [at_nat] at h
  by_cases hk:(S.ino D).kind=2
  ·rw [Ja (by simpa using hk)] at h
   refine ⟨D,rfl,h1,h2,hk,fun hc hl=>?_⟩
   rw [Jb ⟨hc,hl⟩] at h;cases h
  ·rw [Jb hk] at h;cases h
theorem nameE_ok {s:ByteArray} (h:nameE s=0):nerr s.data.toList=0∧dotB s=false:=by
 unfold nameE at h
 by_cases e:nerr s.data.toList=0∧dotB s=true
 ·rw [Jb e] at h;cases h
 ·rw [Ja e] at h
  refine ⟨h,?_⟩
  cases hd:dotB s
  ·rfl
  ·exact absurd ⟨h,hd⟩ e
theorem get_ok {S:BS} {d:Int} {s:ByteArray} (h:(S.get d s).2=0):∃D:Nat,d=(D:Int)∧1≤D∧D≤200∧(S.ino D).kind=2∧lget s (S.ino D).dir=some (S.get d s).1:=by
 unfold BS.get at h ⊢
 by_cases e:S.dirE d false=0
 ·rw [Ja (by simpa using e)] at h ⊢
  obtain ⟨D,rfl,h1,h2,h3,_⟩:=dirE_ok e
  rw [at_nat] at h ⊢
  refine ⟨D,rfl,h1,h2,h3,?_⟩
  cases hg:lget s (S.ino D).dir
  ·rw [hg] at h;cases h
  ·rfl
 ·rw [Jb e] at h;exact absurd h e
theorem vacant_ok {S:BS} {d:Int} {s:ByteArray} (h:S.vacant d s=0):∃D:Nat,d=(D:Int)∧1≤D∧D≤200∧(S.ino D).kind=2∧(S.ino D).links≠0∧lget s (S.ino D).dir=none∧nerr s.data.toList=0∧dotB s=false:=by
 unfold BS.vacant at h
 by_cases e:S.dirE d true=0
 ·rw [Ja (by simpa using e)] at h
  by_cases e2:nameE s=0
  ·rw [Ja (by simpa using e2)] at h
   obtain ⟨D,rfl,h1,h2,h3,h4⟩:=dirE_ok e
   rw [at_nat] at h
   refine ⟨D,rfl,h1,h2,h3,h4 rfl,?_,nameE_ok e2⟩
   cases hg:lget s (S.ino D).dir
   ·rfl
   ·rw [hg] at h;cases h
  ·rw [Jb e2] at h;exact absurd h e2
 ·rw [Jb e] at h;exact absurd h e
theorem free_spec (S:BS) (n k:Nat):k≤S.free k n∧S.free k n≤k+n∧(S.free k n<k+n→(S.ino (S.free k n)).kind=0)∧∀j,k≤j→j<S.free k n→(S.ino j).kind≠0:=by
 induction n generalizing k with
 | zero=>exact ⟨Nat.le_refl _,Nat.le_refl _,fun h=>absurd h (Nat.lt_irrefl _),fun j h1 h2=>by have:j<k:=h2;omega⟩
 | succ n ih =>
  unfold BS.free
  by_cases e:(S.ino k).kind=0
  ·rw [Jb e];exact ⟨Nat.le_refl _,by omega,fun _=>e,fun j h1 h2=>by omega⟩
  ·rw [Ja e]
   obtain ⟨a,b,c,d⟩:=ih (k+1)
   exact ⟨by omega,by omega,fun h=>c (by omega),fun j h1 h2=>by
    by_cases e1:j=k
    ·rw [e1];exact e
    ·exact d j (by omega) h2⟩
theorem lay_gain {S:BS} {D I:Nat} {s:ByteArray} {x:Ino} (hne:I≠D) (hf:Fits (S.ino I) x D):Gain S ((S.put (I:Int) x).putDir (D:Int) (lset s I ((S.put (I:Int) x).at (D:Int)).dir)) D I s:=by
 have e1:(S.put (I:Int) x).at (D:Int)=S.ino D:=by rw [at_nat,put_nat,Ja (fun e=>hne e.symm)]
 unfold BS.putDir
 rw [e1]
 refine ⟨fun k h1 h2=>?_,?_,?_,rfl⟩
 ·rw [put_nat,Ja h1,put_nat,Ja h2]
 ·rw [put_nat,Jb rfl]
 ·rw [put_nat,Ja hne,put_nat,Jb rfl];exact hf
theorem Good.make {S:BS} {room:Nat} (h:Good S room) (d:Int) (s:ByteArray) (kind:Int) (t:ByteArray):Good (S.make d s kind t).2 room:=by
 unfold BS.make
 by_cases e1:S.vacant d s=0
 ·rw [Ja (by simpa using e1)]
  cases e2:badKind kind t
  ·rw [Ja (by decide)]
   dsimp only
   by_cases e3:200<S.free 1 200
   ·rw [Jb e3];exact h
   ·rw [Ja e3]
    obtain ⟨D,rfl,h1,h2,hk,hl,hg,hs⟩:=vacant_ok e1
    obtain ⟨f1,f2,f3,_⟩:=free_spec S 200 1
    have hz:=f3 (by omega)
    generalize S.free 1 200=n at *
    have qa:n≠D:=fun e=>by rw [e,hk] at hz;cases hz
    have ma:=h.1.none n hz
    unfold badKind at e2
    have hb:=of_decide_eq_false e2
    have hf:Fits (S.ino n) ⟨kind,1,0,0,if kind=2 then (D:Int) else 0,abE,[],t⟩ D:=by
     rw [ma]
     refine ⟨⟨by show 1≤kind;omega,by show kind≤4;omega⟩,by decide,⟨rfl,by show (1:Int)≤20;decide⟩,by show (0:Int)≤0;decide,rfl,⟨rfl,rfl⟩,fun _=>rfl,fun h3=>?_,?_,fun h2=>⟨rfl,Jb h2⟩⟩
     ·show t=_
      by_cases e:t=⟨#[]⟩
      ·exact e
      ·exact absurd (Or.inr (Or.inr (Or.inl ⟨h3,e⟩))) hb
     ·show t.size≤400
      by_cases h3:kind=3
      ·omega
      ·have:t=⟨#[]⟩:=by
        by_cases e:t=⟨#[]⟩
        ·exact e
        ·exact absurd (Or.inr (Or.inr (Or.inl ⟨h3,e⟩))) hb
       rw [this];decide
    have hG:=lay_gain (s:=s) qa hf
    exact ⟨hG.inv h.1 ⟨f1,by omega⟩ hk hl hg hs,hG.tree h.1 h.2 hk hl⟩
  ·rw [Jb rfl];exact h
 ·rw [Jb e1];exact h
theorem Good.drop {S:BS} {room D:Nat} (h:Good S room) {s:ByteArray} {v:Int} (hg:lget s (S.ino D).dir=some v) (hd:(S.at v).kind=2→(S.at v).dir=[]):Good (S.drop (D:Int) s v) room∧∃I:Nat,v=(I:Int)∧I≠D∧Drop S (S.drop (D:Int) s v) D I s:=by
 obtain ⟨qa,hDn,I,rfl,i1,i2,i3,i4,i5⟩:=h.1.lead hg
 have ma:I≠D:=fun e=>by subst e;exact h.1.own h.2 hg
 rw [at_nat] at hd
 have dd:=drop_drop (S:=S) s ma
 exact ⟨⟨dd.inv h.1 ma hd hg,dd.tree h.1 h.2 ma hd hg⟩,I,rfl,ma,dd⟩
theorem Good.unlink {S:BS} {room:Nat} (h:Good S room) (d:Int) (s:ByteArray):Good (S.unlink d s).2 room:=by
 unfold BS.unlink
 by_cases e1:S.dirE d true=0
 ·rw [Ja (by simpa using e1)]
  by_cases e2:(S.get d s).2=0
  ·rw [Ja (by simpa using e2)]
   obtain ⟨D,rfl,h1,h2,hk,hg⟩:=get_ok e2
   by_cases e3:(S.at (S.get (D:Int) s).1).kind=2
   ·rw [Jb e3];exact h
   ·rw [Ja e3]
    exact (h.drop hg (fun e=>absurd e e3)).1
  ·rw [Jb e2];exact h
 ·rw [Jb e1];exact h
theorem lget_ldel {s u:ByteArray} (h:s≠u) (L:List En):lget s (ldel u L)=lget s L:=by
 induction L with
 | nil=>rfl
 | cons x l ih =>
  by_cases e:x.1=u
  ·have h1:ldel u (x::l)=ldel u l:=by simp [ldel,e]
   have h2:lget s (x::l)=lget s l:=by
    have:¬x.1=s:=fun e1=>h (e1.symm.trans e)
    simp [lget,this]
   rw [h1,h2,ih]
  ·have h1:ldel u (x::l)=x::ldel u l:=by simp [ldel,e]
   rw [h1]
   by_cases e2:x.1=s
   ·simp [lget,e2]
   ·have a:∀m,lget s (x::m)=lget s m:=fun m=>by simp [lget,e2]
    rw [a,a,ih]
theorem lget_gone (u:ByteArray) (L:List En):lget u (ldel u L)=none:=lget_none.2 fun e he=>((ldel_mem e).1 he).2
theorem half_none {S:BS} {D T:Nat} {s u:ByteArray} (h:lget u (S.ino T).dir=none):lget u (halfD S D s T)=none :=
 lget_none.2 fun e he=>(lget_none.1 h) e (half_sub T e he)
theorem below_self {S:BS} {I n:Nat}:S.below (I:Int) I (n+1)=true:=by rw [below_up,decide_eq_true rfl];rfl
theorem Good.move {S:BS} {room D T I:Nat} (h:Good S room) {s u:ByteArray} (hg:lget s (S.ino D).dir=some (I:Int)) (hu:lget u (S.ino T).dir=none∨lget u (halfD S D s T)=none) (hTk:(S.ino T).kind=2) (hTl:(S.ino T).links≠0) (hs:nerr u.data.toList=0∧dotB u=false)
  (hb:(S.ino I).kind=2→S.below (T:Int) I 300=false):Good (S.move D s T u I) room:=by
 obtain ⟨qa,hDn,I',hI',i1,i2,i3,i4,i5⟩:=h.1.lead hg
 obtain rfl:I=I':=by omega
 have h1:I≠D:=fun e=>by subst e;exact h.1.own h.2 hg
 have h2:I≠T:=fun e=>by
  subst e
  have:=hb hTk
  rw [below_self] at this;cases this
 have d:=move_moved (S:=S) s u h1 h2
 have ma:lget u (halfD S D s T)=none:=by
  rcases hu with h3|h3
  ·exact half_none h3
  ·exact h3
 exact ⟨d.inv h.1 h2 hg ma hTk hTl hs,d.tree h.1 h.2 i3 hTk hTl hb⟩
theorem below_zero {S:BS} {I:Nat} (h0:S.ino 0=Ino.nil) (hI:1≤I) (n:Nat):S.below 0 I n=false:=by
 induction n with
 | zero=>rfl
 | succ n ih =>
  have e1:(S.at 0).parent=0:=by show (S.ino 0).parent=0;rw [h0];rfl
  unfold BS.below
  rw [e1,ih,decide_eq_false (fun e:(0:Int)=(I:Int)=>by omega)]
  rfl
theorem Drop.below {S S':BS} {D I J:Nat} {s:ByteArray} (d:Drop S S' D I s) (h0:S'.ino 0=Ino.nil) (hJ:1≤J) (n:Nat) (x:Int) (h:S'.below x J n=true):S.below x J n=true:=by
 induction n generalizing x with
 | zero=>cases h
 | succ n ih =>
  unfold BS.below at h ⊢
  by_cases e:x=(J:Int)
  ·rw [decide_eq_true e];rfl
  ·rw [decide_eq_false e,Bool.false_or] at h ⊢
   have hp:(S'.at x).parent=(S.at x).parent∨(S'.at x).parent=0:=by
    show (S'.ino x.toNat).parent=(S.ino x.toNat).parent∨(S'.ino x.toNat).parent=0
    by_cases e1:(S'.ino x.toNat).kind=0
    ·by_cases e2:x.toNat=I
     ·rcases d.ino with ⟨h1,_⟩|⟨h1,_⟩
      ·right;rw [e2,h1];rfl
      ·left;rw [e2,h1]
     ·by_cases e3:x.toNat=D
      ·left;rw [e3,d.dir]
      ·left;rw [d.oth _ e3 e2]
    ·exact .inl (d.keep _ e1).2.1
   rcases hp with h1|h1
   ·rw [h1] at h;exact ih _ h
   ·rw [h1,below_zero h0 hJ] at h;cases h
theorem Good.rename {S:BS} {room:Nat} (h:Good S room) (d:Int) (s:ByteArray) (t:Int) (u:ByteArray):Good (S.rename d s t u).2 room:=by
 unfold BS.rename
 by_cases e1:S.dirE d true=0
 ·rw [Ja (by simpa using e1)]
  by_cases e2:(S.get d s).2=0
  ·rw [Ja (by simpa using e2)]
   by_cases e3:S.dirE t true=0
   ·rw [Ja (by simpa using e3)]
    by_cases e4:nameE u=0
    ·rw [Ja (by simpa using e4)]
     obtain ⟨D,rfl,h1,h2,hk,hg⟩:=get_ok e2
     obtain ⟨T,rfl,t1,t2,tk,tl⟩:=dirE_ok e3
     have tl:=tl rfl
     have hs:=nameE_ok e4
     generalize (S.get (D:Int) s).1=v at *
     obtain ⟨_,_,I,rfl,i1,i2,i3,i4,i5⟩:=h.1.lead hg
     dsimp only
     rw [at_nat S I,at_nat S T]
     by_cases e5:(S.ino I).kind=2∧S.below (T:Int) I 300=true
     ·rw [Jb e5];exact h
     ·rw [Ja e5]
      have hb:(S.ino I).kind=2→S.below (T:Int) I 300=false:=fun ja=>by
       cases hbb:S.below (T:Int) I 300
       ·rfl
       ·exact absurd ⟨ja,hbb⟩ e5
      cases hT:lget u (S.ino T).dir with
      | none=>exact h.move hg (.inl hT) tk tl hs hb
      | some old =>
       dsimp only
       by_cases e6:old=(I:Int)
       ·rw [Jb e6];exact h
       ·rw [Ja e6]
        by_cases e7:(S.at old).kind=2∧(S.ino I).kind≠2
        ·rw [Jb e7];exact h
        ·rw [Ja e7]
         by_cases e8:(S.at old).kind≠2∧(S.ino I).kind=2
         ·rw [Jb e8];exact h
         ·rw [Ja e8]
          by_cases e9:(S.at old).kind=2∧(S.at old).dir≠[]
          ·rw [Jb e9];exact h
          ·rw [Ja e9]
           have hd:(S.at old).kind=2→(S.at old).dir=[]:=fun x=>by
            by_cases y:(S.at old).dir=[]
            ·exact y
            ·exact absurd ⟨x,y⟩ e9
           obtain ⟨ma,J,rfl,hJ,dd⟩:=h.drop hT hd
           rw [at_nat] at hd
           have ya:(S.ino J).dir=[]:=by
            by_cases e:(S.ino J).kind=2
            ·exact hd e
            ·exact h.1.noDir J e
           have la:I≠J:=fun e=>e6 (by rw [e])
           have qa:=dd.dirs hJ ya
           have da:lget s ((S.drop (T:Int) u J).ino D).dir=some (I:Int):=by
            rw [qa]
            by_cases e:D=T
            ·subst e
             rw [Jb rfl,lget_ldel (fun e=>by subst e;rw [hg] at hT;exact e6 (by injection hT with x;exact x.symm))]
             exact hg
            ·rw [Ja e];exact hg
           have ga:lget u ((S.drop (T:Int) u J).ino T).dir=none:=by rw [qa,Jb rfl];exact lget_gone u _
           have xa:(S.drop (T:Int) u J).ino T={ S.ino T with dir:=ldel u (S.ino T).dir }:=dd.dir
           refine ma.move da (.inl ga) (by rw [xa];exact tk) (by rw [xa];exact tl) hs fun ja=>?_
           have sa:(S.ino I).kind=2:=by rw [←(dd.keep I (by rw [ja];decide)).1];exact ja
           cases hbb:(S.drop (T:Int) u J).below (T:Int) I 300
           ·rfl
           ·have:=dd.below (ma.1.out 0 (.inl rfl)) i1 300 _ hbb
            rw [hb sa] at this;cases this
    ·rw [Jb e4];exact h
   ·rw [Jb e3];exact h
  ·rw [Jb e2];exact h
 ·rw [Jb e1];exact h
theorem fileE_ok {S:BS} {i:Int} (h:S.fileE i=0):∃I:Nat,i=(I:Int)∧1≤I∧I≤200∧(S.ino I).kind=1:=by
 unfold BS.fileE BS.kindOf at h
 cases hi:S.isI i
 ·rw [hi] at h;cases h
 ·rw [hi] at h
  obtain ⟨I,rfl,i1,i2,i3⟩:=isI_yes hi
  rw [at_nat] at h
  refine ⟨I,rfl,i1,i2,?_⟩
  by_cases e:(S.ino I).kind=1
  ·exact e
  ·simp only [if_true] at h
   rw [Ja i3] at h
   by_cases e2:(S.ino I).kind=2
   ·rw [Jb e2] at h;cases h
   ·rw [Ja e2,Ja e] at h;cases h
theorem Good.turn {S:BS} {room I:Nat} (h:Good S room) (hk:(S.ino I).kind=1) {b:AB} (hb:b.Ok) (hr:S.used+b.n - (S.ino I).body.n≤room):Good ⟨upd S.ino I { S.ino I with body:=b },S.used+b.n - (S.ino I).body.n⟩ room:=by
 have d:Turned S ⟨upd S.ino I { S.ino I with body:=b },S.used+b.n - (S.ino I).body.n⟩ I b:=⟨fun k hk=>upd_other _ _ hk,upd_same _ _ _,rfl⟩
 exact ⟨d.inv h.1 hk hb hr,d.tree h.2⟩
end br
end Go.Proofs.YtgoddboicjfkcaaGreat
