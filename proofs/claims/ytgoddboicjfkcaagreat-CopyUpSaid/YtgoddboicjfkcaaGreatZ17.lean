/- Contracts and mathematics, part 17. -/
import Derived.Test.YtgoddboicjfkcaaGreatZ16
set_option linter.unusedVariables false
set_option linter.unusedSimpArgs false
set_option maxRecDepth 100000
set_option maxHeartbeats 8000000
namespace Go.Proofs.YtgoddboicjfkcaaGreat
namespace cu
open Go.RowKit
open br (BS Ino Inv)
open cb (BrX RetW RetI No KB KD Res HB Stab NxR Same WrI Wz)
open bl (Pq Only U8)
open mg (Vx Nd Nb R2 bel_step bel_alloc)
section
variable {w0 w w':World} {P D RS room T:Nat} {S S':BS} {O X:Nat→Prop} {v:Value} {e:Ending}
theorem kx_make (h:KB w0 P S room T w O) (hT:T≤800000) (d:Int) (s:ByteArray) (k:Int) (t:ByteArray) (hm:s.size≤9223372036854775807) (hmt:t.size≤9223372036854775807) :
  Calls Tryz.prog 33 #[Pq P,.int .i64 d,.string s,.int .i64 k,.string t] w (fun e w'=>e=.returned (.tuple #[.int .i64 (S.make d s k t).1.1,.int .i64 (S.make d s k t).1.2])∧NxR w w' (KB w0 P (S.make d s k t).2 room (T+1)) O):=by
 obtain ⟨st,qb,qo,pl,tag,Tq,h1,h2,h3,h4,h5,h6⟩:=h
 exact (cb.make_any h1 h3 (by omega) d s k t hm hmt).mono fun _ _ hx=>KB.next (qo:=qo) (pl:=pl) h2 h4 h6 hx (h3.make d s k t) ((h5.make (by omega) d s k t).mono (by omega))
theorem kx_unlink (h:KB w0 P S room T w O) (hT:T≤800000) (d:Int) (s:ByteArray) :
  Calls Tryz.prog 35 #[Pq P,.int .i64 d,.string s] w (fun e w'=>e=.returned (.int .i64 (S.unlink d s).1)∧NxR w w' (KB w0 P (S.unlink d s).2 room (T+1)) O):=by
 obtain ⟨st,qb,qo,pl,tag,Tq,h1,h2,h3,h4,h5,h6⟩:=h
 exact (cb.unlink_any h1 h3 h4 (by omega) d s).mono fun _ _ hx=>KB.next (qo:=qo) (pl:=pl) h2 h4 h6 (cb.RetG.of hx) (h3.unlink d s) ((h5.unlink (by omega) d s).mono (by omega))
theorem kx_rename (h:KB w0 P S room T w O) (hT:T≤800000) (d:Int) (s:ByteArray) (t:Int) (u:ByteArray) (hm:u.size≤9223372036854775807) :
  Calls Tryz.prog 66 #[Pq P,.int .i64 d,.string s,.int .i64 t,.string u] w (fun e w'=>e=.returned (.int .i64 (S.rename d s t u).1)∧NxR w w' (KB w0 P (S.rename d s t u).2 room (T+1)) O):=by
 obtain ⟨st,qb,qo,pl,tag,Tq,h1,h2,h3,h4,h5,h6⟩:=h
 exact (cb.rename_any h1 h3 h4 (by omega) d s t u hm).mono fun _ _ hx=>KB.next (qo:=qo) (pl:=pl) h2 h4 h6 hx (h3.rename d s t u) ((h5.rename (by omega) d s t u).mono (by omega))
theorem kx_cut (h:KB w0 P S room T w O) (i off:Int) :
  Calls Tryz.prog 218 #[Pq P,.int .i64 i,.int .i64 off] w (fun e w'=>e=.returned (.int .i64 (S.cutI i off).1)∧NxR w w' (KB w0 P (S.cutI i off).2 room (T+1)) O):=by
 obtain ⟨st,qb,qo,pl,tag,Tq,h1,h2,h3,h4,h5,h6⟩:=h
 exact (cb.cut_any h1 h3 h4 i off).mono fun _ _ hx=>KB.next (qo:=qo) (pl:=pl) h2 h4 h6 hx (cb.Good_cutI h3 i off) ((h5.cutI i off).mono (by omega))
end
structure Cp where
 C:Nat
 V:Nat
 P1:Nat
 P2:Nat
 u:Int
 l:Int
 wk:Int
structure Cx (w:World) (c:Cp):Prop where
 c0:w.cell? ⟨c.C,0,none⟩=some (Pq c.P1)
 c1:w.cell? ⟨c.C,1,none⟩=some (Pq c.V)
 c2:w.cell? ⟨c.C,2,none⟩=some (.int .i64 c.u)
 c3:w.cell? ⟨c.C,3,none⟩=some (.int .i64 c.wk)
 v0:w.cell? ⟨c.V,0,none⟩=some (Pq c.P1)
 v1:w.cell? ⟨c.V,1,none⟩=some (Pq c.P2)
 v2:w.cell? ⟨c.V,2,none⟩=some (.int .i64 c.u)
 v3:w.cell? ⟨c.V,3,none⟩=some (.int .i64 c.l)
theorem Cx.same {w w':World} {c:Cp} (h:Cx w c) (e1:w'.heap[c.C]?=w.heap[c.C]?) (e2:w'.heap[c.V]?=w.heap[c.V]?):Cx w' c :=
 ⟨(World.cell?_of_block (a:=⟨c.C,0,none⟩) e1).trans h.c0,(World.cell?_of_block (a:=⟨c.C,1,none⟩) e1).trans h.c1,(World.cell?_of_block (a:=⟨c.C,2,none⟩) e1).trans h.c2,(World.cell?_of_block (a:=⟨c.C,3,none⟩) e1).trans h.c3,
  (World.cell?_of_block (a:=⟨c.V,0,none⟩) e2).trans h.v0,(World.cell?_of_block (a:=⟨c.V,1,none⟩) e2).trans h.v1,(World.cell?_of_block (a:=⟨c.V,2,none⟩) e2).trans h.v2,(World.cell?_of_block (a:=⟨c.V,3,none⟩) e2).trans h.v3⟩
structure Zs (w0 w:World) (c:Cp) (S L:BS) (r T:Nat) (M:List Res) (X:Nat→Prop):Prop where
 s:cb.Sys w0 w (KB w0 c.P1 S r T::KB w0 c.P2 L 65536 1000::M) X
 x:Cx w c
 xC:X c.C
 xV:X c.V
section
variable {w0 w w':World} {c:Cp} {S S' L:BS} {r T T':Nat} {M:List Res} {X Y:Nat→Prop} {f:Nat} {args:Array Value} {v:Value}
theorem Zs.bel (h:Zs w0 w c S L r T M X):Below w0.heap.size w0 w:=h.s.bel
theorem Zs.lt (h:Zs w0 w c S L r T M X) {b:Nat} (hb:X b):b<w.heap.size:=h.s.lt hb
theorem Zs.box (h:Zs w0 w c S L r T M X) (hb:Below w.heap.size w w') (hY:∀b,Y b→X b∨(w.heap.size≤b∧b<w'.heap.size)) (hC:Y c.C) (hV:Y c.V):Zs w0 w' c S L r T M Y :=
 ⟨h.s.box hb hY,h.x.same (hb.block _ (h.lt h.xC)) (hb.block _ (h.lt h.xV)),hC,hV⟩
theorem Zs.below (h:Zs w0 w c S L r T M X) (hb:Below w.heap.size w w'):Zs w0 w' c S L r T M X:=h.box hb (fun _ e=>.inl e) h.xC h.xV
theorem Zs.drew (h:Zs w0 w c S L r T M X):Zs w0 w.drew c S L r T M X:=h.below (Below.refl w.heap.size w).drew
theorem Zs.sub (h:Zs w0 w c S L r T M X) (hY:∀b,Y b→X b) (hC:Y c.C) (hV:Y c.V):Zs w0 w c S L r T M Y:=⟨h.s.sub hY,h.x,hC,hV⟩
theorem Zs.up (h:Zs w0 w c S L r T M X) (hT:T≤T'):Zs w0 w c S L r T' M X :=
 ⟨h.s.weak (i:=0) (r:=KB w0 c.P1 S r T) rfl KB.stab fun O k=>k.up hT,h.x,h.xC,h.xV⟩
theorem Zs.good1 (h:Zs w0 w c S L r T M X):br.Good S r:=h.s.ask (i:=0) rfl fun O k=>KB.good k
theorem Zs.good2 (h:Zs w0 w c S L r T M X):br.Good L 65536:=h.s.ask (i:=1) rfl fun O k=>KB.good k
theorem Zs.brx1 (h:Zs w0 w c S L r T M X):BrX w0 w c.P1 No S r T:=h.s.ask (i:=0) rfl fun O k=>(KB.brx k h.bel).forget
theorem Zs.brx2 (h:Zs w0 w c S L r T M X):BrX w0 w c.P2 No L 65536 1000:=h.s.ask (i:=1) rfl fun O k=>(KB.brx k h.bel).forget
theorem Zs.vx (h:Zs w0 w c S L r T M X):Vx w c.V c.P1 c.P2 c.u c.l S L:=⟨h.x.v0,h.x.v1,h.x.v2,h.x.v3,⟨_,_,_,h.brx1⟩,⟨_,_,_,h.brx2⟩⟩
theorem Zs.next (h:Zs w0 w c S L r T M X) (hs:Same X w w') (h2:cb.Sys w0 w' (KB w0 c.P1 S' r T'::KB w0 c.P2 L 65536 1000::M) X):Zs w0 w' c S' L r T' M X :=
 ⟨h2,h.x.same (hs _ h.xC) (hs _ h.xV),h.xC,h.xV⟩
theorem Zs.call (h:Zs w0 w c S L r T M X) (hc:∀O,(KB w0 c.P1 S r T) w O→Calls Tryz.prog f args w (fun e w'=>e=.returned v∧NxR w w' (KB w0 c.P1 S' r T') O)) :
  Calls Tryz.prog f args w (fun e w'=>e=.returned v∧Zs w0 w' c S' L r T' M X∧Same X w w') :=
 (cb.Sys.call h.s (i:=0) rfl KB.stab hc).mono fun e w' ⟨a,b,d⟩=>⟨a,h.next d b,d⟩
theorem Zs.make (h:Zs w0 w c S L r T M X) (hT:T≤800000) (d:Int) (s:ByteArray) (k:Int) (t:ByteArray) (hm:s.size≤9223372036854775807) (hmt:t.size≤9223372036854775807) :
  Calls Tryz.prog 33 #[Pq c.P1,.int .i64 d,.string s,.int .i64 k,.string t] w (fun e w'=>e=.returned (.tuple #[.int .i64 (S.make d s k t).1.1,.int .i64 (S.make d s k t).1.2])∧Zs w0 w' c (S.make d s k t).2 L r (T+1) M X∧Same X w w') :=
 h.call fun O k'=>kx_make k' hT d s k t hm hmt
theorem Zs.unlink (h:Zs w0 w c S L r T M X) (hT:T≤800000) (d:Int) (s:ByteArray) :
  Calls Tryz.prog 35 #[Pq c.P1,.int .i64 d,.string s] w (fun e w'=>e=.returned (.int .i64 (S.unlink d s).1)∧Zs w0 w' c (S.unlink d s).2 L r (T+1) M X∧Same X w w') :=
 h.call fun O k'=>kx_unlink k' hT d s
theorem Zs.rename (h:Zs w0 w c S L r T M X) (hT:T≤800000) (d:Int) (s:ByteArray) (t:Int) (u:ByteArray) (hm:u.size≤9223372036854775807) :
  Calls Tryz.prog 66 #[Pq c.P1,.int .i64 d,.string s,.int .i64 t,.string u] w (fun e w'=>e=.returned (.int .i64 (S.rename d s t u).1)∧Zs w0 w' c (S.rename d s t u).2 L r (T+1) M X∧Same X w w') :=
 h.call fun O k'=>kx_rename k' hT d s t u hm
theorem Zs.cut (h:Zs w0 w c S L r T M X) (i off:Int) :
  Calls Tryz.prog 218 #[Pq c.P1,.int .i64 i,.int .i64 off] w (fun e w'=>e=.returned (.int .i64 (S.cutI i off).1)∧Zs w0 w' c (S.cutI i off).2 L r (T+1) M X∧Same X w w') :=
 h.call fun O k'=>kx_cut k' i off
theorem Zs.write (h:Zs w0 w c S L r T M X) (i off:Int) (A:Option Addr) (len dc:Nat) (g:Nat→UInt8) (hA:∀j,j<len→∃b o,A=some ⟨b,o,none⟩∧X b∧w.cell? ⟨b,o+j,none⟩=some (U8 (g j))) (hlc:len≤dc) (hdc:dc≤maxLen) :
  Calls Tryz.prog 39 #[Pq c.P1,.int .i64 i,.int .i64 off,.slice A len dc] w (fun e w'=>∃z:Wz,WrI S r i off len g z.1 z.2.1 z.2.2∧e=.returned (.tuple #[.int .i64 (z.1:Int),.int .i64 z.2.1])∧Zs w0 w' c z.2.2 L r (T+1) M X∧Same X w w') :=
 (cb.Sys.callE (q:=fun z:Wz=>KB w0 c.P1 z.2.2 r (T+1)) h.s (i:=0) rfl (fun _ _=>KB.stab) fun O k hX=>cb.kb_write k hX i off A len dc g hA hlc hdc).mono fun e w' ⟨z,a,b,d,k⟩=>⟨z,a,b,h.next k d,k⟩
theorem Zs.turn (h:Zs w0 w c S L r T M X) {g:Nat} (hg:X g) (h0:w0.heap.size≤g) (hC:g≠c.C) (hV:g≠c.V) (ho:Only (fun b=>b=g) w w'):Zs w0 w' c S L r T M X :=
 ⟨h.s.turn ho (fun b hb=>by cases hb;exact ⟨hg,h0⟩) (fun b hb=>.inl hb),h.x.same (ho.block _ (h.lt h.xC) fun e=>hC e.symm) (ho.block _ (h.lt h.xV) fun e=>hV e.symm),h.xC,h.xV⟩
theorem only_set (w:World) (g i:Nat) (a:Value):Only (fun b=>b=g) w (w.setCell ⟨g,i,none⟩ a) :=
 ⟨rfl,rfl,rfl,by simp,fun k _ hk=>Below.heap_setCell _ _ _ _ hk⟩
theorem Zs.set (h:Zs w0 w c S L r T M X) {g:Nat} (hg:X g) (h0:w0.heap.size≤g) (hC:g≠c.C) (hV:g≠c.V) (i:Nat) (a:Value):Zs w0 (w.setCell ⟨g,i,none⟩ a) c S L r T M X:=h.turn hg h0 hC hV (only_set w g i a)
theorem Zs.set2 (h:Zs w0 w c S L r T M X) {g:Nat} (hg:X g) (h0:w0.heap.size≤g) (hC:g≠c.C) (hV:g≠c.V) (a b:Value):Zs w0 ((w.setCell ⟨g,0,none⟩ a).setCell ⟨g,1,none⟩ b) c S L r T M X:=(h.set hg h0 hC hV 0 a).set hg h0 hC hV 1 b
theorem same_trans {w1 w2 w3:World} (h:Same X w1 w2) (h2:Same X w2 w3):Same X w1 w3:=fun b hb=>(h2 b hb).trans (h b hb)
theorem same_below (h:Zs w0 w c S L r T M X) (hb:Below w.heap.size w w'):Same X w w':=fun b hx=>hb.block b (h.lt hx)
theorem same_set {g i:Nat} {a:Value} (hg:¬X g):Same X w (w.setCell ⟨g,i,none⟩ a):=fun b hx=>Below.heap_setCell _ _ _ _ fun e=>hg (show X g from (show b=g from e)▸hx)
end
end cu
namespace cb
open Go.RowKit
open br
open dn (En nerr lget lset ldel dotB)
open bl (AB Pq U8 wr)
structure MadeI (S S2:BS) (D n:Nat) (s:ByteArray) (kind:Int):Prop where
 d1:1≤D
 d2:D≤200
 hD:(S.ino D).kind=2
 hl:(S.ino D).links≠0
 hn:lget s (S.ino D).dir=none
 n1:1≤n
 n2:n≤200
 hz:(S.ino n).kind=0
 ne:n≠D
 oth:∀k,k≠D→k≠n→S2.ino k=S.ino k
 eD:S2.ino D={ S.ino D with dir:=lset s (n:Int) (S.ino D).dir }
 eN:(S2.ino n).kind=kind∧(S2.ino n).links=1∧(S2.ino n).holds=0∧(S2.ino n).dir=[]
 us:S2.used=S.used+(S2.ino n).body.n
theorem made_of {S:BS} {room:Nat} (hG:br.Good S room) {d:Int} {s t:ByteArray} {kind:Int} (h:(S.make d s kind t).1.2=0) :
  ∃D n:Nat,d=(D:Int)∧(S.make d s kind t).1.1=(n:Int)∧MadeI S (S.make d s kind t).2 D n s kind∧((S.make d s kind t).2.ino n).body=abE:=by
 by_cases h1:S.vacant d s=0
 ·by_cases hb:badKind kind t=true
  ·exfalso
   unfold BS.make at h
   rw [Ja (by omega),Jb hb] at h
   exact absurd (show (22:Int)=0 from h) (by decide)
  ·obtain ⟨D,rfl,d1,d2,hD,hl,hg,_⟩:=vacant_ok h1
   have qa:=free_spec S 200 1
   by_cases h2:200<S.free 1 200
   ·exfalso
    unfold BS.make at h
    rw [Ja (by omega),Ja hb] at h
    dsimp only at h
    rw [Jb h2] at h
    exact absurd (show (28:Int)=0 from h) (by decide)
   ·have hz:=qa.2.2.1 (by omega)
    have ja:=qa.1
    generalize hn:S.free 1 200=n at *
    have ma:n≠D:=fun e=>by rw [e,hD] at hz;cases hz
    have e:S.make (D:Int) s kind t=(((n:Int),0),(⟨br.upd (br.upd S.ino n (newI kind (D:Int) t)) D { S.ino D with dir:=lset s (n:Int) (S.ino D).dir },S.used⟩:BS)):=by
     unfold BS.make
     rw [Ja (by omega),Ja hb]
     dsimp only
     rw [hn,Ja h2]
     unfold BS.putDir BS.put
     dsimp only
     rw [Int.toNat_natCast,Int.toNat_natCast]
     show ((_,_),BS.mk (br.upd (br.upd S.ino n (newI kind (D:Int) t)) D { br.upd S.ino n (newI kind (D:Int) t) D with dir:=lset s (n:Int) (br.upd S.ino n (newI kind (D:Int) t) D).dir }) S.used)=_
     rw [upd_other _ _ (fun e=>ma e.symm)]
    rw [e]
    have eN:br.upd (br.upd S.ino n (newI kind (D:Int) t)) D { S.ino D with dir:=lset s (n:Int) (S.ino D).dir } n=newI kind (D:Int) t:=by rw [upd_other _ _ ma,upd_same]
    refine ⟨D,n,rfl,rfl,⟨d1,d2,hD,hl,hg,ja,by omega,hz,ma,fun k k1 k2=>?_,?_,?_,?_⟩,?_⟩
    ·show br.upd _ _ _ k=_
     rw [upd_other _ _ k1,upd_other _ _ k2]
    ·show br.upd _ _ _ D=_
     rw [upd_same]
    ·show (br.upd _ _ _ n).kind=_∧(br.upd _ _ _ n).links=_∧(br.upd _ _ _ n).holds=_∧(br.upd _ _ _ n).dir=_
     rw [eN];exact ⟨rfl,rfl,rfl,rfl⟩
    ·show S.used=S.used+(br.upd _ _ _ n).body.n
     rw [eN];rfl
    ·show (br.upd _ _ _ n).body=_
     rw [eN];rfl
 ·exfalso
  unfold BS.make at h
  rw [Jb h1] at h
  exact h1 h
theorem MadeI.lead {S S2:BS} {room:Nat} (hG:br.Good S room) {D n:Nat} {s:ByteArray} {kind:Int} (h:MadeI S S2 D n s kind):S2.dirE (D:Int) true=0∧S2.get (D:Int) s=((n:Int),0)∧S2.drop (D:Int) s (n:Int)=S:=by
 have hs:=hG.1.sorted D
 have k2:(S2.ino D).kind=2:=by rw [h.eD];exact h.hD
 have kl:(S2.ino D).links≠0:=by rw [h.eD];exact h.hl
 have hd:S2.dirE (D:Int) true=0:=by
  unfold BS.dirE BS.isI
  rw [at_nat,Ja (by simp only [decide_eq_false_iff_not,Decidable.not_not];exact ⟨by have:=h.d1;omega,by have:=h.d2;omega,by rw [k2];decide⟩),Ja (by rw [k2];decide),Ja (fun e=>kl e.2)]
 refine ⟨hd,?_,?_⟩
 ·rw [get_eq (dirE_less hd),h.eD]
  show (match lget s (lset s (n:Int) (S.ino D).dir) with|some v=>(v,(0:Int))|none=>(0,2))=_
  rw [lget_lset hs]
 ·exact made_gone hG.1 h.hz h.ne h.hn h.oth h.eD h.us ⟨h.eN.2.1,h.eN.2.2.1⟩ (drop_drop s h.ne)
theorem back_file {S S2:BS} {room:Nat} (hG:br.Good S room) {D n:Nat} {s:ByteArray} {kind:Int} (h:MadeI S S2 D n s kind) (hk:kind≠2):S2.unlink (D:Int) s=(0,S):=by
 obtain ⟨h1,h2,h3⟩:=h.lead hG
 unfold BS.unlink
 rw [h2,Ja (by rw [h1];decide),Ja (show ¬((0:Int)≠0) by decide),at_nat,Ja (by rw [h.eN.1];exact hk),h3]
end cb
namespace cu
open Go.RowKit
open dn (En lget lset ldel nerr dotB Sorted lessB)
open br (BS Ino Inv at_nat upd_same upd_other badKind vacant_ok free_spec abE)
open cb (newI)
open mg (Nd opq kindV lstV belV seenV pairV getV rootV kind_zero get_kind get_zero)
structure Mk (S S2:BS) (D n:Nat) (s:ByteArray) (x:Ino):Prop where
 d1:1≤D
 d2:D≤200
 hD:(S.ino D).kind=2
 hl:(S.ino D).links≠0
 hn:lget s (S.ino D).dir=none
 n1:1≤n
 n2:n≤200
 hz:(S.ino n).kind=0
 ne:n≠D
 oth:∀k,k≠D→k≠n→S2.ino k=S.ino k
 eD:S2.ino D={ S.ino D with dir:=lset s (n:Int) (S.ino D).dir }
 eN:S2.ino n=x
 us:S2.used=S.used+x.body.n
theorem mk_of {S:BS} {room:Nat} (hG:br.Good S room) {d:Int} {s t:ByteArray} {kind:Int} (h:(S.make d s kind t).1.2=0) :
  ∃D n:Nat,d=(D:Int)∧(S.make d s kind t).1.1=(n:Int)∧Mk S (S.make d s kind t).2 D n s (newI kind d t)∧badKind kind t=false∧br.nameE s=0:=by
 obtain ⟨D,n,e1,e2,hm,hb⟩:=cb.made_of hG h
 by_cases h1:S.vacant d s=0
 ·by_cases hbk:badKind kind t=true
  ·exfalso
   unfold BS.make at h
   rw [Ja (by omega),Jb hbk] at h
   exact absurd (show (22:Int)=0 from h) (by decide)
  ·by_cases h2:200<S.free 1 200
   ·exfalso
    unfold BS.make at h
    rw [Ja (by omega),Ja hbk] at h
    dsimp only at h
    rw [Jb h2] at h
    exact absurd (show (28:Int)=0 from h) (by decide)
   ·have hv:=vacant_ok h1
    obtain ⟨D',e3,_,_,_,_,_,hs⟩:=hv
    subst e1
    have e:S.make (D:Int) s kind t=(((S.free 1 200:Int),0),(⟨br.upd (br.upd S.ino (S.free 1 200) (newI kind (D:Int) t)) D { br.upd S.ino (S.free 1 200) (newI kind (D:Int) t) D with dir:=lset s ((S.free 1 200:Nat):Int) (br.upd S.ino (S.free 1 200) (newI kind (D:Int) t) D).dir },S.used⟩:BS)):=by
     unfold BS.make
     rw [Ja (by omega),Ja hbk]
     dsimp only
     rw [Ja h2]
     unfold BS.putDir BS.put
     dsimp only
     rw [Int.toNat_natCast,Int.toNat_natCast]
     rfl
    have en:S.free 1 200=n:=by
     have:=e2
     rw [e] at this
     exact Int.ofNat_inj.1 this
    have eN:(S.make (D:Int) s kind t).2.ino n=newI kind (D:Int) t:=by
     rw [e,en]
     show br.upd (br.upd S.ino n (newI kind (D:Int) t)) D _ n=_
     rw [upd_other _ _ hm.ne,upd_same]
    refine ⟨D,n,rfl,e2,⟨hm.d1,hm.d2,hm.hD,hm.hl,hm.hn,hm.n1,hm.n2,hm.hz,hm.ne,hm.oth,hm.eD,eN,?_⟩,by simpa using hbk,cb.nameE_yes hs⟩
    rw [hm.us,eN]
 ·exfalso
  unfold BS.make at h
  rw [Jb h1] at h
  exact h1 h
theorem make_no {S:BS} {d:Int} {s t:ByteArray} {kind:Int} (h:(S.make d s kind t).1.2≠0):(S.make d s kind t).2=S∧(S.make d s kind t).1.1=0:=by
 unfold BS.make at h ⊢
 by_cases h1:S.vacant d s=0
 ·rw [Ja (by simpa using h1)] at h ⊢
  by_cases hb:badKind kind t=true
  ·rw [Jb hb];exact ⟨rfl,rfl⟩
  ·rw [Ja hb] at h ⊢
   dsimp only at h ⊢
   by_cases h2:200<S.free 1 200
   ·rw [Jb h2];exact ⟨rfl,rfl⟩
   ·rw [Ja h2] at h;exact absurd rfl h
 ·rw [Jb h1];exact ⟨rfl,rfl⟩
theorem make_full {S:BS} {d:Int} {s t:ByteArray} {kind:Int} (h1:S.vacant d s=0) (hb:badKind kind t=false):(S.make d s kind t).1.2=0∨(S.make d s kind t).1.2=28:=by
 unfold BS.make
 rw [Ja (by simpa using h1),Ja (by simp [hb])]
 dsimp only
 by_cases h2:200<S.free 1 200
 ·rw [Jb h2];exact .inr rfl
 ·rw [Ja h2];exact .inl rfl
section
variable {S S2 L:BS} {room room2 D n:Nat} {s:ByteArray} {x:Ino}
theorem toN {i:Int} {k:Nat} (h:1≤k) (e:i.toNat=k):i=(k:Int):=by omega
theorem Mk.at_other (h:Mk S S2 D n s x) {i:Int} (h1:i≠(n:Int)) (h2:i≠(D:Int)):S2.at i=S.at i:=by
 unfold BS.at
 exact h.oth _ (fun e=>h2 (toN h.d1 e)) (fun e=>h1 (toN h.n1 e))
theorem Mk.at_kind (h:Mk S S2 D n s x) {i:Int} (h1:i≠(n:Int)):(S2.at i).kind=(S.at i).kind∧(S2.at i).marks=(S.at i).marks∧(S2.at i).links=(S.at i).links∧(S2.at i).body=(S.at i).body∧(S2.at i).target=(S.at i).target∧(S2.at i).parent=(S.at i).parent:=by
 by_cases h2:i=(D:Int)
 ·subst h2;rw [at_nat,at_nat,h.eD];exact ⟨rfl,rfl,rfl,rfl,rfl,rfl⟩
 ·rw [h.at_other h1 h2];exact ⟨rfl,rfl,rfl,rfl,rfl,rfl⟩
theorem Mk.isI (h:Mk S S2 D n s x) {i:Int} (h1:i≠(n:Int)):S2.isI i=S.isI i:=by unfold BS.isI;rw [(h.at_kind h1).1]
theorem Mk.isN (h:Mk S S2 D n s x) (hk:x.kind≠0):S2.isI (n:Int)=true:=by
 have:=h.n1;have:=h.n2
 unfold BS.isI;rw [at_nat,h.eN,decide_eq_true_eq];exact ⟨by omega,by omega,hk⟩
theorem Mk.isN0 (h:Mk S S2 D n s x):S.isI (n:Int)=false:=by
 unfold BS.isI;rw [at_nat,h.hz];simp
theorem Mk.kindOf (h:Mk S S2 D n s x) {i:Int} (h1:i≠(n:Int)):S2.kindOf i=S.kindOf i:=by unfold BS.kindOf;rw [h.isI h1,(h.at_kind h1).1]
theorem Mk.kindN (h:Mk S S2 D n s x) (hk:x.kind≠0):S2.kindOf (n:Int)=x.kind:=by unfold BS.kindOf;rw [h.isN hk,Jb rfl,at_nat,h.eN]
theorem Mk.kindN0 (h:Mk S S2 D n s x):S.kindOf (n:Int)=0:=by unfold BS.kindOf;rw [h.isN0];rfl
theorem Mk.marksOf (h:Mk S S2 D n s x) {i:Int} (h1:i≠(n:Int)):S2.marksOf i=S.marksOf i:=by unfold BS.marksOf;rw [h.isI h1,(h.at_kind h1).2.1]
theorem Mk.marksN (h:Mk S S2 D n s x) (hk:x.kind≠0):S2.marksOf (n:Int)=x.marks:=by unfold BS.marksOf;rw [h.isN hk,Jb rfl,at_nat,h.eN]
theorem Mk.opq (h:Mk S S2 D n s x) {i:Int} (h1:i≠(n:Int)):opq S2 i=opq S i:=by unfold mg.opq;rw [h.marksOf h1]
theorem Mk.opqN (h:Mk S S2 D n s x) (hk:x.kind≠0) (hm:x.marks=0):mg.opq S2 (n:Int)=false:=by unfold mg.opq;rw [h.marksN hk,hm];decide
theorem Mk.kindD (h:Mk S S2 D n s x):S.kindOf (D:Int)=2:=by
 have:=h.d1;have:=h.d2
 unfold BS.kindOf BS.isI
 rw [at_nat,h.hD,decide_eq_true ⟨by omega,by omega,by decide⟩];rfl
theorem Mk.neN (h:Mk S S2 D n s x):((D:Nat):Int)≠(n:Int):=fun e=>h.ne (Int.ofNat_inj.1 e).symm
theorem Mk.dirE (h:Mk S S2 D n s x) {i:Int} (h1:i≠(n:Int)) (c:Bool):S2.dirE i c=S.dirE i c:=by unfold BS.dirE;rw [h.isI h1,(h.at_kind h1).1,(h.at_kind h1).2.2.1]
theorem Mk.getD (h:Mk S S2 D n s x) (hI:Inv S room):S2.get (D:Int) s=((n:Int),0):=by
 unfold BS.get
 rw [h.dirE h.neN,mg.dirE_kind,h.kindD,Ja (by decide),at_nat,h.eD]
 dsimp only
 rw [br.lget_lset (hI.sorted D)]
theorem Mk.getD0 (h:Mk S S2 D n s x):S.get (D:Int) s=(0,2):=cb.get_no h.d1 h.d2 h.hD h.hn
theorem Mk.get (h:Mk S S2 D n s x) (hI:Inv S room) {d:Int} {t:ByteArray} (h1:d≠(n:Int)) (h2:¬(d=(D:Int)∧t=s)):S2.get d t=S.get d t:=by
 unfold BS.get
 rw [h.dirE h1]
 by_cases e:d=(D:Int)
 ·subst e
  have ht:t≠s:=fun e=>h2 ⟨rfl,e⟩
  rw [at_nat,at_nat,h.eD]
  dsimp only
  rw [br.lget_lset_other (hI.sorted D) ht]
 ·rw [h.at_other h1 e]
theorem Mk.getN (h:Mk S S2 D n s x) (hx:x.dir=[]) (t:ByteArray):(S2.get (n:Int) t).1=0:=by
 unfold BS.get
 by_cases e:S2.dirE (n:Int) false≠0
 ·rw [Jb e]
 ·rw [Ja e,at_nat,h.eN,hx];rfl
theorem Mk.get_ne (h:Mk S S2 D n s x) (hI:Inv S room) (d:Int) (t:ByteArray):(S.get d t).1≠(n:Int):=by
 intro e
 rcases mg.get_cases hI d t with ⟨_,h2⟩|⟨_,_,_,_,I,_,h3,h4,h5,h6⟩
 ·have:=h.n1;omega
 ·have:I=n:=Int.ofNat_inj.1 (h3.symm.trans e)
  exact h6 (by rw [this];exact h.hz)
theorem Mk.kindV (h:Mk S S2 D n s x) {a:Nd} (h1:a.1≠(n:Int)):kindV S2 L a=kindV S L a:=by unfold mg.kindV;rw [h.kindOf h1]
theorem Mk.lstV (h:Mk S S2 D n s x) {a:Nd} (h1:a.1≠(n:Int)):lstV S2 L a=lstV S L a:=by unfold mg.lstV;rw [h.kindV h1]
theorem Mk.belV (h:Mk S S2 D n s x) {a:Nd} (h1:a.1≠(n:Int)):belV S2 a=belV S a:=by unfold mg.belV;rw [h.opq h1]
theorem Mk.seenV (h:Mk S S2 D n s x) {p:Nd} (h1:p.1≠(n:Int)):seenV S2 L p=seenV S L p:=by unfold mg.seenV;rw [h.kindOf h1,h.opq h1]
theorem Mk.pairV (h:Mk S S2 D n s x) (hI:Inv S room) {a:Nd} {t:ByteArray} (h1:a.1≠(n:Int)) (h2:¬(a.1=(D:Int)∧t=s)):pairV S2 L a t=pairV S L a t:=by unfold mg.pairV;rw [h.get hI h1 h2,h.belV h1]
theorem Mk.getV (h:Mk S S2 D n s x) (hI:Inv S room) {a:Nd} {t:ByteArray} (h1:a.1≠(n:Int)) (h2:¬(a.1=(D:Int)∧t=s)):getV S2 L a t=getV S L a t:=by
 have e:(mg.pairV S L a t).1≠(n:Int):=h.get_ne hI a.1 t
 unfold mg.getV
 rw [h.lstV h1,h.pairV hI h1 h2,h.seenV e]
theorem Mk.rootV (h:Mk S S2 D n s x) {u l:Int} (h1:u≠(n:Int)):rootV S2 L u l=rootV S L u l:=by
 have h0:(0:Int)≠(n:Int):=by have:=h.n1;omega
 unfold mg.rootV
 rw [h.kindOf h1]
 by_cases e:S.kindOf u=2
 ·rw [Jb e,h.opq h1]
 ·rw [Ja e,h.opq h0]
theorem Mk.getV_was (h:Mk S S2 D n s x) (l:Int):mg.getV S L ((D:Int),l) s=if (L.get (mg.belV S ((D:Int),l)) s).1=0∨L.kindOf (L.get (mg.belV S ((D:Int),l)) s).1=4 then ((0,0),2) else ((0,(L.get (mg.belV S ((D:Int),l)) s).1),0):=by
 have h0:((D:Nat):Int)≠0:=by have:=h.d1;omega
 have hk:mg.kindV S L ((D:Int),l)=2:=by unfold mg.kindV;dsimp only;rw [Jb h0,h.kindD];decide
 have hl:mg.lstV S L ((D:Int),l)=0:=by unfold mg.lstV;rw [hk];decide
 have hp:mg.pairV S L ((D:Int),l) s=(0,(L.get (mg.belV S ((D:Int),l)) s).1):=by unfold mg.pairV;dsimp only;rw [h.getD0]
 generalize (L.get (mg.belV S ((D:Int),l)) s).1=y at *
 unfold mg.getV
 rw [Ja (by rw [hl];decide),hp,mg.seen_none (kind_zero S)]
 by_cases h4:L.kindOf y=4
 ·rw [Jb h4,Jb rfl,Jb (.inr h4)]
 ·rw [Ja h4]
  by_cases hy:y=0
  ·subst hy;rw [Jb rfl,Jb (.inl rfl)]
  ·rw [Ja (mg.ne_low hy),Ja (by rintro (e|e);exact hy e;exact h4 e)]
theorem Mk.getV_now (h:Mk S S2 D n s x) (hI:Inv S room) (hk:x.kind≠0) (hm:x.marks=0) (l:Int) :
  mg.getV S2 L ((D:Int),l) s=if x.kind=4 then ((0,0),2) else if x.kind=2∧L.kindOf (L.get (mg.belV S ((D:Int),l)) s).1=2 then (((n:Int),(L.get (mg.belV S ((D:Int),l)) s).1),0) else (((n:Int),0),0):=by
 have h0:((D:Nat):Int)≠0:=by have:=h.d1;omega
 have hn:((n:Nat):Int)≠0:=by have:=h.n1;omega
 have qa:mg.kindV S2 L ((D:Int),l)=2:=by unfold mg.kindV;dsimp only;rw [Jb h0,h.kindOf h.neN,h.kindD];decide
 have hl:mg.lstV S2 L ((D:Int),l)=0:=by unfold mg.lstV;rw [qa];decide
 have hp:mg.pairV S2 L ((D:Int),l) s=((n:Int),(L.get (mg.belV S ((D:Int),l)) s).1):=by unfold mg.pairV;dsimp only;rw [h.getD hI,h.belV h.neN]
 generalize (L.get (mg.belV S ((D:Int),l)) s).1=y at *
 have ma:=h.kindN hk
 have ho:=h.opqN hk hm
 unfold mg.getV
 rw [Ja (by rw [hl];decide),hp]
 by_cases h4:x.kind=4
 ·rw [Jb h4,mg.seen_white (by rw [ma,h4]),Jb rfl]
 ·rw [Ja h4]
  by_cases h2:x.kind=2∧L.kindOf y=2
  ·rw [Jb h2,mg.seen_both (by rw [ma,h2.1]) h2.2 ho,Ja (mg.ne_up hn)]
  ·rw [Ja h2,mg.seen_up (by rw [ma];exact hk) (by rw [ma];exact h4) (fun e=>h2 ⟨ma▸e.1,e.2.1⟩),Ja (mg.ne_up hn)]
end
def walkV (S L:BS):Nd→List ByteArray→Nd×Int
 | a,[]=>(a,0)
 | a,t::p=>if (getV S L a t).2≠0 then ((0,0),(getV S L a t).2) else walkV S L (getV S L a t).1 p
def enterF (S L:BS) (d:Int) (a:Nd) (t:ByteArray):(Nd×Int)×BS :=
 if (getV S L a t).2≠0 then (((0,0),(getV S L a t).2),S)
 else if kindV S L (getV S L a t).1≠2 then (((0,0),20),S)
 else if (getV S L a t).1.1≠0 then (((getV S L a t).1,0),S)
 else if (S.make d t 2 ⟨#[]⟩).1.2≠0 then (((0,0),(S.make d t 2 ⟨#[]⟩).1.2),(S.make d t 2 ⟨#[]⟩).2)
 else ((((S.make d t 2 ⟨#[]⟩).1.1,(getV S L a t).1.2),0),(S.make d t 2 ⟨#[]⟩).2)
def descF (L:BS):BS→Int→Nd→List ByteArray→((Int×Nd)×Int)×BS
 | S,d,a,[]=>(((d,a),0),S)
 | S,d,a,t::p=>if (enterF S L d a t).1.2≠0 then (((0,(0,0)),(enterF S L d a t).1.2),(enterF S L d a t).2) else descF L (enterF S L d a t).2 (enterF S L d a t).1.1.1 (enterF S L d a t).1.1 p
theorem walkV_cons {S L:BS} {a:Nd} {t:ByteArray} {p:List ByteArray}:walkV S L a (t::p)=if (getV S L a t).2≠0 then ((0,0),(getV S L a t).2) else walkV S L (getV S L a t).1 p:=rfl
theorem walkV_ok {S L:BS} {a c:Nd} {t:ByteArray} {p:List ByteArray} (h:getV S L a t=(c,0)):walkV S L a (t::p)=walkV S L c p:=by rw [walkV_cons,h];simp
theorem walkV_no {S L:BS} {a:Nd} {t:ByteArray} {p:List ByteArray} (h:(getV S L a t).2≠0):walkV S L a (t::p)=((0,0),(getV S L a t).2):=by rw [walkV_cons,Jb h]
theorem walkV_app {S L:BS}:∀(p q:List ByteArray) (a:Nd),walkV S L a (p++q)=if (walkV S L a p).2≠0 then walkV S L a p else walkV S L (walkV S L a p).1 q
 | [],q,a=>by show walkV S L a q=_;rw [Ja (show ¬(walkV S L a []).2≠0 by simp [walkV])];rfl
 | t::p,q,a=>by
  show walkV S L a (t::(p++q))=_
  by_cases h:(getV S L a t).2=0
  ·rw [walkV_ok (c:=(getV S L a t).1) (Prod.ext rfl h),walkV_ok (c:=(getV S L a t).1) (Prod.ext rfl h)]
   exact walkV_app p q _
  ·rw [walkV_no h,walkV_no h,Jb h]
theorem descF_cons {S L:BS} {d:Int} {a:Nd} {t:ByteArray} {p:List ByteArray}:descF L S d a (t::p)=if (enterF S L d a t).1.2≠0 then (((0,(0,0)),(enterF S L d a t).1.2),(enterF S L d a t).2) else descF L (enterF S L d a t).2 (enterF S L d a t).1.1.1 (enterF S L d a t).1.1 p:=rfl
structure Grow (L S S':BS):Prop where
 dir:∀i,S.kindOf i=2→S'.kindOf i=2
 op:∀i,S.kindOf i=2→opq S' i=opq S i
 got:∀(b c:Nd) (t:ByteArray),S.kindOf b.1=2→getV S L b t=(c,0)→c.1≠0→getV S' L b t=(c,0)
theorem Grow.refl (L S:BS):Grow L S S:=⟨fun _ h=>h,fun _ _=>rfl,fun _ _ _ _ h _=>h⟩
theorem Grow.trans {L S S1 S2:BS} (h:Grow L S S1) (h2:Grow L S1 S2):Grow L S S2:=⟨fun i k=>h2.dir i (h.dir i k),fun i k=>(h2.op i (h.dir i k)).trans (h.op i k),fun b c t k g n=>h2.got b c t (h.dir _ k) (h.got b c t k g n) n⟩
section
variable {S S2 S' L:BS} {room room2 D n:Nat} {s:ByteArray} {x:Ino}
theorem Mk.grow (h:Mk S S2 D n s x) (hI:Inv S room):Grow L S S2 where
 dir:=fun i hi=>by
  rw [h.kindOf (fun e=>by rw [e,h.kindN0] at hi;cases hi)];exact hi
 op:=fun i hi=>h.opq fun e=>by rw [e,h.kindN0] at hi;cases hi
 got:=fun b c t hb hg hc=>by
  rw [h.getV hI (fun e=>by rw [e,h.kindN0] at hb;cases hb),hg]
  rintro ⟨e1,rfl⟩
  have e2:b=((D:Int),b.2):=Prod.ext e1 rfl
  rw [e2,h.getV_was] at hg
  split at hg
  ·injection hg with h1 h2;cases h2
  ·injection hg with h1 h2;exact hc (by rw [←h1])
theorem kindV_dir {c:Nd} (h:kindV S L c=2) (h2:c.1=0):L.kindOf c.2=2:=by
 unfold mg.kindV at h
 rw [Ja (show ¬c.1≠0 from fun e=>e h2)] at h
 by_cases h4:L.kindOf c.2=4
 ·rw [Jb h4] at h;exact absurd h (by decide)
 ·rw [Ja h4] at h;exact h
theorem kindV_two {c:Nd} (h:kindV S L c=2) (h2:c.1≠0):S.kindOf c.1=2:=by
 unfold mg.kindV at h
 rw [Jb h2] at h
 by_cases h4:S.kindOf c.1=4
 ·rw [Jb h4] at h;exact absurd h (by decide)
 ·rw [Ja h4] at h;exact h
inductive Ch (S L:BS):Nd→List ByteArray→Nd→Prop
 | nil {a:Nd}:Ch S L a [] a
 | cons {a c b:Nd} {t:ByteArray} {p:List ByteArray}:getV S L a t=(c,0)→c.1≠0→S.kindOf c.1=2→Ch S L c p b→Ch S L a (t::p) b
theorem Ch.grow (hg:Grow L S S') {a b:Nd} {p:List ByteArray} (h:Ch S L a p b):S.kindOf a.1=2→Ch S' L a p b:=by
 induction h with
 | nil=>exact fun _=>.nil
 | cons h1 h2 h3 _ ih=>exact fun ha=>.cons (hg.got _ _ _ ha h1 h2) h2 (hg.dir _ h3) (ih h3)
theorem Ch.walk {a b:Nd} {p:List ByteArray} (h:Ch S L a p b):walkV S L a p=(b,0):=by
 induction h with
 | nil=>rfl
 | cons h1 _ _ _ ih=>rw [walkV_ok h1,ih]
theorem Ch.kind {a b:Nd} {p:List ByteArray} (h:Ch S L a p b):S.kindOf a.1=2→S.kindOf b.1=2:=by
 induction h with
 | nil=>exact fun h=>h
 | cons _ _ h3 _ ih=>exact fun _=>ih h3
theorem kind_ne {i:Int} (h:S.kindOf i=2):i≠0:=fun e=>by rw [e,kind_zero] at h;cases h
theorem Ch.again {a b:Nd} {p:List ByteArray} (h:Ch S L a p b):descF L S a.1 a p=(((b.1,b),0),S):=by
 induction h with
 | nil=>rfl
 | @cons a c b t p h1 h2 h3 _ ih =>
  have e:enterF S L a.1 a t=((c,0),S):=by
   have hk:kindV S L c=2:=by unfold mg.kindV;rw [Jb h2,h3];decide
   unfold enterF
   rw [h1]
   dsimp only
   rw [Ja (by decide),Ja (by rw [hk];decide),Jb h2]
  rw [descF_cons,e]
  dsimp only
  rw [Ja (by decide),ih]
theorem enter_ok (hG:br.Good S room) {d:Int} {a:Nd} {t:ByteArray} (hd:a.1=d) (hk:S.kindOf d=2) (h:(enterF S L d a t).1.2=0) :
    br.Good (enterF S L d a t).2 room∧(enterF S L d a t).2.kindOf (enterF S L d a t).1.1.1=2∧Grow L S (enterF S L d a t).2∧getV (enterF S L d a t).2 L a t=((enterF S L d a t).1.1,0)∧(enterF S L d a t).2.used=S.used ∧
    ((getV S L a t=((enterF S L d a t).1.1,0)∧(enterF S L d a t).2=S) ∨
     (getV S L a t=((0,(enterF S L d a t).1.1.2),0)∧L.kindOf (enterF S L d a t).1.1.2=2∧∃D n:Nat,d=(D:Int)∧(enterF S L d a t).1.1.1=(n:Int)∧Mk S (enterF S L d a t).2 D n t (newI 2 d ⟨#[]⟩))):=by
  obtain ⟨c,e,ma⟩:∃c e,getV S L a t=(c,e):=⟨_,_,rfl⟩
  by_cases h0:e=0
  case neg =>
    exfalso
    unfold enterF at h
    rw [ma] at h
    dsimp only at h
    rw [Jb h0] at h
    exact h0 h
  subst h0
  by_cases h1:kindV S L c=2
  case neg =>
    exfalso
    unfold enterF at h
    rw [ma] at h
    dsimp only at h
    rw [Ja (by decide),Jb h1] at h
    exact absurd (show (20:Int)=0 from h) (by decide)
  by_cases h2:c.1=0
  · have hy:L.kindOf c.2=2:=kindV_dir h1 h2
    have e1:enterF S L d a t=if (S.make d t 2 ⟨#[]⟩).1.2≠0 then (((0,0),(S.make d t 2 ⟨#[]⟩).1.2),(S.make d t 2 ⟨#[]⟩).2) else ((((S.make d t 2 ⟨#[]⟩).1.1,c.2),0),(S.make d t 2 ⟨#[]⟩).2):=by
      unfold enterF
      rw [ma]
      dsimp only
      rw [Ja (by decide),Ja (by rw [h1];decide),Ja (by simpa using h2)]
    by_cases h3:(S.make d t 2 ⟨#[]⟩).1.2=0
    case neg =>
      exfalso
      rw [e1,Jb h3] at h
      exact h3 h
    rw [Ja (by simpa using h3)] at e1
    obtain ⟨D,n,rfl,e2,hm,_,_⟩:=mk_of hG h3
    have hz:(newI 2 (D:Int) ⟨#[]⟩).kind≠0:=by show (2:Int)≠0;decide
    have qa:=hG.make (D:Int) t 2 ⟨#[]⟩
    rw [e1]
    dsimp only
    have ea:a=((D:Int),a.2):=Prod.ext hd rfl
    have ey:(L.get (mg.belV S ((D:Int),a.2)) t).1=c.2:=by
      have:=ma
      rw [ea,hm.getV_was] at this
      split at this
      · injection this with _ h9;cases h9
      · injection this with h9 _;rw [←h9]
    refine ⟨qa,?_,hm.grow hG.1,?_,?_,.inr ⟨?_,hy,D,n,rfl,e2,hm⟩⟩
    · rw [e2,hm.kindN hz];rfl
    · rw [ea,hm.getV_now hG.1 hz rfl,Ja (show ¬(newI 2 (D:Int) ⟨#[]⟩).kind=4 by show ¬((2:Int)=4);decide),ey,Jb ⟨rfl,hy⟩,e2]
    · rw [hm.us]
      show S.used+abE.n=S.used
      rw [br.abE_n];rfl
    · exact ma.trans (congrArg (fun z:Nd=>(z,(0:Int))) (Prod.ext h2 rfl))
  · have e1:enterF S L d a t=((c,0),S):=by
      unfold enterF
      rw [ma]
      dsimp only
      rw [Ja (by decide),Ja (by rw [h1];decide),Jb h2]
    have h3:S.kindOf c.1=2:=kindV_two h1 h2
    rw [e1]
    exact ⟨hG,h3,Grow.refl L S,ma,rfl,.inl ⟨ma,rfl⟩⟩
theorem Grow.root {u l:Int} (h:Grow L S S') (hu:S.kindOf u=2):rootV S' L u l=rootV S L u l:=by
 unfold mg.rootV
 rw [hu,h.dir u hu,Jb rfl,h.op u hu]
theorem root_up {u l:Int} (hu:S.kindOf u=2):(rootV S L u l).1=u:=by unfold mg.rootV;rw [hu,Jb rfl]
theorem desc_ok:∀(p:List ByteArray) {S:BS} {d:Int} {a:Nd},br.Good S room→a.1=d→S.kindOf d=2→(descF L S d a p).1.2=0 →
  br.Good (descF L S d a p).2 room∧(descF L S d a p).1.1.2.1=(descF L S d a p).1.1.1∧Grow L S (descF L S d a p).2∧Ch (descF L S d a p).2 L a p (descF L S d a p).1.1.2∧(descF L S d a p).2.used=S.used
 | [],S,d,a,hG,hd,hk,h=>⟨hG,hd,Grow.refl L S,.nil,rfl⟩
 | t::p,S,d,a,hG,hd,hk,h=>by
  rw [descF_cons] at h ⊢
  by_cases h0:(enterF S L d a t).1.2=0
  case neg=>rw [Jb h0] at h;exact absurd h h0
  rw [Ja (by simpa using h0)] at h ⊢
  obtain ⟨g1,g2,g3,g4,g5,_⟩:=enter_ok hG hd hk h0
  have hn:(enterF S L d a t).1.1.1≠0:=kind_ne g2
  generalize (enterF S L d a t).1.1=c at *
  generalize (enterF S L d a t).2=S1 at *
  obtain ⟨k1,k2,k3,k4,k5⟩:=desc_ok p g1 rfl g2 h
  exact ⟨k1,k2,g3.trans k3,.cons (k3.got _ _ _ (g3.dir _ (hd▸hk)) g4 hn) hn (k3.dir _ g2) k4,k5.trans g5⟩
end
end cu
namespace cu
open Go.RowKit Go.Deep
open br (BS Ino Inv)
open cb (BrX RetW RetI No KB KD Res HB Stab NxR Same WrI Wz)
open bl (Pq Only U8)
open mg (Vx Nd Nv Nb R2 bel_step bel_alloc kindV getV set_below set2_below heap_set)
theorem R2.put {w:World} {g:Nat} {x y:Int} (h:R2 w g x y) (a b:Int):R2 ((w.setCell ⟨g,0,none⟩ (.int .i64 a)).setCell ⟨g,1,none⟩ (.int .i64 b)) g a b:=(h.up a).lo b
abbrev Rd (W:World) (c:Cp) (g:Nat) (n1 n2:Int):Prop:=W.cell? ⟨c.C,1,none⟩=some (Pq c.V)∧W.cell? ⟨g,0,none⟩=some (.int .i64 n1)∧W.cell? ⟨g,1,none⟩=some (.int .i64 n2)
def EnterE (w0 w:World) (c:Cp) (L:BS) (r T:Nat) (M:List Res) (X:Nat→Prop) (res:(Nd×Int)×BS) (e:Ending) (w':World):Prop :=
 e=.returned (.tuple #[Nv res.1.1,.int .i64 res.1.2])∧Zs w0 w' c res.2 L r T M X∧Same X w w'
theorem enter_any {w0 w:World} {c:Cp} {S L:BS} {r T:Nat} {M:List Res} {X:Nat→Prop} (h:Zs w0 w c S L r T M X) (hT:T≤800000) (d:Int) (n:Nd) (t:ByteArray) (ht:t.size≤9223372036854775807) :
  Calls Tryz.prog 172 #[Pq c.C,.int .i64 d,Nv n,.string t] w (EnterE w0 w c L r (T+1) M X (enterF S L d n t)):=by
 obtain ⟨n1,n2⟩:=n
 obtain ⟨w1,hw1⟩:∃w1,(w.alloc (.cells #[.int .i64 n1,.int .i64 n2] 24)).alloc (.cells #[.int .i64 0,.int .i64 0] 24)=w1:=⟨_,rfl⟩
 have qa:Below w.heap.size w w1:=by rw [←hw1];exact bel_step (bel_alloc _ _) (bel_alloc _ _)
 obtain ⟨g,hg⟩:∃g,w.heap.size=g:=⟨_,rfl⟩
 have ya:Nb w1 g (n1,n2):=by rw [←hw1,←hg];exact (Nb.new w n1 n2).below (bel_alloc _ _)
 have da:R2 w1 (g+1) 0 0:=by rw [←hw1,←hg];have:=R2.new (w.alloc (.cells #[.int .i64 n1,.int .i64 n2] 24)) 0 0;rwa [World.size_alloc] at this
 have ga:w1.heap.size=g+1+1:=by rw [←hw1,←hg,World.size_alloc,World.size_alloc]
 have Qi:=Qa (h.box (Y:=fun b=>X b∨b=g∨b=g+1) qa (fun b hb=>hb.imp id fun e=>by rcases e with e|e <;> (rw [e];omega)) (.inl h.xC) (.inl h.xV))
 have Qx:=Qa (same_below h qa)
 have Qh:=Qa (show ∀b,X b→b<g from fun b hb=>hg▸h.lt hb)
 have Qe:=Qa (And.intro h.xC h.xV)
 have Qv:=Qa ya
 have Qy:=Qa da
 have HZ:=Qa ga
 have Qz:=Qa (show w0.heap.size≤g by rw [←hg];exact h.bel.size)
 have Qj:=Qa (fun W (hb:Below w1.heap.size w1 W)=>show Rd W c g n1 n2 from ⟨(Qi.out.below hb).x.c1,(Qv.out.below hb).c0,(Qv.out.below hb).c1⟩)
 have Qc:=Qa (fun W (hb:Below w1.heap.size w1 W)=>mg.get_any (Qi.out.below hb).vx (n1,n2) t)
 unfold RetW at Qc
 have Qb:Hid (enterF S L d (n1,n2) t=if (getV S L (n1,n2) t).2≠0 then (((0,0),(getV S L (n1,n2) t).2),S)
  else if kindV S L (getV S L (n1,n2) t).1≠2 then (((0,0),20),S)
  else if (getV S L (n1,n2) t).1.1≠0 then (((getV S L (n1,n2) t).1,0),S)
  else if (S.make d t 2 ⟨#[]⟩).1.2≠0 then (((0,0),(S.make d t 2 ⟨#[]⟩).1.2),(S.make d t 2 ⟨#[]⟩).2)
  else ((((S.make d t 2 ⟨#[]⟩).1.1,(getV S L (n1,n2) t).1.2),0),(S.make d t 2 ⟨#[]⟩).2)):=Qa rfl
 generalize enterF S L d (n1,n2) t=res at *
 obtain ⟨gv,hgv⟩:∃r,getV S L (n1,n2) t=r:=⟨_,rfl⟩
 rw [hgv] at Qc Qb
 clear hgv
 obtain ⟨⟨x1,x2⟩,ge⟩:=gv
 dsimp only at Qc Qb
 have HE:=Qa (show ∀(W:World) (y1 y2 er:Int) (S':BS),res=(((y1,y2),er),S')→Zs w0 W c S' L r (T+1) M X→Same X w W→EnterE w0 w c L r (T+1) M X res (.returned (.tuple #[.agg #[.int .i64 y1,.int .i64 y2],.int .i64 er])) W from
  fun W y1 y2 er S' e a b=>by rw [e];exact ⟨rfl,a,b⟩)
 obtain ⟨PQ,hPQ⟩:∃P,EnterE w0 w c L r (T+1) M X res=P:=⟨_,rfl⟩
 rw [hPQ] at HE ⊢
 clear h qa ya da ga hPQ
 obtain ⟨cC,hcC⟩:∃x,x=c.C:=⟨_,rfl⟩
 rw [←hcC]
 go_enter Tryz.func172,Tryz.ntmps172
 go_upto_region 1 with fail
 try rw [hw1]
 try rw [hg]
 clear hw1
 subst hcC
 go_cut [10,11] from 12 to 57 (fun va vb wx=>∃G,va=.pointer (some ⟨G,0,none⟩)∧vb=.int .i64 ge∧Hid (Below w1.heap.size w1 wx)∧Hid (R2 wx G x1 x2)∧Hid (w1.heap.size≤G))
 case first =>
  have S0:=Qj.out w1 (Below.refl _ _)
  have Q2:=Qa (bel_alloc w1 (.cells #[.int .i64 0,.int .i64 0] 24))
  have Q3:=Qa (bel_step Q2.out (Below.refl _ (w1.alloc (.cells #[.int .i64 0,.int .i64 0] 24))).drew)
  have SA:=Qj.out _ Q2.out
  have Xa:=Qa (Qc.out w1.drew (Below.refl w1.heap.size w1).drew)
  have Xb:=Qa (Qc.out (w1.alloc (.cells #[.int .i64 0,.int .i64 0] 24)).drew Q3.out)
  have Xc:=Qa (show R2 (w1.alloc (.cells #[.int .i64 0,.int .i64 0] 24)).drew w1.heap.size 0 0 from (R2.new w1 0 0).below (Below.refl _ _).drew)
  clear Qi Qc
  go_region_held3 (fun W=>W.cell? ⟨c.C,1,none⟩=some (Pq c.V)∧W.cell? ⟨g,0,none⟩=some (.int .i64 n1)∧W.cell? ⟨g,1,none⟩=some (.int .i64 n2))
   (first|with_reducible exact S0|with_reducible exact S5|with_reducible exact SA|with_reducible exact ST|assumption|go_keep)
   (first
    | (go_at_call 17;((with_reducible refine Xa.out.mono ?_);rintro _ w5 ⟨rfl,hb5⟩;have Qd:=Qa (bel_step (Below.refl w1.heap.size w1).drew hb5);have S5:=Qj.out w5 Qd.out;have Xd:=Qa (show ∃G,w5.heap.size=G∧Below w1.heap.size w1 (w5.alloc (.cells #[.int .i64 x1,.int .i64 x2] 24))∧R2 (w5.alloc (.cells #[.int .i64 x1,.int .i64 x2] 24)) G x1 x2∧w1.heap.size≤G from ⟨_,rfl,bel_step Qd.out (bel_alloc _ _),R2.new w5 x1 x2,Qd.out.size⟩);clear hb5))
    | (go_at_call 17;((with_reducible refine Xb.out.mono ?_);rintro _ w5 ⟨rfl,hb5⟩;have Qd:=Qa (bel_step Q3.out hb5);have S5:=Qj.out w5 Qd.out;have Q4:=Qa (Xc.out.below hb5);obtain ⟨z0,z1,f0,f1⟩:=Q4.out;have Q5:=Qa (show Below w1.heap.size w1 ((w5.setCell ⟨w1.heap.size,0,none⟩ (.int .i64 x1)).setCell ⟨w1.heap.size,1,none⟩ (.int .i64 x2)) from set2_below Qd.out (Nat.le_refl _) _ _);have ST:=Qj.out _ Q5.out;have Xe:=Qa (R2.put Q4.out x1 x2);clear hb5)))
  all_goals
   go_wp2_with fail
   go_meet
   case rel=>first|exact ⟨_,rfl,rfl,Q5,Xe,Qa (Nat.le_refl _)⟩|(obtain ⟨G,hG,h1,h2,h3⟩:=Xd.out;subst hG;exact ⟨_,rfl,rfl,Qa h1,Qa h2,Qa h3⟩)
 case rest =>
  obtain ⟨G,rfl,rfl,Qp,Qq,Qk⟩:=hcut
  obtain ⟨wx,rfl⟩:∃x,x=wc:=⟨_,rfl⟩
  obtain ⟨Y,hY⟩:∃Y:Nat→Prop,(fun b=>X b∨b=g∨b=g+1∨b=G)=Y:=⟨_,rfl⟩
  have ma:∀b,X b→Y b:=fun b hb=>by rw [←hY];exact .inl hb
  have ja:Y (g+1):=by rw [←hY];exact .inr (.inr (.inl rfl))
  have sa:Y G:=by rw [←hY];exact .inr (.inr (.inr rfl))
  have xa:g+1≠c.C∧g+1≠c.V:=⟨fun e=>by have:=Qh.out _ Qe.out.1;omega,fun e=>by have:=Qh.out _ Qe.out.2;omega⟩
  have la:G≠c.C∧G≠c.V:=⟨fun e=>by have:=Qh.out _ Qe.out.1;have:=Qk.out;have:=HZ.out;omega,fun e=>by have:=Qh.out _ Qe.out.2;have:=Qk.out;have:=HZ.out;omega⟩
  have ba:w0.heap.size≤G:=by have:=Qz.out;have:=Qk.out;have:=HZ.out;omega
  have Ql:=Qa (Qi.out.box (Y:=Y) Qp.out (fun b hb=>by
   rw [←hY] at hb
   rcases hb with e|e|e|e
   ·exact .inl (.inl e)
   ·exact .inl (.inr (.inl e))
   ·exact .inl (.inr (.inr e))
   ·exact .inr ⟨by rw [e];exact Qk.out,by rw [e];exact Qq.out.lt⟩) (ma _ Qe.out.1) (ma _ Qe.out.2))
  have Qw:=Qa (show Same X w wx from same_trans Qx.out (fun b hb=>Qp.out.block b (Qi.out.lt (.inl hb))))
  have Qr:=Qa (Qy.out.below Qp.out)
  have Qn:=Qa (show ∀(W:World) (y1 y2 er:Int) (S':BS) (T':Nat),T'≤T+1→res=(((y1,y2),er),S')→Zs w0 W c S' L r T' M Y→Same X w W→PQ (.returned (.tuple #[.agg #[.int .i64 y1,.int .i64 y2],.int .i64 er])) ((W.setCell ⟨g+1,0,none⟩ (.int .i64 y1)).setCell ⟨g+1,1,none⟩ (.int .i64 y2)) from
   fun W y1 y2 er S' T' hT' he hz hs=>HE.out _ y1 y2 er S' he (((hz.set2 ja (by have:=Qz.out;omega) xa.1 xa.2 _ _).sub ma Qe.out.1 Qe.out.2).up hT')
    (same_trans (same_trans hs (same_set fun e=>by have:=Qh.out _ e;omega)) (same_set fun e=>by have:=Qh.out _ e;omega)))
  have Qf:=Qa (And.intro ma (And.intro ja (And.intro sa (And.intro la ba))))
  have Xf:=Qa hT
  have Xg:=Qa ht
  clear hY ma ja sa xa la ba Qi Qx Qv Qy Qj Qc HE Qp hT ht
  by_cases e0:ge=0
  case neg =>
   have q0:(ge != 0)=true:=by simpa using e0
   rw [Jb e0] at Qb
   obtain ⟨s0,s1,v0,v1⟩:=Qr.out
   have Qg:=Qa (fun a b=>Qr.out.range a b)
   have HF:=Qa (Qn.out wx 0 0 ge S T (by omega) Qb.out Ql.out Qw.out)
   go_wp2_with fail
   refine bodyPost_ret (mg.results_row_tmp rfl _ _ (g+1) _ _ rfl (Qg.out _ _) Tryz.underlying24 (by rfl) (by rfl)) rfl ?_
   exact HF.out
  subst e0
  rw [Ja (by decide)] at Qb
  have HK:=Qa (mg.kind_any (Ql.out.drew).vx (x1,x2))
  unfold cb.RetI at HK
  generalize kindV S L (x1,x2)=kv at *
  obtain ⟨t0,t1,f0,f1⟩:=Qq.out
  have S0:=And.intro Ql.out.x.c1 (And.intro t0 t1)
  go_wp2_with fail
  go_region_held3 (fun W=>W.cell? ⟨c.C,1,none⟩=some (Pq c.V)∧W.cell? ⟨G,0,none⟩=some (.int .i64 x1)∧W.cell? ⟨G,1,none⟩=some (.int .i64 x2))
   (first|with_reducible exact S0|with_reducible exact S5|assumption|go_keep)
   (first
    | (go_at_call 19;((with_reducible refine HK.out.mono ?_);rintro _ w5 ⟨rfl,hb5⟩;have Qd:=Qa (bel_step (Below.refl wx.heap.size wx).drew hb5);have Qm:=Qa (Ql.out.below Qd.out);have Qo:=Qa (Qq.out.below Qd.out);have S5:=And.intro Qm.out.x.c1 (And.intro Qo.out.c0 Qo.out.c1);clear hb5)))
  clear S0 S5 t0 t1 f0 f1
  have Qs:=Qa (same_trans Qw.out (fun b hb=>Qd.out.block b (Ql.out.lt (Qf.out.1 b hb))))
  have Qt:=Qa (Qr.out.below Qd.out)
  obtain ⟨s0,s1,v0,v1⟩:=Qt.out
  obtain ⟨t0,t1,f0,f1⟩:=Qo.out
  have Qg:=Qa (fun a b=>Qt.out.range a b)
  clear Ql Qq Qr Qw HK
  by_cases hk:kv=2
  case neg =>
   rw [Jb hk] at Qb
   have HF:=Qa (Qn.out w5 0 0 20 S T (by omega) Qb.out Qm.out Qs.out)
   have qk:(kv != 2)=true:=by simpa using hk
   clear hk
   go_wp2_with fail
   refine bodyPost_ret (mg.results_row_tmp rfl _ _ (g+1) _ _ rfl (Qg.out _ _) Tryz.underlying24 (by rfl) (by rfl)) rfl ?_
   exact HF.out
  subst hk
  rw [Ja (by decide)] at Qb
  by_cases hx:x1=0
  case neg =>
   rw [Jb hx] at Qb
   have HF:=Qa (Qn.out w5 x1 x2 0 S T (by omega) Qb.out Qm.out Qs.out)
   have qx:(x1 != 0)=true:=by simpa using hx
   clear hx
   go_wp2_with fail
   refine bodyPost_ret (mg.results_row_tmp rfl _ _ (g+1) _ _ rfl (Qg.out _ _) Tryz.underlying24 (by rfl) (by rfl)) rfl ?_
   exact HF.out
  subst hx
  rw [Ja (by decide)] at Qb
  have k0:=Qm.out.x.c0
  have HM:=Qa (Qm.out.make Xf.out d t 2 ⟨#[]⟩ Xg.out (by decide))
  generalize S.make d t 2 ⟨#[]⟩=mk at *
  obtain ⟨⟨m1,m2⟩,S2⟩:=mk
  dsimp only at HM Qb
  go_wp2_with fail
  refine HM.out.mono ?_
  rintro _ w7 ⟨rfl,hz7,hs7⟩
  have Q6:=Qa (hz7.set Qf.out.2.2.1 Qf.out.2.2.2.2 Qf.out.2.2.2.1.1 Qf.out.2.2.2.1.2 0 (.int .i64 m1))
  have Q7:=Qa (Qo.out.same (hs7 _ Qf.out.2.2.1))
  have Xh:=Qa (Q7.out.up m1)
  have Q8:=Qa (show R2 (w7.setCell ⟨G,0,none⟩ (.int .i64 m1)) (g+1) 0 0 from (Qt.out.same (hs7 _ Qf.out.2.1)).same (heap_set (by have:=Qk.out;have:=HZ.out;omega)))
  have Q9:=Qa (show Same X w (w7.setCell ⟨G,0,none⟩ (.int .i64 m1)) from same_trans (same_trans Qs.out (fun b hb=>hs7 b (Qf.out.1 b hb))) (same_set fun e=>by have:=Qh.out _ e;have:=Qk.out;have:=HZ.out;omega))
  clear s0 s1 v0 v1 t0 t1 f0 f1 k0 hz7 hs7 Qg Qm Qo Qt Qs HM
  obtain ⟨t0,t1,f0,f1⟩:=Q7.out
  go_upto_region 9 with fail
  generalize w7.setCell ⟨G,0,none⟩ (.int .i64 m1)=w8 at *
  clear t0 t1 f0 f1
  obtain ⟨s0,s1,v0,v1⟩:=Q8.out
  obtain ⟨t0,t1,f0,f1⟩:=Xh.out
  have Qg:=Qa (fun a b=>Q8.out.range a b)
  by_cases hm:m2=0
  ·subst hm
   rw [Ja (by decide)] at Qb
   have HF:=Qa (Qn.out w8 m1 x2 0 S2 (T+1) (by omega) Qb.out Q6.out Q9.out)
   go_wp2_with fail
   refine bodyPost_ret (mg.results_row_tmp rfl _ _ (g+1) _ _ rfl (Qg.out _ _) Tryz.underlying24 (by rfl) (by rfl)) rfl ?_
   exact HF.out
  ·have qm:(m2 != 0)=true:=by simpa using hm
   rw [Jb hm] at Qb
   have HF:=Qa (Qn.out w8 0 0 m2 S2 (T+1) (by omega) Qb.out Q6.out Q9.out)
   clear hm
   go_wp2_with fail
   refine bodyPost_ret (mg.results_row_tmp rfl _ _ (g+1) _ _ rfl (Qg.out _ _) Tryz.underlying24 (by rfl) (by rfl)) rfl ?_
   exact HF.out
end cu
namespace cu
open Go.RowKit Go.Deep
open br (BS Ino Inv)
open cb (BrX RetW RetI No KB KD Res HB Stab NxR Same WrI Wz)
open bl (Pq Only U8)
open mg (Vx Nd Nv Nb R2 bel_step bel_alloc kindV getV rootV set_below set2_below heap_set)
def NL (w:World) (X:Nat→Prop) (A:Option Addr) (l:List ByteArray):Prop:=∀(j:Nat) (s:ByteArray),l[j]?=some s→∃b off,A=some ⟨b,off,none⟩∧X b∧w.cell? ⟨b,off+j,none⟩=some (.string s)∧s.size≤9223372036854775807
theorem NL.same {w w':World} {X:Nat→Prop} {A:Option Addr} {l:List ByteArray} (h:NL w X A l) (hs:Same X w w'):NL w' X A l:=fun j s hj=>by
 obtain ⟨b,off,e,hb,c0,c1⟩:=h j s hj
 exact ⟨b,off,e,hb,(World.cell?_of_block (a:=⟨b,off+j,none⟩) (hs b hb)).trans c0,c1⟩
theorem NL.sub {w:World} {X Y:Nat→Prop} {A:Option Addr} {l:List ByteArray} (h:NL w X A l) (hs:∀b,X b→Y b):NL w Y A l:=fun j s hj=>by
 obtain ⟨b,off,e,hb,c⟩:=h j s hj
 exact ⟨b,off,e,hs b hb,c⟩
theorem results_tmp_row_tmp {fn:Func} {p q u:Tmp} {ty:TypeId} (h:fn.results=#[.tmp p,.cell q ty,.tmp u]) (tmps:Array Value) (w:World) (b:Nat) (cs:List Value) (d:TypeDesc)
  (hp:tmps.getD q undef=.pointer (some ⟨b,0,none⟩)) (hc:w.rangeAt b 0 cs) (hu:Tryz.prog.underlying ty=some d) (hd:d.isRow=true) (hi:(Tryz.prog.info? ty).map (·.size)=some cs.length) :
  (results fn tmps).run Tryz.prog w=.ok (.tuple #[tmps.getD p undef,.agg cs.toArray,tmps.getD u undef]) w:=by
 rw [Array.getD_eq_getD_getElem?] at hp
 simp only [results,h]
 simp [Sem.run_bind,hp,asAddr,run_loadVar_mid w b 0 ty cs d hc hu hd hi]
def DescE (w0 w:World) (c:Cp) (L:BS) (r T:Nat) (M:List Res) (X:Nat→Prop) (res:((Int×Nd)×Int)×BS) (e:Ending) (w':World):Prop :=
 e=.returned (.tuple #[.int .i64 res.1.1.1,Nv res.1.1.2,.int .i64 res.1.2])∧Zs w0 w' c res.2 L r T M X∧Same X w w'
theorem descF_drop {S L:BS} {d:Int} {a:Nd} {l:List ByteArray} {j:Nat} {t:ByteArray} (h:l[j]?=some t) :
  descF L S d a (l.drop j)=if (enterF S L d a t).1.2≠0 then (((0,(0,0)),(enterF S L d a t).1.2),(enterF S L d a t).2) else descF L (enterF S L d a t).2 (enterF S L d a t).1.1.1 (enterF S L d a t).1.1 (l.drop (j+1)):=by
 have hj:=(List.getElem?_eq_some_iff.1 h).1
 rw [List.drop_eq_getElem_cons hj,(List.getElem?_eq_some_iff.1 h).2];rfl
theorem descend_any {w0 w:World} {c:Cp} {S L:BS} {r T:Nat} {M:List Res} {X:Nat→Prop} (h:Zs w0 w c S L r T M X) {A:Option Addr} {l:List ByteArray} {cap:Nat} (hl:NL w X A l) (hn:l.length≤1000) (hT:T≤700000) :
  Calls Tryz.prog 119 #[Pq c.C,.slice A l.length cap] w (DescE w0 w c L r (T+l.length) M X (descF L S c.u (rootV S L c.u c.l) l)):=by
 obtain ⟨w1,hw1⟩:∃w1,w.alloc (.cells #[.int .i64 0,.int .i64 0] 24)=w1:=⟨_,rfl⟩
 obtain ⟨g,hg⟩:∃g,w.heap.size=g:=⟨_,rfl⟩
 have ya:Below w.heap.size w w1:=by rw [←hw1];exact bel_alloc _ _
 have da:w1.heap.size=g+1:=by rw [←hw1,←hg,World.size_alloc]
 have Qf:=Qa (h.box (Y:=fun b=>X b∨b=g) ya (fun b hb=>hb.imp id fun e=>by rw [e];omega) (.inl h.xC) (.inl h.xV))
 have Q2:=Qa (same_below h ya)
 have Qe:=Qa (show ∀b,X b→b<g from fun b hb=>hg▸h.lt hb)
 have Qc:=Qa (And.intro h.xC h.xV)
 have Q3:=Qa (show R2 w1 g 0 0 by rw [←hw1,←hg];exact R2.new w 0 0)
 have HZ:=Qa da
 have Qp:=Qa (show w0.heap.size≤g by rw [←hg];exact h.bel.size)
 have Xa:=Qa hl
 obtain ⟨m,hm⟩:∃m,l.length=m:=⟨_,rfl⟩
 have Xb:=Qa (show ∀j,j<m→∃x,l[j]?=some x from fun j hj=>⟨l[j]'(by omega),List.getElem?_eq_getElem _⟩)
 have Xc:=Qa (show T+m≤800000 by omega)
 have fa:(m:Int)≤1000:=by omega
 rw [hm]
 have Xd:=Qa hm
 have Qg:=Qa (fun W (hb:Below w1.heap.size w1 W)=>mg.root_any (Qf.out.below hb).vx)
 unfold RetW at Qg
 have Qh:=Qa (fun W (hb:Below w1.heap.size w1 W)=>show W.cell? ⟨c.C,1,none⟩=some (Pq c.V)∧W.cell? ⟨c.C,2,none⟩=some (.int .i64 c.u) from ⟨(Qf.out.below hb).x.c1,(Qf.out.below hb).x.c2⟩)
 obtain ⟨rt,hrt⟩:∃x,rootV S L c.u c.l=x:=⟨_,rfl⟩
 rw [hrt] at Qg ⊢
 obtain ⟨x1,x2⟩:=rt
 obtain ⟨res,hres⟩:∃x,descF L S c.u (x1,x2) l=x:=⟨_,rfl⟩
 have Xe:=Qa hres
 rw [hres]
 have HE:=Qa (show ∀(W:World) (dd y1 y2 er:Int) (S':BS) (T':Nat),T'≤T+m→res=(((dd,(y1,y2)),er),S')→Zs w0 W c S' L r T' M X→Same X w W→DescE w0 w c L r (T+m) M X res (.returned (.tuple #[.int .i64 dd,.agg #[.int .i64 y1,.int .i64 y2],.int .i64 er])) W from
  fun W dd y1 y2 er S' T' hT' e a b=>by rw [e];exact ⟨rfl,a.up hT',b⟩)
 obtain ⟨PQ,hPQ⟩:∃P,DescE w0 w c L r (T+m) M X res=P:=⟨_,rfl⟩
 rw [hPQ] at HE ⊢
 clear h ya da hPQ hrt hres hl hm hT hn
 obtain ⟨cC,hcC⟩:∃x,x=c.C:=⟨_,rfl⟩
 rw [←hcC]
 go_enter Tryz.func119,Tryz.ntmps119
 go_upto_region 3 with fail
 try rw [hw1]
 try rw [hg]
 clear hw1
 subst hcC
 go_cut [7,8] from 13 to 49 (fun va vb wx=>∃G,va=.int .i64 c.u∧vb=.pointer (some ⟨G,0,none⟩)∧Hid (Below w1.heap.size w1 wx)∧Hid (R2 wx G x1 x2)∧Hid (w1.heap.size≤G))
 case first =>
  have S0:=Qh.out w1 (Below.refl _ _)
  have Q4:=Qa (bel_alloc w1 (.cells #[.int .i64 0,.int .i64 0] 24))
  have Q5:=Qa (bel_step Q4.out (Below.refl _ (w1.alloc (.cells #[.int .i64 0,.int .i64 0] 24))).drew)
  have SA:=Qh.out _ Q4.out
  have Xf:=Qa (Qg.out w1.drew (Below.refl w1.heap.size w1).drew)
  have Xg:=Qa (Qg.out (w1.alloc (.cells #[.int .i64 0,.int .i64 0] 24)).drew Q5.out)
  have Xh:=Qa (show R2 (w1.alloc (.cells #[.int .i64 0,.int .i64 0] 24)).drew w1.heap.size 0 0 from (R2.new w1 0 0).below (Below.refl _ _).drew)
  clear Qf Qg
  go_region_held3 (fun W=>W.cell? ⟨c.C,1,none⟩=some (Pq c.V)∧W.cell? ⟨c.C,2,none⟩=some (.int .i64 c.u))
   (first|with_reducible exact S0|with_reducible exact S5|with_reducible exact SA|with_reducible exact ST|assumption|go_keep)
   (first
    | (go_at_call 15;((with_reducible refine Xf.out.mono ?_);rintro _ w5 ⟨rfl,hb5⟩;have Qi:=Qa (bel_step (Below.refl w1.heap.size w1).drew hb5);have S5:=Qh.out w5 Qi.out;have Xi:=Qa (show ∃G,w5.heap.size=G∧Below w1.heap.size w1 (w5.alloc (.cells #[.int .i64 x1,.int .i64 x2] 24))∧R2 (w5.alloc (.cells #[.int .i64 x1,.int .i64 x2] 24)) G x1 x2∧w1.heap.size≤G from ⟨_,rfl,bel_step Qi.out (bel_alloc _ _),R2.new w5 x1 x2,Qi.out.size⟩);clear hb5))
    | (go_at_call 15;((with_reducible refine Xg.out.mono ?_);rintro _ w5 ⟨rfl,hb5⟩;have Qi:=Qa (bel_step Q5.out hb5);have S5:=Qh.out w5 Qi.out;have Q6:=Qa (Xh.out.below hb5);obtain ⟨z0,z1,f0,f1⟩:=Q6.out;have Q7:=Qa (show Below w1.heap.size w1 ((w5.setCell ⟨w1.heap.size,0,none⟩ (.int .i64 x1)).setCell ⟨w1.heap.size,1,none⟩ (.int .i64 x2)) from set2_below Qi.out (Nat.le_refl _) _ _);have ST:=Qh.out _ Q7.out;have Xj:=Qa (R2.put Q6.out x1 x2);clear hb5)))
  all_goals
   go_wp2_with fail
   go_meet
   case rel=>first|exact ⟨_,rfl,rfl,Q7,Xj,Qa (Nat.le_refl _)⟩|(obtain ⟨G,hG,h1,h2,h3⟩:=Xi.out;subst hG;exact ⟨_,rfl,rfl,Qa h1,Qa h2,Qa h3⟩)
 case rest =>
  obtain ⟨G,rfl,rfl,Ql,Q8,Qb⟩:=hcut
  obtain ⟨wx,rfl⟩:∃x,x=wc:=⟨_,rfl⟩
  obtain ⟨Y,hY⟩:∃Y:Nat→Prop,(fun b=>X b∨b=g∨b=G)=Y:=⟨_,rfl⟩
  have ma:∀b,X b→Y b:=fun b hb=>by rw [←hY];exact .inl hb
  have xa:Y g:=by rw [←hY];exact .inr (.inl rfl)
  have ga:Y G:=by rw [←hY];exact .inr (.inr rfl)
  have qa:g≠c.C∧g≠c.V:=⟨fun e=>by have:=Qe.out _ Qc.out.1;omega,fun e=>by have:=Qe.out _ Qc.out.2;omega⟩
  have sa:G≠c.C∧G≠c.V:=⟨fun e=>by have:=Qe.out _ Qc.out.1;have:=Qb.out;have:=HZ.out;omega,fun e=>by have:=Qe.out _ Qc.out.2;have:=Qb.out;have:=HZ.out;omega⟩
  have la:w0.heap.size≤G:=by have:=Qp.out;have:=Qb.out;have:=HZ.out;omega
  have Xk:=Qa (Qf.out.box (Y:=Y) Ql.out (fun b hb=>by
   rw [←hY] at hb
   rcases hb with e|e|e
   ·exact .inl (.inl e)
   ·exact .inl (.inr e)
   ·exact .inr ⟨by rw [e];exact Qb.out,by rw [e];exact Q8.out.lt⟩) (ma _ Qc.out.1) (ma _ Qc.out.2))
  have Xl:=Qa (show Same X w wx from same_trans Q2.out (fun b hb=>Ql.out.block b (Qf.out.lt (.inl hb))))
  have Xm:=Qa (Q3.out.below Ql.out)
  have Xn:=Qa (show ∀(W:World) (dd y1 y2 er:Int) (S':BS) (T':Nat),T'≤T+m→res=(((dd,(y1,y2)),er),S')→Zs w0 W c S' L r T' M Y→Same X w W→PQ (.returned (.tuple #[.int .i64 dd,.agg #[.int .i64 y1,.int .i64 y2],.int .i64 er])) ((W.setCell ⟨g,0,none⟩ (.int .i64 y1)).setCell ⟨g,1,none⟩ (.int .i64 y2)) from
   fun W dd y1 y2 er S' T' hT' he hz hs=>HE.out _ dd y1 y2 er S' T' hT' he ((hz.set2 xa (by have:=Qp.out;omega) qa.1 qa.2 _ _).sub ma Qc.out.1 Qc.out.2)
    (same_trans (same_trans hs (same_set fun e=>by have:=Qe.out _ e;omega)) (same_set fun e=>by have:=Qe.out _ e;omega)))
  have Xo:=Qa (show ∀(W:World) (dd y1 y2 er:Int) (S':BS) (T':Nat),T'≤T+m→res=(((dd,(y1,y2)),er),S')→Zs w0 W c S' L r T' M Y→Same X w W→PQ (.returned (.tuple #[.int .i64 dd,.agg #[.int .i64 y1,.int .i64 y2],.int .i64 er])) ((W.setCell ⟨g,0,none⟩ (.int .i64 y1)).setCell ⟨g,1,none⟩ (.int .i64 y2)).drew from
   fun W dd y1 y2 er S' T' hT' he hz hs=>HE.out _ dd y1 y2 er S' T' hT' he ((hz.set2 xa (by have:=Qp.out;omega) qa.1 qa.2 _ _).drew.sub ma Qc.out.1 Qc.out.2)
    (same_trans (same_trans (same_trans hs (same_set fun e=>by have:=Qe.out _ e;omega)) (same_set fun e=>by have:=Qe.out _ e;omega)) (fun _ _=>rfl)))
  have Qd:=Qa (And.intro ma (And.intro xa (And.intro ga (And.intro sa (And.intro la (show g≠G by have:=Qb.out;have:=HZ.out;omega))))))
  have Qq:=Qa (show ∀b,X b→b≠G from fun b hb e=>by have:=Qe.out _ hb;have:=Qb.out;have:=HZ.out;omega)
  clear hY ma xa ga qa sa la Qf Q2 Q3 Qh Qg HE Ql
  go_upto_region 5 with fail
  go_loopg [7,27] m (fun gh s7 s27 wr=>∃(j:Nat) (d a1 a2:Int) (S':BS),gh+j=m∧s7=.int .i64 d∧s27=.int .i64 j∧Hid (res=descF L S' d (a1,a2) (l.drop j))∧Hid (Zs w0 wr c S' L r (T+j) M Y)∧Hid (R2 wr G a1 a2)∧Hid (R2 wr g 0 0)∧Hid (Same X w wr))
  case atStart=>exact ⟨0,c.u,x1,x2,S,by omega,rfl,rfl,Qa Xe.out.symm,Xk,Q8,Xm,Xl⟩
  case round =>
   obtain ⟨j,d,a1,a2,S',hgj,rfl,rfl,Qr,Qs,Qm,Qn,Qo⟩:=hrel
   by_cases hj:j<m
   case neg =>
    obtain rfl:j=m:=by omega
    have HF:=Qa (Xo.out wr d a1 a2 0 S' (T+j) (Nat.le_refl _) (by rw [Qr.out,List.drop_eq_nil_of_le (by rw [Xd.out];exact Nat.le_refl _)];rfl) Qs.out Qo.out)
    obtain ⟨t0,t1,f0,f1⟩:=Qm.out
    obtain ⟨s0,s1,v0,v1⟩:=Qn.out
    have Qt:=Qa (fun a b=>Qn.out.range a b)
    go_wp2_with fail
    go_region
    all_goals
     go_wp2_with fail
     refine bodyPost_ret (results_tmp_row_tmp rfl _ _ g _ _ rfl (Qt.out _ _) Tryz.underlying24 (by rfl) (by rfl)) rfl ?_
     exact HF.out
   obtain ⟨t,htj⟩:=Xb.out j hj
   obtain ⟨nb,off,hA,hnb,nc,hts⟩:=Xa.out j t htj
   subst hA
   have ba:=(World.cell?_of_block (a:=⟨nb,off+j,none⟩) (Qo.out nb hnb)).trans nc
   have kb:=Qq.out nb hnb
   have Xu:=Qa hts
   have Qj:=Qa (Qr.out.trans (descF_drop htj))
   have Qk:=Qa (enter_any Qs.out (by have:=Xc.out;omega) d (a1,a2) t hts)
   unfold EnterE at Qk
   obtain ⟨en,hen⟩:∃x,enterF S' L d (a1,a2) t=x:=⟨_,rfl⟩
   rw [hen] at Qk Qj
   clear hen nc htj Qr
   obtain ⟨⟨⟨y1,y2⟩,er⟩,S2⟩:=en
   dsimp only at Qk Qj
   obtain ⟨t0,t1,f0,f1⟩:=Qm.out
   go_wp2_with fail
   refine Qk.out.mono ?_
   rintro _ w5 ⟨rfl,hz5,hs5⟩
   have Qv:=Qa (show Zs w0 w5 c S2 L r (T+(j+1)) M Y from hz5)
   have Qw:=Qa (Qm.out.same (hs5 _ Qd.out.2.2.1))
   have Hg5:=Qa (Qn.out.same (hs5 _ Qd.out.2.1))
   have Q9:=Qa (same_trans Qo.out (fun b hb=>hs5 b (Qd.out.1 b hb)))
   clear hz5 hs5 t0 t1 f0 f1 ba Qs Qm Qn Qo Qk
   obtain ⟨w6,hw6⟩:∃w6,w5.alloc (.cells #[.int .i64 y1,.int .i64 y2] 24)=w6:=⟨_,rfl⟩
   obtain ⟨g6,hg6⟩:∃g6,w5.heap.size=g6:=⟨_,rfl⟩
   have ja:Below w5.heap.size w5 w6:=by rw [←hw6];exact bel_alloc _ _
   have Qx:=Qa (Qv.out.below ja)
   have Qy:=Qa (Qw.out.below ja)
   have Hg6:=Qa (Hg5.out.below ja)
   have Xp:=Qa (show R2 w6 g6 y1 y2 by rw [←hw6,←hg6];exact R2.new w5 y1 y2)
   have Qz:=Qa (show Same X w w6 from same_trans Q9.out (fun b hb=>ja.block b (Qv.out.lt (Qd.out.1 b hb))))
   have mb:G≠g6:=by rw [←hg6];have:=Qw.out.lt;omega
   clear Qv Qw Hg5 Q9 ja
   go_upto_region 8 with fail
   try rw [hw6]
   try rw [hg6]
   clear hw6 hg6
   obtain ⟨t0,t1,f0,f1⟩:=Qy.out
   obtain ⟨s0,s1,v0,v1⟩:=Hg6.out
   obtain ⟨k0,k1,_,_⟩:=Xp.out
   by_cases he:er=0
   case neg =>
    rw [Jb he] at Qj
    have HF:=Qa (Xn.out w6 0 0 0 er S2 (T+(j+1)) (by omega) Qj.out Qx.out Qz.out)
    have Qt:=Qa (fun a b=>Hg6.out.range a b)
    have qe:(er != 0)=true:=by simpa using he
    clear he
    go_wp2_with fail
    refine bodyPost_ret (results_tmp_row_tmp rfl _ _ g _ _ rfl (Qt.out _ _) Tryz.underlying24 (by rfl) (by rfl)) rfl ?_
    exact HF.out
   subst he
   rw [Ja (by decide)] at Qj
   have Xq:=Qa (R2.put Qy.out y1 y2)
   have Xr:=Qa (Qx.out.set2 Qd.out.2.2.1 Qd.out.2.2.2.2.1 Qd.out.2.2.2.1.1 Qd.out.2.2.2.1.2 (.int .i64 y1) (.int .i64 y2))
   have Xs:=Qa (show R2 ((w6.setCell ⟨G,0,none⟩ (.int .i64 y1)).setCell ⟨G,1,none⟩ (.int .i64 y2)) g 0 0 from (Hg6.out.same (heap_set Qd.out.2.2.2.2.2)).same (heap_set Qd.out.2.2.2.2.2))
   have Xt:=Qa (same_trans (same_trans Qz.out (same_set (g:=G) (i:=0) (a:=.int .i64 y1) fun e=>Qq.out _ e rfl)) (same_set (g:=G) (i:=1) (a:=.int .i64 y2) fun e=>Qq.out _ e rfl))
   clear Qx Qy Hg6 Qz
   go_wp2_with fail
   go_region
   all_goals
    go_wp2_with fail
    go_roundg (gk - 1)
    case measure=>omega
    case rel=>exact ⟨j+1,y1,y1,y2,S2,by omega,rfl,by go_num,Qj,Qa Xr.out.drew,Qa (Xq.out.below (Below.refl _ _).drew),Qa (Xs.out.below (Below.refl _ _).drew),Qa (same_trans Xt.out fun _ _=>rfl)⟩
end cu
end Go.Proofs.YtgoddboicjfkcaaGreat
