/- Part 27 of what is known of the program's functions and of the document's words: contracts, and the mathematics beneath them. -/
import Derived.Test.YtgoddboicjfkcaaGreatProg
import Derived.Test.YtgoddboicjfkcaaGreatZ25
import Derived.Test.YtgoddboicjfkcaaGreatZ26
import Derived.Test.YtgoddboicjfkcaaGreatZ22
set_option linter.unusedVariables false
set_option linter.unusedSimpArgs false
set_option maxRecDepth 100000
set_option maxHeartbeats 8000000
namespace Go.Proofs.YtgoddboicjfkcaaGreat.cb
open Go.RowKit
open br
open bl (AB Only Pq U8 WR StoC)
abbrev Res:=World→(Nat→Prop)→Prop
structure Stab (w0:World) (r:Res):Prop where
 own:∀ (w:World) (O:Nat→Prop),r w O→∀ b,O b→w0.heap.size≤b∧b<w.heap.size
 keep:∀ (w w':World) (O:Nat→Prop),r w O→Only (fun b=>¬ O b) w w'→r w' O
def NxR (w w':World) (r':Res) (O:Nat→Prop):Prop:=∃ O':Nat→Prop,r' w' O'∧(∀ b,O' b→O b∨w.heap.size≤b)∧Only O w w'
structure Sys (w0 w:World) (L:List Res) (X:Nat→Prop):Prop where
 bel:Below w0.heap.size w0 w
 stab:∀ (i:Nat) (r:Res),L[i]?=some r→Stab w0 r
 tag:∃ g:Nat→Nat,(∀ (i:Nat) (r:Res),L[i]?=some r→r w (fun b=>g b=i+1))∧(∀ b,w.heap.size≤b→g b=0)∧∀ b,X b→b<w.heap.size∧g b=0
section
variable {w0 w w':World} {L:List Res} {X Y F:Nat→Prop} {r r':Res} {i:Nat}
theorem only_below (h:Below w.heap.size w w'):Only F w w':=⟨h.os,h.tape,h.output,h.size,fun k hk _=>h.block k hk⟩
theorem owk {G:Nat→Prop} (h:Only F w w') (hg:∀ b,b<w.heap.size→F b→G b):Only G w w':=⟨h.os,h.tape,h.output,h.size,fun k hk hn=>h.block k hk fun e=>hn (hg k hk e)⟩
theorem below_only (hb:Below w0.heap.size w0 w) (h:Only F w w') (hF:∀ b,F b→w0.heap.size≤b):Below w0.heap.size w0 w' :=
 hb.trans ⟨h.os,h.tape,h.output,h.size,fun k hk=>h.block k (Nat.lt_of_lt_of_le hk hb.size) fun e=>by have:=hF k e;omega⟩
theorem Sys.lt (h:Sys w0 w L X) {b:Nat} (hb:X b):b<w.heap.size:=by obtain ⟨g,_,_,h2⟩:=h.tag;exact (h2 b hb).1
theorem Sys.nil (hb:Below w0.heap.size w0 w):Sys w0 w [] (fun b=>b<w.heap.size) :=
 ⟨hb,fun _ _ h=>by simp at h,fun _=>0,fun _ _ h=>by simp at h,fun _ _=>rfl,fun b hb=>⟨hb,rfl⟩⟩
theorem Sys.sub (h:Sys w0 w L X) (hY:∀ b,Y b→X b):Sys w0 w L Y:=by
 obtain ⟨g,h1,h3,h2⟩:=h.tag
 exact ⟨h.bel,h.stab,g,h1,h3,fun b hb=>h2 b (hY b hb)⟩
theorem Sys.turn (h:Sys w0 w L X) (ho:Only F w w') (hF:∀ b,F b→X b∧w0.heap.size≤b) (hY:∀ b,Y b→X b∨(w.heap.size≤b∧b<w'.heap.size)):Sys w0 w' L Y:=by
 obtain ⟨g,h1,h3,h2⟩:=h.tag
 refine ⟨below_only h.bel ho fun b hb=>(hF b hb).2,h.stab,g,fun i r hi=>?_,fun b hb=>h3 b (Nat.le_trans ho.size hb),fun b hb=>?_⟩
 ·refine (h.stab i r hi).keep w w' _ (h1 i r hi) (owk ho fun b hb hf e=>?_)
  have:=(h2 b (hF b hf).1).2
  omega
 ·rcases hY b hb with h4|⟨h4,h5⟩
  ·exact ⟨Nat.lt_of_lt_of_le (h2 b h4).1 ho.size,(h2 b h4).2⟩
  ·exact ⟨h5,h3 b h4⟩
theorem Sys.box (h:Sys w0 w L X) (hb:Below w.heap.size w w') (hY:∀ b,Y b→X b∨(w.heap.size≤b∧b<w'.heap.size)):Sys w0 w' L Y :=
 h.turn (F:=fun _=>False) (only_below hb) (fun _ e=>e.elim) hY
theorem Sys.below (h:Sys w0 w L X) (hb:Below w.heap.size w w'):Sys w0 w' L X:=h.box hb fun _ e=>.inl e
theorem Sys.ask {p:Prop} (h:Sys w0 w L X) (hi:L[i]?=some r) (hp:∀ O,r w O→p):p:=by obtain ⟨g,h1,_⟩:=h.tag;exact hp _ (h1 i r hi)
theorem set_get {i j:Nat} {s:Res} (h:(L.set i r')[j]?=some s):(j=i∧s=r')∨(j≠i∧L[j]?=some s):=by
 by_cases e:i=j
 ·subst e
  rw [List.getElem?_set] at h
  by_cases hl:i<L.length
  ·simp [hl] at h;exact .inl ⟨rfl,h.symm⟩
  ·simp [hl] at h
 ·rw [List.getElem?_set_ne e] at h
  exact .inr ⟨fun e2=>e e2.symm,h⟩
theorem sys_core {g:Nat→Nat} (h:Sys w0 w L X) (h1:∀ (i:Nat) (r:Res),L[i]?=some r→r w (fun b=>g b=i+1)) (h3:∀ b,w.heap.size≤b→g b=0) (h2:∀ b,X b→b<w.heap.size∧g b=0)
  (hi:L[i]?=some r) (hs:Stab w0 r') (k:NxR w w' r' (fun b=>g b=i+1)):Sys w0 w' (L.set i r') X∧Same X w w':=by
 classical
 obtain ⟨O',k1,k2,k3⟩:=k
 have hown:=(h.stab i r hi).own w _ (h1 i r hi)
 have hO':=hs.own w' O' k1
 have hg:∀ j s,j≠i→L[j]?=some s→∀ b,(if O' b then i+1 else if b<w.heap.size∧g b≠i+1 then g b else 0)=j+1↔g b=j+1:=fun j s hj hs b=>by
  have ho:=(h.stab j s hs).own w _ (h1 j s hs) b
  by_cases e1:O' b
  ·rw [if_pos e1]
   refine ⟨fun e=>absurd (Nat.succ.inj e).symm hj,fun e=>?_⟩
   have:=(ho e).2
   rcases k2 b e1 with e2|e2 <;> omega
  ·rw [if_neg e1]
   by_cases e2:b<w.heap.size∧g b≠i+1
   ·rw [if_pos e2]
   ·rw [if_neg e2]
    refine ⟨fun e=>by omega,fun e=>?_⟩
    have:=(ho e).2
    exact absurd ⟨this,by omega⟩ e2
 refine ⟨⟨below_only h.bel k3 fun b hb=>(hown b hb).1,fun j s hj=>?_,fun b=>if O' b then i+1 else if b<w.heap.size∧g b≠i+1 then g b else 0,fun j s hj=>?_,fun b hb=>?_,fun b hb=>?_⟩,fun b hb=>?_⟩
 ·rcases set_get hj with ⟨_,rfl⟩|⟨_,e⟩
  ·exact hs
  ·exact h.stab j s e
 ·rcases set_get hj with ⟨rfl,rfl⟩|⟨hne,e⟩
  ·have:(fun b=>(if O' b then j+1 else if b<w.heap.size∧g b≠j+1 then g b else 0)=j+1)=O':=by
    funext b
    refine propext ⟨fun e=>?_,fun e=>by rw [if_pos e]⟩
    by_cases e1:O' b
    ·exact e1
    ·rw [if_neg e1] at e
     by_cases e2:b<w.heap.size∧g b≠j+1
     ·rw [if_pos e2] at e;exact absurd e e2.2
     ·rw [if_neg e2] at e;omega
   rw [this];exact k1
  ·have:(fun b=>(if O' b then i+1 else if b<w.heap.size∧g b≠i+1 then g b else 0)=j+1)=fun b=>g b=j+1:=funext fun b=>propext (hg j s hne e b)
   rw [this]
   refine (h.stab j s e).keep w w' _ (h1 j s e) (owk k3 fun b hb hO e2=>?_)
   omega
 ·have e1:¬ O' b:=fun e=>by have:=(hO' b e).2;omega
  show (if O' b then i+1 else if b<w.heap.size∧g b≠i+1 then g b else 0)=0
  rw [if_neg e1,if_neg (fun e=>by have:=k3.size;omega)]
 ·obtain ⟨h4,h5⟩:=h2 b hb
  refine ⟨Nat.lt_of_lt_of_le h4 k3.size,?_⟩
  show (if O' b then i+1 else if b<w.heap.size∧g b≠i+1 then g b else 0)=0
  have e1:¬ O' b:=fun e=>by
   rcases k2 b e with e2|e2
   ·omega
   ·omega
  rw [if_neg e1,if_pos ⟨h4,by omega⟩,h5]
 ·obtain ⟨h4,h5⟩:=h2 b hb
  exact k3.block b h4 fun e=>by omega
theorem Sys.call {f:Nat} {args:Array Value} {v:Value} (h:Sys w0 w L X) (hi:L[i]?=some r) (hs:Stab w0 r')
  (hc:∀ O,r w O→Calls Tryz.prog f args w (fun e w'=>e=.returned v∧NxR w w' r' O)) :
  Calls Tryz.prog f args w (fun e w'=>e=.returned v∧Sys w0 w' (L.set i r') X∧Same X w w'):=by
 obtain ⟨g,h1,h3,h2⟩:=h.tag
 exact (hc _ (h1 i r hi)).mono fun e w' ⟨he,hx⟩=>⟨he,sys_core h h1 h3 h2 hi hs hx⟩
theorem Sys.callE {ι:Type} {p:ι→Prop} {v:ι→Value} {q:ι→Res} {f:Nat} {args:Array Value} (h:Sys w0 w L X) (hi:L[i]?=some r) (hs:∀ z,p z→Stab w0 (q z))
  (hc:∀ O,r w O→(∀ b,X b→b<w.heap.size∧¬ O b)→Calls Tryz.prog f args w (fun e w'=>∃ z,p z∧e=.returned (v z)∧NxR w w' (q z) O)) :
  Calls Tryz.prog f args w (fun e w'=>∃ z,p z∧e=.returned (v z)∧Sys w0 w' (L.set i (q z)) X∧Same X w w'):=by
 obtain ⟨g,h1,h3,h2⟩:=h.tag
 refine (hc _ (h1 i r hi) fun b hb=>⟨(h2 b hb).1,fun e=>?_⟩).mono fun e w' ⟨z,hz,he,hx⟩=>⟨z,hz,he,sys_core h h1 h3 h2 hi (hs z hz) hx⟩
 have:=(h2 b hb).2
 omega
theorem Sys.weak (h:Sys w0 w L X) (hi:L[i]?=some r) (hs:Stab w0 r') (hr:∀ O,r w O→r' w O):Sys w0 w (L.set i r') X:=by
 obtain ⟨g,h1,h3,h2⟩:=h.tag
 refine ⟨h.bel,fun j s hj=>?_,g,fun j s hj=>?_,h3,h2⟩
 ·rcases set_get hj with ⟨_,rfl⟩|⟨_,e⟩
  ·exact hs
  ·exact h.stab j s e
 ·rcases set_get hj with ⟨rfl,rfl⟩|⟨_,e⟩
  ·exact hr _ (h1 j r hi)
  ·exact h1 j s e
theorem Sys.add {O:Nat→Prop} (h:Sys w0 w L X) (hb:Below w.heap.size w w') (hs:Stab w0 r) (hr:r w' O) (hO:∀ b,O b→w.heap.size≤b):Sys w0 w' (L++[r]) X:=by
 classical
 obtain ⟨g,h1,h3,h2⟩:=h.tag
 have hl:=(hs.own w' O hr)
 have hg:∀ j b,j<L.length→((if O b then L.length+1 else if g b≤L.length then g b else 0)=j+1↔g b=j+1):=fun j b hj=>by
  by_cases e:O b
  ·rw [if_pos e,h3 b (hO b e)];omega
  ·rw [if_neg e]
   by_cases e2:g b≤L.length
   ·rw [if_pos e2]
   ·rw [if_neg e2];omega
 have hget:∀ j s,(L++[r])[j]?=some s→(j<L.length∧L[j]?=some s)∨(j=L.length∧s=r):=fun j s hj=>by
  rcases Nat.lt_or_ge j L.length with h4|h4
  ·rw [List.getElem?_append_left h4] at hj;exact .inl ⟨h4,hj⟩
  ·rw [List.getElem?_append_right h4] at hj
   cases e:j - L.length with
   | zero=>rw [e] at hj;simp at hj;exact .inr ⟨by omega,hj.symm⟩
   | succ m=>rw [e] at hj;simp at hj
 refine ⟨h.bel.trans (hb.mono h.bel.size),fun j s hj=>?_,fun b=>if O b then L.length+1 else if g b≤L.length then g b else 0,fun j s hj=>?_,fun b hb'=>?_,fun b hb'=>?_⟩
 ·rcases hget j s hj with ⟨_,e⟩|⟨_,rfl⟩
  ·exact h.stab j s e
  ·exact hs
 ·rcases hget j s hj with ⟨h4,e⟩|⟨rfl,rfl⟩
  ·have:(fun b=>(if O b then L.length+1 else if g b≤L.length then g b else 0)=j+1)=fun b=>g b=j+1:=funext fun b=>propext (hg j b h4)
   rw [this]
   exact (h.stab j s e).keep w w' _ (h1 j s e) (only_below hb)
  ·have:(fun b=>(if O b then L.length+1 else if g b≤L.length then g b else 0)=L.length+1)=O:=by
    funext b
    refine propext ⟨fun e=>?_,fun e=>by rw [if_pos e]⟩
    by_cases e1:O b
    ·exact e1
    ·rw [if_neg e1] at e
     split at e <;> omega
   rw [this];exact hr
 ·have e1:¬ O b:=fun e=>by have:=(hl b e).2;omega
  show (if O b then L.length+1 else if g b≤L.length then g b else 0)=0
  rw [if_neg e1,h3 b (Nat.le_trans hb.size hb')]
  rfl
 ·obtain ⟨h4,h5⟩:=h2 b hb'
  have e1:¬ O b:=fun e=>by have:=hO b e;omega
  refine ⟨Nat.lt_of_lt_of_le h4 hb.size,?_⟩
  show (if O b then L.length+1 else if g b≤L.length then g b else 0)=0
  rw [if_neg e1,h5];rfl
end
def KB (w0:World) (P:Nat) (S:BS) (room T:Nat):Res:=fun w O =>
 ∃ st qb qo pl tag Tq,CB w P w0.heap.size st qb qo pl tag S room (freeL S) Tq∧Tq≤199+T∧br.Good S room∧room≤65536∧HB S T∧∀ b,O b↔tag b≠0
def KD (w0:World) (D RS:Nat) (S:BS) (room:Nat):Res:=fun w O=>∃ pl tg,DB w D w0.heap.size RS pl tg S room∧∀ b,O b↔tg b≠0
section
variable {w0 w w':World} {P D RS room T:Nat} {S S':BS} {O X:Nat→Prop} {v:Value} {e:Ending}
theorem KB.stab:Stab w0 (KB w0 P S room T) where
 own:=fun w O ⟨st,qb,qo,pl,tag,Tq,h1,_,_,_,_,h6⟩ b hb=>⟨h1.ge ((h6 b).1 hb),h1.lt ((h6 b).1 hb)⟩
 keep:=fun w w' O ⟨st,qb,qo,pl,tag,Tq,h1,h2,h3,h4,h5,h6⟩ ho =>
  ⟨st,qb,qo,pl,tag,Tq,h1.only ho (fun b hb=>Classical.byContradiction fun e=>hb ((h6 b).2 e)),h2,h3,h4,h5,h6⟩
theorem KD.stab:Stab w0 (KD w0 D RS S room) where
 own:=fun w O ⟨pl,tg,h1,h6⟩ b hb=>⟨(h1.lt ((h6 b).1 hb)).2,(h1.lt ((h6 b).1 hb)).1⟩
 keep:=fun w w' O ⟨pl,tg,h1,h6⟩ ho =>
  ⟨pl,tg,h1.keepSame (fun b hb=>ho.block b (h1.lt hb).1 fun e=>e ((h6 b).2 hb)),h6⟩
theorem KB.brx (h:KB w0 P S room T w O) (hb:Below w0.heap.size w0 w):BrX w0 w P (fun b=>b<w.heap.size∧¬ O b) S room T:=by
 obtain ⟨st,qb,qo,pl,tag,Tq,h1,h2,h3,h4,h5,h6⟩:=h
 exact ⟨st,qb,qo,pl,tag,Tq,h1,h2,h3,h4,h5,hb,fun b hb=>⟨hb.1,Classical.byContradiction fun e=>hb.2 ((h6 b).2 e)⟩⟩
theorem KB.good (h:KB w0 P S room T w O):br.Good S room:=by obtain ⟨_,_,_,_,_,_,_,_,h3,_⟩:=h;exact h3
theorem KB.up {T':Nat} (hT:T≤T') (h:KB w0 P S room T w O):KB w0 P S room T' w O:=by
 obtain ⟨st,qb,qo,pl,tag,Tq,h1,h2,h3,h4,h5,h6⟩:=h
 exact ⟨st,qb,qo,pl,tag,Tq,h1,by omega,h3,h4,h5.mono (by omega),h6⟩
theorem KB.next {st qb:Nat} {qo:Option Nat} {pl:Nat→Pl} {tag:Nat→Nat} {Tq:Nat} (h2:Tq≤199+T) (h4:room≤65536) (h6:∀ b,O b↔tag b≠0)
  (hx:RetG w P w0.heap.size st qb tag v S' room Tq e w') (hG:br.Good S' room) (hH:HB S' ((T:Int)+1)):e=.returned v∧NxR w w' (KB w0 P S' room (T+1)) O:=by
 obtain ⟨he,qo',pl',tag',T',hT,k1,k2⟩:=hx
 refine ⟨he,fun b=>tag' b≠0,⟨st,qb,qo',pl',tag',T',k1,by omega,hG,h4,by simpa using hH,fun b=>Iff.rfl⟩,fun b hb=>?_,owk k2.o fun b _ hb=>(h6 b).2 hb⟩
 rcases Nat.lt_or_ge b w.heap.size with h7|h7
 ·exact .inl ((h6 b).2 (by rw [← k2.tg b h7];exact hb))
 ·exact .inr h7
theorem KD.next {pl:Nat→Pd} {tg:Nat→Nat} (h6:∀ b,O b↔tg b≠0) (hx:RetD w D w0.heap.size RS tg v S' room e w'):e=.returned v∧NxR w w' (KD w0 D RS S' room) O:=by
 obtain ⟨he,pl',tag',k1,k2⟩:=hx
 refine ⟨he,fun b=>tag' b≠0,⟨pl',tag',k1,fun b=>Iff.rfl⟩,fun b hb=>?_,owk k2.o fun b _ hb=>(h6 b).2 hb⟩
 rcases Nat.lt_or_ge b w.heap.size with h7|h7
 ·exact .inl ((h6 b).2 (by rw [← k2.tg b h7];exact hb))
 ·exact .inr h7
theorem kd_make (h:KD w0 D RS S room w O) (hG:br.Good S room) (hr:room≤65536) (hb:∀ k,(S.ino k).holds≤900000) (d:Int) (s:ByteArray) (k:Int) (t:ByteArray) (hm:s.size≤9223372036854775807) (hmt:t.size≤9223372036854775807) :
  Calls Tryz.prog 34 #[Pq D,.int .i64 d,.string s,.int .i64 k,.string t] w (fun e w'=>e=.returned (.tuple #[.int .i64 (S.make d s k t).1.1,.int .i64 (S.make d s k t).1.2])∧NxR w w' (KD w0 D RS (S.make d s k t).2 room) O):=by
 obtain ⟨pl,tg,h1,h6⟩:=h
 exact (q_make h1 hG d s k t hm hmt).mono fun _ _ hx=>KD.next (pl:=pl) h6 hx
abbrev Wz:=Nat×Int×BS
theorem kb_write (h:KB w0 P S room T w O) (hX:∀ b,X b→b<w.heap.size∧¬ O b) (i off:Int) (A:Option Addr) (len dc:Nat) (f:Nat→UInt8) (hA:∀ j,j<len→∃ b o,A=some ⟨b,o,none⟩∧X b∧w.cell? ⟨b,o+j,none⟩=some (U8 (f j))) (hlc:len≤dc) (hdc:dc≤maxLen) :
  Calls Tryz.prog 39 #[Pq P,.int .i64 i,.int .i64 off,.slice A len dc] w (fun e w'=>∃ z:Wz,WrI S room i off len f z.1 z.2.1 z.2.2∧e=.returned (.tuple #[.int .i64 (z.1:Int),.int .i64 z.2.1])∧NxR w w' (KB w0 P z.2.2 room (T+1)) O):=by
 obtain ⟨st,qb,qo,pl,tag,Tq,h1,h2,h3,h4,h5,h6⟩:=h
 refine (write_any h1 h3 h4 i off A len dc f (fun j hj=>?_) hlc hdc).mono fun _ _ ⟨p,err,S',hw,hx⟩=>⟨(p,err,S'),hw,KB.next (qo:=qo) (pl:=pl) h2 h4 h6 hx (Good_wr h3 hw) ?_⟩
 ·obtain ⟨b,o,e,hb,hc⟩:=hA j hj
  exact ⟨b,o,e,fun hn=>(hX b hb).2 ((h6 b).2 hn),(hX b hb).1,hc⟩
 ·rcases hw with ⟨_,_,_,rfl⟩|⟨_,_,_,_,rfl⟩
  ·exact h5.mono (by omega)
  ·exact (h5.wrote i off p f).mono (by omega)
theorem KB.made {P:Nat} (h:BrX w0 w' P (fun b=>b<w.heap.size) S room T):∃ O,KB w0 P S room T w' O∧∀ b,O b→w.heap.size≤b:=by
 obtain ⟨st,qb,qo,pl,tag,Tq,h1,h2,h3,h4,h5,_,h7⟩:=h
 exact ⟨fun b=>tag b≠0,⟨st,qb,qo,pl,tag,Tq,h1,h2,h3,h4,h5,fun _=>Iff.rfl⟩,fun b hb=>Nat.le_of_not_lt fun e=>hb (h7 b e).2⟩
end
end Go.Proofs.YtgoddboicjfkcaaGreat.cb
namespace Go.Proofs.YtgoddboicjfkcaaGreat.cu
open Go.RowKit
open br (BS Ino Inv)
open cb (BrX RetW RetI No KB KD Res HB Stab NxR Same WrI Wz)
open bl (Pq Only U8)
open mg (Vx Nd Nb R2 bel_step bel_alloc)
section
variable {w0 w w':World} {P D RS room T:Nat} {S S':BS} {O X:Nat→Prop} {v:Value} {e:Ending}
theorem kx_make (h:KB w0 P S room T w O) (hT:T≤800000) (d:Int) (s:ByteArray) (k:Int) (t:ByteArray) (hm:s.size≤9223372036854775807) (hmt:t.size≤9223372036854775807) :
  Calls Tryz.prog 33 #[Pq P,.int .i64 d,.string s,.int .i64 k,.string t] w (fun e w'=>e=.returned (.tuple #[.int .i64 (S.make d s k t).1.1,.int .i64 (S.make d s k t).1.2])∧NxR w w' (KB w0 P (S.make d s k t).2 room (T+1)) O):=by
 obtain ⟨st,qb,qo,pl,tag,Tq,h1,h2,h3,h4,h5,h6⟩:=h
 exact (cb.make_any h1 h3 (by omega) d s k t hm hmt).mono fun _ _ hx=>KB.next (qo:=qo) (pl:=pl) h2 h4 h6 hx (h3.make d s k t) ((h5.make (by omega) d s k t).mono (by omega))
theorem kx_unlink (h:KB w0 P S room T w O) (hT:T≤800000) (d:Int) (s:ByteArray) :
  Calls Tryz.prog 35 #[Pq P,.int .i64 d,.string s] w (fun e w'=>e=.returned (.int .i64 (S.unlink d s).1)∧NxR w w' (KB w0 P (S.unlink d s).2 room (T+1)) O):=by
 obtain ⟨st,qb,qo,pl,tag,Tq,h1,h2,h3,h4,h5,h6⟩:=h
 exact (cb.unlink_any h1 h3 h4 (by omega) d s).mono fun _ _ hx=>KB.next (qo:=qo) (pl:=pl) h2 h4 h6 (cb.RetG.of hx) (h3.unlink d s) ((h5.unlink (by omega) d s).mono (by omega))
theorem kx_rename (h:KB w0 P S room T w O) (hT:T≤800000) (d:Int) (s:ByteArray) (t:Int) (u:ByteArray) (hm:u.size≤9223372036854775807) :
  Calls Tryz.prog 66 #[Pq P,.int .i64 d,.string s,.int .i64 t,.string u] w (fun e w'=>e=.returned (.int .i64 (S.rename d s t u).1)∧NxR w w' (KB w0 P (S.rename d s t u).2 room (T+1)) O):=by
 obtain ⟨st,qb,qo,pl,tag,Tq,h1,h2,h3,h4,h5,h6⟩:=h
 exact (cb.rename_any h1 h3 h4 (by omega) d s t u hm).mono fun _ _ hx=>KB.next (qo:=qo) (pl:=pl) h2 h4 h6 hx (h3.rename d s t u) ((h5.rename (by omega) d s t u).mono (by omega))
theorem kx_cut (h:KB w0 P S room T w O) (i off:Int) :
  Calls Tryz.prog 218 #[Pq P,.int .i64 i,.int .i64 off] w (fun e w'=>e=.returned (.int .i64 (S.cutI i off).1)∧NxR w w' (KB w0 P (S.cutI i off).2 room (T+1)) O):=by
 obtain ⟨st,qb,qo,pl,tag,Tq,h1,h2,h3,h4,h5,h6⟩:=h
 exact (cb.cut_any h1 h3 h4 i off).mono fun _ _ hx=>KB.next (qo:=qo) (pl:=pl) h2 h4 h6 hx (cb.Good_cutI h3 i off) ((h5.cutI i off).mono (by omega))
end
structure Cp where
 C:Nat
 V:Nat
 P1:Nat
 P2:Nat
 u:Int
 l:Int
 wk:Int
structure Cx (w:World) (c:Cp):Prop where
 c0:w.cell? ⟨c.C,0,none⟩=some (Pq c.P1)
 c1:w.cell? ⟨c.C,1,none⟩=some (Pq c.V)
 c2:w.cell? ⟨c.C,2,none⟩=some (.int .i64 c.u)
 c3:w.cell? ⟨c.C,3,none⟩=some (.int .i64 c.wk)
 v0:w.cell? ⟨c.V,0,none⟩=some (Pq c.P1)
 v1:w.cell? ⟨c.V,1,none⟩=some (Pq c.P2)
 v2:w.cell? ⟨c.V,2,none⟩=some (.int .i64 c.u)
 v3:w.cell? ⟨c.V,3,none⟩=some (.int .i64 c.l)
theorem Cx.same {w w':World} {c:Cp} (h:Cx w c) (e1:w'.heap[c.C]?=w.heap[c.C]?) (e2:w'.heap[c.V]?=w.heap[c.V]?):Cx w' c :=
 ⟨(World.cell?_of_block (a:=⟨c.C,0,none⟩) e1).trans h.c0,(World.cell?_of_block (a:=⟨c.C,1,none⟩) e1).trans h.c1,(World.cell?_of_block (a:=⟨c.C,2,none⟩) e1).trans h.c2,(World.cell?_of_block (a:=⟨c.C,3,none⟩) e1).trans h.c3,
  (World.cell?_of_block (a:=⟨c.V,0,none⟩) e2).trans h.v0,(World.cell?_of_block (a:=⟨c.V,1,none⟩) e2).trans h.v1,(World.cell?_of_block (a:=⟨c.V,2,none⟩) e2).trans h.v2,(World.cell?_of_block (a:=⟨c.V,3,none⟩) e2).trans h.v3⟩
structure Zs (w0 w:World) (c:Cp) (S L:BS) (r T:Nat) (M:List Res) (X:Nat→Prop):Prop where
 s:cb.Sys w0 w (KB w0 c.P1 S r T::KB w0 c.P2 L 65536 1000::M) X
 x:Cx w c
 xC:X c.C
 xV:X c.V
section
variable {w0 w w':World} {c:Cp} {S S' L:BS} {r T T':Nat} {M:List Res} {X Y:Nat→Prop} {f:Nat} {args:Array Value} {v:Value}
theorem Zs.bel (h:Zs w0 w c S L r T M X):Below w0.heap.size w0 w:=h.s.bel
theorem Zs.lt (h:Zs w0 w c S L r T M X) {b:Nat} (hb:X b):b<w.heap.size:=h.s.lt hb
theorem Zs.box (h:Zs w0 w c S L r T M X) (hb:Below w.heap.size w w') (hY:∀ b,Y b→X b∨(w.heap.size≤b∧b<w'.heap.size)) (hC:Y c.C) (hV:Y c.V):Zs w0 w' c S L r T M Y :=
 ⟨h.s.box hb hY,h.x.same (hb.block _ (h.lt h.xC)) (hb.block _ (h.lt h.xV)),hC,hV⟩
theorem Zs.below (h:Zs w0 w c S L r T M X) (hb:Below w.heap.size w w'):Zs w0 w' c S L r T M X:=h.box hb (fun _ e=>.inl e) h.xC h.xV
theorem Zs.drew (h:Zs w0 w c S L r T M X):Zs w0 w.drew c S L r T M X:=h.below (Below.refl w.heap.size w).drew
theorem Zs.sub (h:Zs w0 w c S L r T M X) (hY:∀ b,Y b→X b) (hC:Y c.C) (hV:Y c.V):Zs w0 w c S L r T M Y:=⟨h.s.sub hY,h.x,hC,hV⟩
theorem Zs.up (h:Zs w0 w c S L r T M X) (hT:T≤T'):Zs w0 w c S L r T' M X :=
 ⟨h.s.weak (i:=0) (r:=KB w0 c.P1 S r T) rfl KB.stab fun O k=>k.up hT,h.x,h.xC,h.xV⟩
theorem Zs.good1 (h:Zs w0 w c S L r T M X):br.Good S r:=h.s.ask (i:=0) rfl fun O k=>KB.good k
theorem Zs.good2 (h:Zs w0 w c S L r T M X):br.Good L 65536:=h.s.ask (i:=1) rfl fun O k=>KB.good k
theorem Zs.brx1 (h:Zs w0 w c S L r T M X):BrX w0 w c.P1 No S r T:=h.s.ask (i:=0) rfl fun O k=>(KB.brx k h.bel).forget
theorem Zs.brx2 (h:Zs w0 w c S L r T M X):BrX w0 w c.P2 No L 65536 1000:=h.s.ask (i:=1) rfl fun O k=>(KB.brx k h.bel).forget
theorem Zs.vx (h:Zs w0 w c S L r T M X):Vx w c.V c.P1 c.P2 c.u c.l S L:=⟨h.x.v0,h.x.v1,h.x.v2,h.x.v3,⟨_,_,_,h.brx1⟩,⟨_,_,_,h.brx2⟩⟩
theorem Zs.next (h:Zs w0 w c S L r T M X) (hs:Same X w w') (h2:cb.Sys w0 w' (KB w0 c.P1 S' r T'::KB w0 c.P2 L 65536 1000::M) X):Zs w0 w' c S' L r T' M X :=
 ⟨h2,h.x.same (hs _ h.xC) (hs _ h.xV),h.xC,h.xV⟩
theorem Zs.call (h:Zs w0 w c S L r T M X) (hc:∀ O,(KB w0 c.P1 S r T) w O→Calls Tryz.prog f args w (fun e w'=>e=.returned v∧NxR w w' (KB w0 c.P1 S' r T') O)) :
  Calls Tryz.prog f args w (fun e w'=>e=.returned v∧Zs w0 w' c S' L r T' M X∧Same X w w') :=
 (cb.Sys.call h.s (i:=0) rfl KB.stab hc).mono fun e w' ⟨a,b,d⟩=>⟨a,h.next d b,d⟩
theorem Zs.make (h:Zs w0 w c S L r T M X) (hT:T≤800000) (d:Int) (s:ByteArray) (k:Int) (t:ByteArray) (hm:s.size≤9223372036854775807) (hmt:t.size≤9223372036854775807) :
  Calls Tryz.prog 33 #[Pq c.P1,.int .i64 d,.string s,.int .i64 k,.string t] w (fun e w'=>e=.returned (.tuple #[.int .i64 (S.make d s k t).1.1,.int .i64 (S.make d s k t).1.2])∧Zs w0 w' c (S.make d s k t).2 L r (T+1) M X∧Same X w w') :=
 h.call fun O k'=>kx_make k' hT d s k t hm hmt
theorem Zs.unlink (h:Zs w0 w c S L r T M X) (hT:T≤800000) (d:Int) (s:ByteArray) :
  Calls Tryz.prog 35 #[Pq c.P1,.int .i64 d,.string s] w (fun e w'=>e=.returned (.int .i64 (S.unlink d s).1)∧Zs w0 w' c (S.unlink d s).2 L r (T+1) M X∧Same X w w') :=
 h.call fun O k'=>kx_unlink k' hT d s
theorem Zs.rename (h:Zs w0 w c S L r T M X) (hT:T≤800000) (d:Int) (s:ByteArray) (t:Int) (u:ByteArray) (hm:u.size≤9223372036854775807) :
  Calls Tryz.prog 66 #[Pq c.P1,.int .i64 d,.string s,.int .i64 t,.string u] w (fun e w'=>e=.returned (.int .i64 (S.rename d s t u).1)∧Zs w0 w' c (S.rename d s t u).2 L r (T+1) M X∧Same X w w') :=
 h.call fun O k'=>kx_rename k' hT d s t u hm
theorem Zs.cut (h:Zs w0 w c S L r T M X) (i off:Int) :
  Calls Tryz.prog 218 #[Pq c.P1,.int .i64 i,.int .i64 off] w (fun e w'=>e=.returned (.int .i64 (S.cutI i off).1)∧Zs w0 w' c (S.cutI i off).2 L r (T+1) M X∧Same X w w') :=
 h.call fun O k'=>kx_cut k' i off
theorem Zs.write (h:Zs w0 w c S L r T M X) (i off:Int) (A:Option Addr) (len dc:Nat) (g:Nat→UInt8) (hA:∀ j,j<len→∃ b o,A=some ⟨b,o,none⟩∧X b∧w.cell? ⟨b,o+j,none⟩=some (U8 (g j))) (hlc:len≤dc) (hdc:dc≤maxLen) :
  Calls Tryz.prog 39 #[Pq c.P1,.int .i64 i,.int .i64 off,.slice A len dc] w (fun e w'=>∃ z:Wz,WrI S r i off len g z.1 z.2.1 z.2.2∧e=.returned (.tuple #[.int .i64 (z.1:Int),.int .i64 z.2.1])∧Zs w0 w' c z.2.2 L r (T+1) M X∧Same X w w') :=
 (cb.Sys.callE (q:=fun z:Wz=>KB w0 c.P1 z.2.2 r (T+1)) h.s (i:=0) rfl (fun _ _=>KB.stab) fun O k hX=>cb.kb_write k hX i off A len dc g hA hlc hdc).mono fun e w' ⟨z,a,b,d,k⟩=>⟨z,a,b,h.next k d,k⟩
theorem Zs.turn (h:Zs w0 w c S L r T M X) {g:Nat} (hg:X g) (h0:w0.heap.size≤g) (hC:g≠c.C) (hV:g≠c.V) (ho:Only (fun b=>b=g) w w'):Zs w0 w' c S L r T M X :=
 ⟨h.s.turn ho (fun b hb=>by cases hb;exact ⟨hg,h0⟩) (fun b hb=>.inl hb),h.x.same (ho.block _ (h.lt h.xC) fun e=>hC e.symm) (ho.block _ (h.lt h.xV) fun e=>hV e.symm),h.xC,h.xV⟩
theorem only_set (w:World) (g i:Nat) (a:Value):Only (fun b=>b=g) w (w.setCell ⟨g,i,none⟩ a) :=
 ⟨rfl,rfl,rfl,by simp,fun k _ hk=>Below.heap_setCell _ _ _ _ hk⟩
theorem Zs.set (h:Zs w0 w c S L r T M X) {g:Nat} (hg:X g) (h0:w0.heap.size≤g) (hC:g≠c.C) (hV:g≠c.V) (i:Nat) (a:Value):Zs w0 (w.setCell ⟨g,i,none⟩ a) c S L r T M X:=h.turn hg h0 hC hV (only_set w g i a)
theorem Zs.set2 (h:Zs w0 w c S L r T M X) {g:Nat} (hg:X g) (h0:w0.heap.size≤g) (hC:g≠c.C) (hV:g≠c.V) (a b:Value):Zs w0 ((w.setCell ⟨g,0,none⟩ a).setCell ⟨g,1,none⟩ b) c S L r T M X:=(h.set hg h0 hC hV 0 a).set hg h0 hC hV 1 b
theorem same_trans {w1 w2 w3:World} (h:Same X w1 w2) (h2:Same X w2 w3):Same X w1 w3:=fun b hb=>(h2 b hb).trans (h b hb)
theorem same_below (h:Zs w0 w c S L r T M X) (hb:Below w.heap.size w w'):Same X w w':=fun b hx=>hb.block b (h.lt hx)
theorem same_set {g i:Nat} {a:Value} (hg:¬ X g):Same X w (w.setCell ⟨g,i,none⟩ a):=fun b hx=>Below.heap_setCell _ _ _ _ fun e=>hg (show X g from (show b=g from e)▸hx)
end
end Go.Proofs.YtgoddboicjfkcaaGreat.cu
namespace Go.Proofs.YtgoddboicjfkcaaGreat.cb
open Go.RowKit
open br
open dn (En nerr lget lset ldel dotB)
open bl (AB Pq U8 wr)
structure MadeI (S S2:BS) (D n:Nat) (s:ByteArray) (kind:Int):Prop where
 d1:1≤D
 d2:D≤200
 hD:(S.ino D).kind=2
 hl:(S.ino D).links≠0
 hn:lget s (S.ino D).dir=none
 n1:1≤n
 n2:n≤200
 hz:(S.ino n).kind=0
 ne:n≠D
 oth:∀ k,k≠D→k≠n→S2.ino k=S.ino k
 eD:S2.ino D={ S.ino D with dir:=lset s (n:Int) (S.ino D).dir }
 eN:(S2.ino n).kind=kind∧(S2.ino n).links=1∧(S2.ino n).holds=0∧(S2.ino n).dir=[]
 us:S2.used=S.used+(S2.ino n).body.n
theorem made_of {S:BS} {room:Nat} (hG:br.Good S room) {d:Int} {s t:ByteArray} {kind:Int} (h:(S.make d s kind t).1.2=0) :
  ∃ D n:Nat,d=(D:Int)∧(S.make d s kind t).1.1=(n:Int)∧MadeI S (S.make d s kind t).2 D n s kind∧((S.make d s kind t).2.ino n).body=abE:=by
 by_cases h1:S.vacant d s=0
 ·by_cases hb:badKind kind t=true
  ·exfalso
   unfold BS.make at h
   rw [if_neg (by omega),if_pos hb] at h
   exact absurd (show (22:Int)=0 from h) (by decide)
  ·obtain ⟨D,rfl,d1,d2,hD,hl,hg,_⟩:=vacant_ok h1
   have hfs:=free_spec S 200 1
   by_cases h2:200<S.free 1 200
   ·exfalso
    unfold BS.make at h
    rw [if_neg (by omega),if_neg hb] at h
    dsimp only at h
    rw [if_pos h2] at h
    exact absurd (show (28:Int)=0 from h) (by decide)
   ·have hz:=hfs.2.2.1 (by omega)
    have hf1:=hfs.1
    generalize hn:S.free 1 200=n at *
    have hnD:n≠D:=fun e=>by rw [e,hD] at hz;cases hz
    have e:S.make (D:Int) s kind t=(((n:Int),0),(⟨br.upd (br.upd S.ino n (newI kind (D:Int) t)) D { S.ino D with dir:=lset s (n:Int) (S.ino D).dir },S.used⟩:BS)):=by
     unfold BS.make
     rw [if_neg (by omega),if_neg hb]
     dsimp only
     rw [hn,if_neg h2]
     unfold BS.putDir BS.put
     dsimp only
     rw [Int.toNat_natCast,Int.toNat_natCast]
     show ((_,_),BS.mk (br.upd (br.upd S.ino n (newI kind (D:Int) t)) D { br.upd S.ino n (newI kind (D:Int) t) D with dir:=lset s (n:Int) (br.upd S.ino n (newI kind (D:Int) t) D).dir }) S.used)=_
     rw [upd_other _ _ (fun e=>hnD e.symm)]
    rw [e]
    have eN:br.upd (br.upd S.ino n (newI kind (D:Int) t)) D { S.ino D with dir:=lset s (n:Int) (S.ino D).dir } n=newI kind (D:Int) t:=by rw [upd_other _ _ hnD,upd_same]
    refine ⟨D,n,rfl,rfl,⟨d1,d2,hD,hl,hg,hf1,by omega,hz,hnD,fun k k1 k2=>?_,?_,?_,?_⟩,?_⟩
    ·show br.upd _ _ _ k=_
     rw [upd_other _ _ k1,upd_other _ _ k2]
    ·show br.upd _ _ _ D=_
     rw [upd_same]
    ·show (br.upd _ _ _ n).kind=_∧(br.upd _ _ _ n).links=_∧(br.upd _ _ _ n).holds=_∧(br.upd _ _ _ n).dir=_
     rw [eN];exact ⟨rfl,rfl,rfl,rfl⟩
    ·show S.used=S.used+(br.upd _ _ _ n).body.n
     rw [eN];rfl
    ·show (br.upd _ _ _ n).body=_
     rw [eN];rfl
 ·exfalso
  unfold BS.make at h
  rw [if_pos h1] at h
  exact h1 h
theorem MadeI.lead {S S2:BS} {room:Nat} (hG:br.Good S room) {D n:Nat} {s:ByteArray} {kind:Int} (h:MadeI S S2 D n s kind):S2.dirE (D:Int) true=0∧S2.get (D:Int) s=((n:Int),0)∧S2.drop (D:Int) s (n:Int)=S:=by
 have hs:=hG.1.sorted D
 have k2:(S2.ino D).kind=2:=by rw [h.eD];exact h.hD
 have kl:(S2.ino D).links≠0:=by rw [h.eD];exact h.hl
 have hd:S2.dirE (D:Int) true=0:=by
  unfold BS.dirE BS.isI
  rw [at_nat,if_neg (by simp only [decide_eq_false_iff_not,Decidable.not_not];exact ⟨by have:=h.d1;omega,by have:=h.d2;omega,by rw [k2];decide⟩),if_neg (by rw [k2];decide),if_neg (fun e=>kl e.2)]
 refine ⟨hd,?_,?_⟩
 ·rw [get_eq (dirE_less hd),h.eD]
  show (match lget s (lset s (n:Int) (S.ino D).dir) with|some v=>(v,(0:Int))|none=>(0,2))=_
  rw [lget_lset hs]
 ·exact made_gone hG.1 h.hz h.ne h.hn h.oth h.eD h.us ⟨h.eN.2.1,h.eN.2.2.1⟩ (drop_drop s h.ne)
theorem back_file {S S2:BS} {room:Nat} (hG:br.Good S room) {D n:Nat} {s:ByteArray} {kind:Int} (h:MadeI S S2 D n s kind) (hk:kind≠2):S2.unlink (D:Int) s=(0,S):=by
 obtain ⟨h1,h2,h3⟩:=h.lead hG
 unfold BS.unlink
 rw [h2,if_neg (by rw [h1];decide),if_neg (show ¬ ((0:Int)≠0) by decide),at_nat,if_neg (by rw [h.eN.1];exact hk),h3]
end Go.Proofs.YtgoddboicjfkcaaGreat.cb
