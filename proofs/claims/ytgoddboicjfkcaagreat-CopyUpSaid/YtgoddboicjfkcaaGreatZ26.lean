/- Contracts and mathematics, part 26. -/
import Derived.Test.YtgoddboicjfkcaaGreatZ25
import Derived.Test.YtgoddboicjfkcaaGreatZ21
set_option linter.unusedVariables false
set_option linter.unusedSimpArgs false
set_option maxRecDepth 100000
set_option maxHeartbeats 8000000
namespace Go.Proofs.YtgoddboicjfkcaaGreat
namespace fl
open Go.RowKit
open br (BS Ino Inv abE sumF fresh)
open cb (BrX RetW RetI No WrI MadeI)
open bl (Pq AB U8)
open pa (Bs)
def LR (w:World) (B:Nat) (A:Option Addr) (l:List Ln):Prop:=∀(j:Nat) (x:Ln),l[j]?=some x→∃b off,A=some ⟨b,off,none⟩∧b<B ∧
 w.cell? ⟨b,off+j*3,none⟩=some (.string x.path)∧w.cell? ⟨b,off+j*3+1,none⟩=some (.int .i64 x.kind)∧w.cell? ⟨b,off+j*3+2,none⟩=some (.string x.data)
theorem LR.same {w w':World} {B:Nat} {A:Option Addr} {l:List Ln} (h:LR w B A l) (hs:∀b,b<B→w'.heap[b]?=w.heap[b]?):LR w' B A l:=fun j x hx=>by
 obtain ⟨b,off,e,hb,c0,c1,c2⟩:=h j x hx
 exact ⟨b,off,e,hb,(World.cell?_of_block (a:=⟨b,off+j*3,none⟩) (hs b hb)).trans c0,(World.cell?_of_block (a:=⟨b,off+j*3+1,none⟩) (hs b hb)).trans c1,(World.cell?_of_block (a:=⟨b,off+j*3+2,none⟩) (hs b hb)).trans c2⟩
theorem LR.up {w:World} {B B':Nat} {A:Option Addr} {l:List Ln} (h:LR w B A l) (hb:B≤B'):LR w B' A l:=fun j x hx=>by
 obtain ⟨b,off,e,h1,c⟩:=h j x hx
 exact ⟨b,off,e,Nat.lt_of_lt_of_le h1 hb,c⟩
def TreeE (w:World) (l:List Ln) (room:Int) (e:Ending) (w':World):Prop :=
 ((room<0∨65536<room)∧e=.returned (.tuple #[.pointer none,.int .i64 22])∧Below w.heap.size w w') ∨
 ∃R:Nat,room=(R:Int)∧R≤65536 ∧
  ((∃err:Int,err≠0∧treeF R fresh l=none∧(∀x,l[0]?=some x→Pk fresh x err)∧e=.returned (.tuple #[.pointer none,.int .i64 err])∧Below w.heap.size w w') ∨
   (∃(P:Nat) (S:BS),treeF R fresh l=some S∧e=.returned (.tuple #[Pq P,.int .i64 0])∧BrX w w' P (fun b=>b<w.heap.size) S R 990))
theorem put_place {R:Nat} {S S':BS} {x:Ln} (h:putF R S x=some S'):(placeM S x.path).2=0:=by
 unfold putF at h
 split at h
 ·cases h
 ·rename_i hn
  exact Classical.byContradiction hn
theorem tree_any {w:World} {B:Nat} {A:Option Addr} {l:List Ln} {c:Nat} (hl:LR w B A l) (hB:B≤w.heap.size) (hn:l.length≤400) (hd:∀x∈l,x.data.size≤1000000) (room:Int) :
  Calls Tryz.prog 87 #[.slice A l.length c,.int .i64 room] w (TreeE w l room):=by
 have HL:=Qa hl
 have Qj:=Qa hB
 have Qk:=Qa hd
 by_cases hr:room<0∨65536<room
 ·have HN:=Qa (cb.new_no room w hr)
  have HR:=Qa hr
  unfold TreeE
  clear hl hr hd
  go_enter Tryz.func87,Tryz.ntmps87
  go_wp2_with fail
  refine HN.out.mono ?_
  rintro _ w1 ⟨rfl,rfl⟩
  clear HN
  go_wp2_with fail
  go_ret2
  exact .inl ⟨HR.out,rfl,Below.refl _ _⟩
 obtain ⟨R,rfl⟩:∃R:Nat,room=(R:Int):=⟨room.toNat,by omega⟩
 have hR:R≤65536:=by omega
 have HN:=Qa (cb.x_new (w0:=w) (w:=w) R hR (Below.refl _ _))
 have Ql:=Qa (show ∀(err:Int) (W:World),err≠0→treeF R fresh l=none→(∀x,l[0]?=some x→Pk fresh x err)→Below w.heap.size w W→TreeE w l (R:Int) (.returned (.tuple #[.pointer none,.int .i64 err])) W from
  fun err W a b cc dd=>.inr ⟨R,rfl,hR,.inl ⟨err,a,b,cc,rfl,dd⟩⟩)
 have Qm:=Qa (show ∀(P:Nat) (S:BS) (W:World),treeF R fresh l=some S→BrX w W P (fun b=>b<w.heap.size) S R 990→TreeE w l (R:Int) (.returned (.tuple #[Pq P,.int .i64 0])) W from
  fun P S W a b=>.inr ⟨R,rfl,hR,.inr ⟨P,S,a,rfl,b⟩⟩)
 obtain ⟨m,hm⟩:∃m,l.length=m:=⟨_,rfl⟩
 have HM:=Qa hm
 rw [hm] at hn ⊢
 have Qn:=Qa (show ∀j,j<m→∃x,l[j]?=some x from fun j hj=>⟨l[j]'(by omega),List.getElem?_eq_getElem _⟩)
 clear hl hr hd hm
 go_enter Tryz.func87,Tryz.ntmps87
 go_wp2_with fail
 refine HN.out.mono ?_
 rintro _ w1 ⟨P,rfl,h1,hb1,hP⟩
 have H1:=Qa h1
 have Qo:=Qa (show dn.Same (fun b=>b<w.heap.size) w w1 from fun b hb=>hb1.block b hb)
 clear h1 hb1 hP HN
 go_upto_region 5 with fail
 go_loopg [16] m (fun gh s16 wr=>∃(j:Nat) (S:BS),gh+j=m∧s16=.int .i64 j∧Hid (treeF R fresh l=treeF R S (l.drop j))∧Hid ((j=0→S=fresh)∧(0<j→∀y,l[0]?=some y→(placeM fresh y.path).2=0))∧Hid (BrX w wr P (fun b=>b<w.heap.size) S R (2*j))∧Hid (dn.Same (fun b=>b<w.heap.size) w wr))
 case atStart=>exact ⟨0,fresh,by omega,rfl,Qa rfl,Qa ⟨fun _=>rfl,fun h=>absurd h (Nat.lt_irrefl _)⟩,H1,Qo⟩
 case round =>
  obtain ⟨j,S,hgj,rfl,Qe,Qb,Qf,Qi⟩:=hrel
  by_cases hj:j<m
  ·obtain ⟨x,hx⟩:=Qn.out j hj
   have Qc:=Qa hx
   obtain ⟨b,off,hA,hbB,c0,c1,c2⟩:=HL.out j x hx
   subst hA
   have hs:=Qi.out b (by have:=Qj.out;omega)
   have d0:=(World.cell?_of_block (a:=⟨b,off+j*3,none⟩) hs).trans c0
   have d1:=(World.cell?_of_block (a:=⟨b,off+j*3+1,none⟩) hs).trans c1
   have d2:=(World.cell?_of_block (a:=⟨b,off+j*3+2,none⟩) hs).trans c2
   obtain ⟨xp,xk,xd⟩:=x
   dsimp only at d0 d1 d2
   obtain ⟨w2,hw2⟩:∃w2,wr.alloc (.cells #[.string xp,.int .i64 xk,.string xd] 104)=w2:=⟨_,rfl⟩
   have ma:Below wr.heap.size wr w2:=by rw [←hw2];exact (Below.refl _ _).alloc (Nat.le_refl _) _
   have Qt:=Qa ma
   have e0:w2.cell? ⟨wr.heap.size,0,none⟩=some (.string xp):=by rw [←hw2];simp
   have e1:w2.cell? ⟨wr.heap.size,1,none⟩=some (.int .i64 xk):=by rw [←hw2];simp
   have e2:w2.cell? ⟨wr.heap.size,2,none⟩=some (.string xd):=by rw [←hw2];simp
   have Qd:=Qa (put_any (Qf.out.below ma) (by have:=HM.out;omega) ⟨xp,xk,xd⟩ (Qk.out _ (List.mem_of_getElem? hx)))
   have Qp:=Qa (same_trans Qi.out (fun b hb=>ma.block b (brx_lt Qf.out hb)))
   unfold PutE at Qd
   obtain ⟨pr,hpr⟩:∃r,putF R S ⟨xp,xk,xd⟩=r:=⟨_,rfl⟩
   have Qg:=Qa hpr
   rw [hpr] at Qd
   clear hx hs c0 c1 c2 ma hpr hbB
   go_wp2_with fail
   refine Qd.out.mono ?_
   rintro _ w3 ⟨err,S',rfl,h3,hs3,hc⟩
   have H3:=Qa (h3.up (by omega:2*j+2≤2*(j+1)))
   have Qq:=Qa (same_trans Qp.out hs3)
   clear h3 hs3 Qd d0 d1 d2 e0 e1 e2 hw2
   rcases hc with ⟨rfl,rfl⟩|⟨e9,rfl,hk9⟩
   ·have Qh:=Qa (Qe.out.trans (treeF_drop Qc.out Qg.out))
    have Qr:=Qa (show (j+1=0→S'=fresh)∧(0<j+1→∀y,l[0]?=some y→(placeM fresh y.path).2=0) from ⟨fun h=>absurd h (Nat.succ_ne_zero _),fun _ y hy=>by
     by_cases hj0:j=0
     ·have h1:=Qc.out
      rw [hj0,hy] at h1
      injection h1 with h1
      have h2:=Qg.out
      rw [Qb.out.1 hj0,←h1] at h2
      exact put_place h2
     ·exact Qb.out.2 (by omega) y hy⟩)
    go_wp2_with fail
    go_roundg (gk - 1)
    case measure=>omega
    case rel=>exact ⟨j+1,S',by omega,by go_num,Qh,Qr,H3,Qq⟩
   ·have q9:(err != 0)=true:=by simpa using e9
    have Qh:=Qa (Qe.out.trans (treeF_stop Qc.out Qg.out))
    have Qs:=Qa hk9
    clear hk9
    go_wp2_with fail
    go_ret2
    refine Ql.out err w3 e9 Qh.out (fun y hy=>?_) H3.out.bel
    by_cases hj0:j=0
    ·subst hj0
     have:=Qc.out
     rw [hy] at this
     injection this with this
     rw [this,←Qb.out.1 (by first|rfl|trivial)];exact Qs.out
    ·exact fun hn=>absurd (Qb.out.2 (by omega) y hy) hn
  ·obtain rfl:j=m:=by omega
   have HE:=Qa (show treeF R fresh l=some S by rw [Qe.out,List.drop_eq_nil_of_le (by rw [HM.out];exact Nat.le_refl _)];rfl)
   go_wp2_with fail
   go_ret2
   exact Qm.out P S wr HE.out (Qf.out.up (by omega))
end fl
end Go.Proofs.YtgoddboicjfkcaaGreat
