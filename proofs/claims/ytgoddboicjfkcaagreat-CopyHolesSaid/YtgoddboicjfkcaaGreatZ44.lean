/- Part 44 of what is known of the program's functions and of the document's words: contracts, and the mathematics beneath them. -/
import Derived.Test.YtgoddboicjfkcaaGreatProg
import Derived.Test.YtgoddboicjfkcaaGreatZ43
import Derived.Test.YtgoddboicjfkcaaGreatZ36
set_option linter.unusedVariables false
set_option linter.unusedSimpArgs false
set_option maxRecDepth 100000
set_option maxHeartbeats 8000000
namespace Go.Proofs.YtgoddboicjfkcaaGreat.fl
open Go.RowKit
open br (BS Ino Inv abE sumF fresh)
open cb (BrX RetW RetI No WrI MadeI)
open bl (Pq AB U8)
open pa (Bs)
def LR (w:World) (B:Nat) (A:Option Addr) (l:List Ln):Prop:=∀ (j:Nat) (x:Ln),l[j]?=some x→∃ b off,A=some ⟨b,off,none⟩∧b<B ∧
 w.cell? ⟨b,off+j*3,none⟩=some (.string x.path)∧w.cell? ⟨b,off+j*3+1,none⟩=some (.int .i64 x.kind)∧w.cell? ⟨b,off+j*3+2,none⟩=some (.string x.data)
def TreeE (w:World) (l:List Ln) (room:Int) (e:Ending) (w':World):Prop :=
 ((room<0∨65536<room)∧e=.returned (.tuple #[.pointer none,.int .i64 22])∧Below w.heap.size w w') ∨
 ∃ R:Nat,room=(R:Int)∧R≤65536 ∧
  ((∃ err:Int,err≠0∧treeF R fresh l=none∧(∀ x,l[0]?=some x→Pk fresh x err)∧e=.returned (.tuple #[.pointer none,.int .i64 err])∧Below w.heap.size w w') ∨
   (∃ (P:Nat) (S:BS),treeF R fresh l=some S∧e=.returned (.tuple #[Pq P,.int .i64 0])∧BrX w w' P (fun b=>b<w.heap.size) S R 990))
theorem put_place {R:Nat} {S S':BS} {x:Ln} (h:putF R S x=some S'):(placeM S x.path).2=0:=by
 unfold putF at h
 split at h
 ·cases h
 ·rename_i hn
  exact Classical.byContradiction hn
theorem tree_any {w:World} {B:Nat} {A:Option Addr} {l:List Ln} {c:Nat} (hl:LR w B A l) (hB:B≤w.heap.size) (hn:l.length≤400) (hd:∀ x∈l,x.data.size≤1000000) (room:Int) :
  Calls Tryz.prog 87 #[.slice A l.length c,.int .i64 room] w (TreeE w l room):=by
 have HL:=Lib.hid hl
 have HBB:=Lib.hid hB
 have HDD:=Lib.hid hd
 by_cases hr:room<0∨65536<room
 ·have HN:=Lib.hid (cb.new_no room w hr)
  have HR:=Lib.hid hr
  unfold TreeE
  clear hl hr hd
  go_enter Tryz.func87,Tryz.ntmps87
  go_wp2_with fail
  refine HN.out.mono ?_
  rintro _ w1 ⟨rfl,rfl⟩
  clear HN
  go_wp2_with fail
  go_ret2
  exact .inl ⟨HR.out,rfl,Below.refl _ _⟩
 obtain ⟨R,rfl⟩:∃ R:Nat,room=(R:Int):=⟨room.toNat,by omega⟩
 have hR:R≤65536:=by omega
 have HN:=Lib.hid (cb.x_new (w0:=w) (w:=w) R hR (Below.refl _ _))
 have HD1:=Lib.hid (show ∀ (err:Int) (W:World),err≠0→treeF R fresh l=none→(∀ x,l[0]?=some x→Pk fresh x err)→Below w.heap.size w W→TreeE w l (R:Int) (.returned (.tuple #[.pointer none,.int .i64 err])) W from
  fun err W a b cc dd=>.inr ⟨R,rfl,hR,.inl ⟨err,a,b,cc,rfl,dd⟩⟩)
 have HD2:=Lib.hid (show ∀ (P:Nat) (S:BS) (W:World),treeF R fresh l=some S→BrX w W P (fun b=>b<w.heap.size) S R 990→TreeE w l (R:Int) (.returned (.tuple #[Pq P,.int .i64 0])) W from
  fun P S W a b=>.inr ⟨R,rfl,hR,.inr ⟨P,S,a,rfl,b⟩⟩)
 obtain ⟨m,hm⟩:∃ m,l.length=m:=⟨_,rfl⟩
 have HM:=Lib.hid hm
 rw [hm] at hn ⊢
 have HGL:=Lib.hid (show ∀ j,j<m→∃ x,l[j]?=some x from fun j hj=>⟨l[j]'(by omega),List.getElem?_eq_getElem _⟩)
 clear hl hr hd hm
 go_enter Tryz.func87,Tryz.ntmps87
 go_wp2_with fail
 refine HN.out.mono ?_
 rintro _ w1 ⟨P,rfl,h1,hb1,hP⟩
 have H1:=Lib.hid h1
 have HS1:=Lib.hid (show dn.Same (fun b=>b<w.heap.size) w w1 from fun b hb=>hb1.block b hb)
 clear h1 hb1 hP HN
 go_upto_region 5 with fail
 go_loopg [16] m (fun gh s16 wr=>∃ (j:Nat) (S:BS),gh+j=m∧s16=.int .i64 j∧Hid (treeF R fresh l=treeF R S (l.drop j))∧Hid ((j=0→S=fresh)∧(0<j→∀ y,l[0]?=some y→(placeM fresh y.path).2=0))∧Hid (BrX w wr P (fun b=>b<w.heap.size) S R (2*j))∧Hid (dn.Same (fun b=>b<w.heap.size) w wr))
 case atStart=>exact ⟨0,fresh,by omega,rfl,Lib.hid rfl,Lib.hid ⟨fun _=>rfl,fun h=>absurd h (Nat.lt_irrefl _)⟩,H1,HS1⟩
 case round =>
  obtain ⟨j,S,hgj,rfl,HTF,HJ0,HBR,HSA⟩:=hrel
  by_cases hj:j<m
  ·obtain ⟨x,hx⟩:=HGL.out j hj
   have HXX:=Lib.hid hx
   obtain ⟨b,off,hA,hbB,c0,c1,c2⟩:=HL.out j x hx
   subst hA
   have hs:=HSA.out b (by have:=HBB.out;omega)
   have d0:=(World.cell?_of_block (a:=⟨b,off+j*3,none⟩) hs).trans c0
   have d1:=(World.cell?_of_block (a:=⟨b,off+j*3+1,none⟩) hs).trans c1
   have d2:=(World.cell?_of_block (a:=⟨b,off+j*3+2,none⟩) hs).trans c2
   obtain ⟨xp,xk,xd⟩:=x
   dsimp only at d0 d1 d2
   obtain ⟨w2,hw2⟩:∃ w2,wr.alloc (.cells #[.string xp,.int .i64 xk,.string xd] 104)=w2:=⟨_,rfl⟩
   have hb2:Below wr.heap.size wr w2:=by rw [← hw2];exact (Below.refl _ _).alloc (Nat.le_refl _) _
   have HB2:=Lib.hid hb2
   have e0:w2.cell? ⟨wr.heap.size,0,none⟩=some (.string xp):=by rw [← hw2];simp
   have e1:w2.cell? ⟨wr.heap.size,1,none⟩=some (.int .i64 xk):=by rw [← hw2];simp
   have e2:w2.cell? ⟨wr.heap.size,2,none⟩=some (.string xd):=by rw [← hw2];simp
   have HPU:=Lib.hid (put_any (HBR.out.below hb2) (by have:=HM.out;omega) ⟨xp,xk,xd⟩ (HDD.out _ (List.mem_of_getElem? hx)))
   have HSB:=Lib.hid (same_trans HSA.out (fun b hb=>hb2.block b (brx_lt HBR.out hb)))
   unfold PutE at HPU
   obtain ⟨pr,hpr⟩:∃ r,putF R S ⟨xp,xk,xd⟩=r:=⟨_,rfl⟩
   have HPR:=Lib.hid hpr
   rw [hpr] at HPU
   clear hx hs c0 c1 c2 hb2 hpr hbB
   go_wp2_with fail
   refine HPU.out.mono ?_
   rintro _ w3 ⟨err,S',rfl,h3,hs3,hc⟩
   have H3:=Lib.hid (h3.up (by omega:2*j+2≤2*(j+1)))
   have HS3:=Lib.hid (same_trans HSB.out hs3)
   clear h3 hs3 HPU d0 d1 d2 e0 e1 e2 hw2
   rcases hc with ⟨rfl,rfl⟩|⟨e9,rfl,hk9⟩
   ·have HT2:=Lib.hid (HTF.out.trans (treeF_drop HXX.out HPR.out))
    have HJ2:=Lib.hid (show (j+1=0→S'=fresh)∧(0<j+1→∀ y,l[0]?=some y→(placeM fresh y.path).2=0) from ⟨fun h=>absurd h (Nat.succ_ne_zero _),fun _ y hy=>by
     by_cases hj0:j=0
     ·have h1:=HXX.out
      rw [hj0,hy] at h1
      injection h1 with h1
      have h2:=HPR.out
      rw [HJ0.out.1 hj0,← h1] at h2
      exact put_place h2
     ·exact HJ0.out.2 (by omega) y hy⟩)
    go_wp2_with fail
    go_roundg (gk - 1)
    case measure=>omega
    case rel=>exact ⟨j+1,S',by omega,by go_num,HT2,HJ2,H3,HS3⟩
   ·have q9:(err != 0)=true:=by simpa using e9
    have HT2:=Lib.hid (HTF.out.trans (treeF_stop HXX.out HPR.out))
    have HK9:=Lib.hid hk9
    clear hk9
    go_wp2_with fail
    go_ret2
    refine HD1.out err w3 e9 HT2.out (fun y hy=>?_) H3.out.bel
    by_cases hj0:j=0
    ·subst hj0
     have:=HXX.out
     rw [hy] at this
     injection this with this
     rw [this,← HJ0.out.1 (by first|rfl|trivial)];exact HK9.out
    ·exact fun hn=>absurd (HJ0.out.2 (by omega) y hy) hn
  ·obtain rfl:j=m:=by omega
   have HE:=Lib.hid (show treeF R fresh l=some S by rw [HTF.out,List.drop_eq_nil_of_le (by rw [HM.out];exact Nat.le_refl _)];rfl)
   go_wp2_with fail
   go_ret2
   exact HD2.out P S wr HE.out (HBR.out.up (by omega))
end Go.Proofs.YtgoddboicjfkcaaGreat.fl
