/- Part 30 of what is known of the program's functions and of the document's words: contracts, and the mathematics beneath them. -/
import Derived.Test.YtgoddboicjfkcaaGreatProg
import Derived.Test.YtgoddboicjfkcaaGreatZ22
import Derived.Test.YtgoddboicjfkcaaGreatZ09
import Derived.Test.YtgoddboicjfkcaaGreatZ29
import Derived.Test.YtgoddboicjfkcaaGreatZ26
import Derived.StringKeys
import Derived.Maps.Own
import Derived.Maps.OwnOps
import Derived.Maps.OwnSet
import Derived.Maps.Views
import Derived.Maps.RangeWalk
import Derived.Deep.LoopGhost
set_option linter.unusedVariables false
set_option linter.unusedSimpArgs false
set_option maxRecDepth 100000
set_option maxHeartbeats 8000000
namespace Go.Proofs.YtgoddboicjfkcaaGreat.cu
open Go.RowKit
open br (BS Ino Inv at_nat upd_same upd_other abE)
open bl (AB wr wrB WR thW over cut cutB cutR IsStop)
open cb (WrI)
def nz (B:AB) (k:Nat):Bool:=!allZ 16 (fun j=>B.dat (16*k+j))
def copyB (B:AB):AB:=⟨B.size,nz B,B.dat⟩
structure PB (B b:AB) (m:Nat):Prop where
 sz:b.size≤B.size
 th:∀ k,b.th k=(decide (k<m) && nz B k)
 dat:∀ i,b.dat i=if i<16*m then B.dat i else 0
def chL (B:AB) (m:Nat):Nat:=min 16 (B.size - 16*m)
def chF (B:AB) (m:Nat):Nat→UInt8:=fun j=>B.dat (16*m+j)
theorem PB.zero (B:AB):PB B abE 0:=⟨Nat.zero_le _,fun k=>by simp [abE],fun i=>by simp [abE]⟩
theorem chunk_z {B:AB} (ok:B.Ok) (m:Nat):allZ (chL B m) (chF B m)=!nz B m:=by
 unfold nz
 rw [Bool.not_not,Bool.eq_iff_iff,allZ_iff,allZ_iff]
 refine ⟨fun h j hj=>?_,fun h j hj=>h j (by unfold chL at hj;omega)⟩
 by_cases e:j<chL B m
 ·exact h j e
 ·exact ok.dat _ (by unfold chL at e;omega)
theorem PB.skip {B b:AB} {m:Nat} (h:PB B b m) (ok:B.Ok) (hz:allZ (chL B m) (chF B m)=true):PB B b (m+1):=by
 rw [chunk_z ok] at hz
 have hn:nz B m=false:=by simpa using hz
 refine ⟨h.sz,fun k=>?_,fun i=>?_⟩
 ·rw [h.th k]
  by_cases e:k=m
  ·subst e;simp [hn]
  ·have:decide (k<m)=decide (k<m+1):=decide_eq_decide.2 (by omega)
   rw [this]
 ·rw [h.dat i]
  by_cases e:i<16*m
  ·rw [if_pos e,if_pos (by omega)]
  ·rw [if_neg e]
   by_cases e2:i<16*(m+1)
   ·rw [if_pos e2]
    have hz2:allZ 16 (fun j=>B.dat (16*m+j))=true:=by unfold nz at hn;simpa using hn
    have:=allZ_iff.1 hz2 (i - 16*m) (by omega)
    rw [show 16*m+(i - 16*m)=i from by omega] at this
    exact this.symm
   ·rw [if_neg e2]
theorem PB.step {B b:AB} {m:Nat} (h:PB B b m) (ok:B.Ok) (hm:16*m<B.size) (hz:allZ (chL B m) (chF B m)=false):PB B (wr b ((16*m:Nat):Int) (chL B m) (chF B m)) (m+1):=by
 rw [chunk_z ok] at hz
 have hn:nz B m=true:=by simpa using hz
 have hp:0<chL B m∧chL B m≤16∧16*m+chL B m≤B.size∧(16*m+chL B m<16*(m+1)→16*m+chL B m=B.size):=by unfold chL;omega
 unfold wr
 rw [Int.toNat_natCast]
 unfold wrB
 obtain ⟨p1,p2,p3,p4⟩:=hp
 refine ⟨?_,fun k=>?_,fun i=>?_⟩
 ·dsimp only
  rw [if_neg (by omega)]
  have:=h.sz
  omega
 ·dsimp only
  unfold thW
  rw [h.th k]
  by_cases e:k=m
  ·subst e
   have h1:decide (16*k<16*k+chL B k∧16*k<16*k+16∧16*k<16*k+chL B k)=true:=decide_eq_true ⟨by omega,by omega,by omega⟩
   rw [h1,hn];simp
  ·have h1:decide (16*m<16*m+chL B m∧16*m<16*k+16∧16*k<16*m+chL B m)=false:=decide_eq_false (by omega)
   have h2:decide (k<m)=decide (k<m+1):=decide_eq_decide.2 (by omega)
   rw [h1,h2];simp
 ·dsimp only
  unfold over
  by_cases e:16*m≤i∧i<16*m+chL B m
  ·rw [if_pos e,if_pos (by omega)]
   show B.dat (16*m+(i - 16*m))=_
   rw [show 16*m+(i - 16*m)=i from by omega]
  ·rw [if_neg e,h.dat i]
   by_cases e2:i<16*m
   ·rw [if_pos e2,if_pos (by omega)]
   ·rw [if_neg e2]
    by_cases e3:i<16*(m+1)
    ·rw [if_pos e3];exact (ok.dat i (by omega)).symm
    ·rw [if_neg e3]
theorem PB.last {B b:AB} {m:Nat} (h:PB B b m) (ok:B.Ok) (hm:B.size≤16*m):cut b (B.size:Int)=copyB B:=by
 have h1:=ok.size
 unfold cut
 rw [if_pos ⟨by omega,by omega⟩,Int.toNat_natCast]
 unfold cutB copyB
 congr 1
 ·funext k
  rw [h.th k]
  cases hn:nz B k with
  | false=>simp
  | true =>
   have:16*k<B.size:=by
    unfold nz at hn
    apply Classical.byContradiction
    intro e
    have:allZ 16 (fun j=>B.dat (16*k+j))=true:=allZ_iff.2 fun j hj=>ok.dat _ (by omega)
    rw [this] at hn;cases hn
   rw [decide_eq_true (show k<m by omega),decide_eq_true this];rfl
 ·funext i
  by_cases e:i<B.size
  ·rw [if_pos e,h.dat i,if_pos (by omega)]
  ·rw [if_neg e];exact (ok.dat i (by omega)).symm
def setB (S:BS) (I:Nat) (b:AB):BS:=⟨br.upd S.ino I { S.ino I with body:=b },S.used+b.n⟩
theorem setB_at (S:BS) (I:Nat) (b:AB):(setB S I b).ino I={ S.ino I with body:=b }:=upd_same _ _ _
theorem setB_ino (S:BS) (I:Nat) (b:AB) {k:Nat} (h:k≠I):(setB S I b).ino k=S.ino k:=upd_other _ _ h
theorem setB_abE {S:BS} {I:Nat} (h:(S.ino I).body=abE):setB S I abE=S:=by
 refine br.BS.ext' (fun k=>?_) (by show S.used+abE.n=S.used;rw [br.abE_n];rfl)
 by_cases e:k=I
 ·subst e
  rw [setB_at,← h]
 ·rw [setB_ino _ _ _ e]
theorem setB_fileE {S:BS} {I:Nat} {b:AB} (h1:1≤I) (h2:I≤200) (hk:(S.ino I).kind=1):(setB S I b).fileE (I:Int)=0:=cb.fileE_of h1 h2 (by rw [setB_at];exact hk)
theorem setB_wrote (S:BS) (I:Nat) (b:AB) (off:Int) (p:Nat) (f:Nat→UInt8):(setB S I b).wrote (I:Int) off p f=setB S I (wr b off p f):=by
 unfold BS.wrote
 rw [at_nat,setB_at,Int.toNat_natCast]
 dsimp only
 refine br.BS.ext' (fun k=>?_) ?_
 ·show br.upd (br.upd S.ino I _) I _ k=br.upd S.ino I _ k
  by_cases e:k=I
  ·subst e;rw [upd_same,upd_same]
  ·rw [upd_other _ _ e,upd_other _ _ e,upd_other _ _ e]
 ·show S.used+b.n+(wr b off p f).n - b.n=S.used+(wr b off p f).n
  omega
theorem setB_cut {S:BS} {I:Nat} {b:AB} (h1:1≤I) (h2:I≤200) (hk:(S.ino I).kind=1) (off:Int):(setB S I b).cutI (I:Int) off=(cutR off,setB S I (cut b off)):=by
 unfold BS.cutI
 rw [setB_fileE h1 h2 hk,if_neg (fun e=>e rfl),at_nat,setB_at,Int.toNat_natCast]
 dsimp only
 congr 1
 refine br.BS.ext' (fun k=>?_) ?_
 ·show br.upd (br.upd S.ino I _) I _ k=br.upd S.ino I _ k
  by_cases e:k=I
  ·subst e;rw [upd_same,upd_same]
  ·rw [upd_other _ _ e,upd_other _ _ e,upd_other _ _ e]
 ·show S.used+b.n+(cut b off).n - b.n=S.used+(cut b off).n
  omega
theorem chunk_wrote {S S':BS} {r I m p:Nat} {B b:AB} {e:Int} (h1:1≤I) (h2:I≤200) (hk:(S.ino I).kind=1) (ok:B.Ok) (hm:16*m<B.size) (hw:WrI (setB S I b) r (I:Int) ((16*m:Nat):Int) (chL B m) (chF B m) p e S') :
  p≤chL B m∧S'=setB S I (wr b ((16*m:Nat):Int) p (chF B m))∧(e=0∨(e=28∧p<chL B m)):=by
 have hc:0<chL B m∧16*m+chL B m≤B.size:=by unfold chL;omega
 have hs:=ok.size
 rcases hw with ⟨h,_⟩|⟨_,hw,_,_,rfl⟩
 ·exact absurd (setB_fileE h1 h2 hk) h
 ·rw [setB_wrote]
  rcases hw with ⟨a,_⟩|⟨_,a,_⟩|⟨a,_⟩|⟨_,_,_,hst,he⟩
  ·omega
  ·omega
  ·omega
  ·have:=hst.le
   rw [Int.toNat_natCast] at this
   refine ⟨by omega,rfl,?_⟩
   by_cases e0:p=0
   ·rw [if_pos e0] at he;exact .inr ⟨he,by omega⟩
   ·rw [if_neg e0] at he;exact .inl he
theorem chunk_full {S S':BS} {r I m p:Nat} {B b:AB} {e:Int} (h1:1≤I) (h2:I≤200) (hk:(S.ino I).kind=1) (ok:B.Ok) (hm:16*m<B.size) (hb:PB B b m) (hz:allZ (chL B m) (chF B m)=false)
  (hw:WrI (setB S I b) r (I:Int) ((16*m:Nat):Int) (chL B m) (chF B m) p e S') (hp:p≠chL B m):r<S.used+(copyB B).n:=by
 have hs:=ok.size
 have hc:0<chL B m∧chL B m≤16∧16*m+chL B m≤B.size:=by unfold chL;omega
 rw [chunk_z ok] at hz
 have hn:nz B m=true:=by simpa using hz
 have hbm:b.th m=false:=by rw [hb.th m];simp
 have hcnt:b.n+1≤(copyB B).n:=by
  have h3:=bl.cnt_add (N:=4096) (k:=m) (th:=b.th) (by omega) hbm
  have h4:bl.cnt 4096 (bl.updB b.th m true)≤bl.cnt 4096 (nz B):=bl.cnt_le fun k hk2=>by
   unfold bl.updB at hk2
   by_cases e1:k=m
   ·rw [e1];exact hn
   ·simp only [e1,if_false] at hk2
    rw [hb.th k] at hk2
    exact (Bool.and_eq_true_iff.1 hk2).2
  show bl.cnt 4096 b.th+1≤bl.cnt 4096 (nz B)
  omega
 rcases hw with ⟨h,_⟩|⟨_,hw,_,_,rfl⟩
 ·exact absurd (setB_fileE h1 h2 hk) h
 ·rcases hw with ⟨a,_⟩|⟨_,a,_⟩|⟨a,_⟩|⟨_,_,_,hst,he⟩
  ·omega
  ·omega
  ·omega
  ·rw [at_nat,setB_at,Int.toNat_natCast] at hst
   have hst2:IsStop b (S.used+b.n) r (16*m) (min (chL B m) (65536 - 16*m)) p:=hst
   have hle:=hst2.le
   rcases hst2.stop with e1|e1
   ·omega
   ·unfold bl.okW at e1
    have h5:=not_or.1 e1
    have hp0:p=0:=Classical.byContradiction fun h0=>h5.1 (by
     have h6:(16*m+p) / 16=m:=by omega
     rw [h6]
     unfold thW
     rw [decide_eq_true (show 16*m<16*m+p∧16*m<16*m+16∧16*m<16*m+p by omega)]
     simp)
    subst hp0
    have h7:bl.usedW b (S.used+b.n) (16*m) (16*m+0)=S.used+b.n:=by
     unfold bl.usedW
     have h8:thW b (16*m) (16*m+0)=b.th:=funext fun k=>by
      unfold thW
      rw [decide_eq_false (by omega)];simp
     rw [h8]
     show S.used+b.n+b.n - b.n=_
     omega
    rw [h7] at h5
    omega
end Go.Proofs.YtgoddboicjfkcaaGreat.cu
namespace Go.Proofs.YtgoddboicjfkcaaGreat.mg
open Go.RowKit
open Go.Maps (Keyed IsMap isMap_empty atKey_put_same atKey_put_other string_keyed has_put_same has_put_other atKey_of_not_has)
open Go.WideMaps (keyOf_string_mk string_of_keyOf)
def RV:Value→Option (DataW Value×List MemPlace):=fun v=>some (.held v,[])
set_option maxRecDepth 100000
abbrev Nf:=ByteArray→Option Nd
def nput (f:Nf) (a:ByteArray) (v:Nd):Nf:=fun x=>if x=a then some v else f x
theorem k9:Tryz.prog.underlying 9=some .string:=Tryz.underlying9
def MapN (w:World) (M S:Nat) (f:Nf):Prop :=
 ∃ D:DataW Value,w.ownsMap Tryz.prog 9 RV M S D∧IsMap D∧(∀ a:ByteArray,Maps.has D (.string a.data.toList)=(f a).isSome)∧(∀ (a:ByteArray) v zd,f a=some v→D.atKey (.string a.data.toList) zd=.held (Nv v))
theorem MapN.made (w:World):MapN (w.alloc (.map #[] 0)) w.heap.size 0 (fun _=>none):=⟨.map [],World.ownsMap_made _ _ _ _,isMap_empty,fun a=>rfl,fun a v zd h=>(nomatch h)⟩
theorem str_inj {a b:ByteArray} (h:Lit.string a.data.toList=Lit.string b.data.toList):a=b:=by
 injection h with h
 rw [← Lib.mk_data a,← Lib.mk_data b,h]
section
variable {w:World} {M S:Nat} {f:Nf}
theorem MapN.lt (h:MapN w M S f):M<w.heap.size:=by obtain ⟨D,h,_⟩:=h;exact h.lt
theorem MapN.of_block {w':World} (h:MapN w M S f) (hb:w'.heap[M]?=w.heap[M]?):MapN w' M S f:=by
 obtain ⟨D,⟨es,clock,h1,h2⟩,r⟩:=h
 exact ⟨D,⟨es,clock,hb.trans h1,h2⟩,r⟩
theorem MapN.below {w':World} (h:MapN w M S f) (hb:Below w.heap.size w w'):MapN w' M S f:=h.of_block (hb.block M h.lt)
theorem MapN.put (h:MapN w M S f) (hn:S≤1000000) {a:ByteArray} (ha:a.size≤maxLen) (v:Nd) :
  ∃ w',(Instr.mapUpdate 119 (.map (some M)) (.string a) (Nv v)).run Tryz.prog w=.ok () w'∧MapN w' M (S+1) (nput f a v)∧w.grownBy w' (some M):=by
 obtain ⟨D,h1,h2,h3,h4⟩:=h
 obtain ⟨w',hrun,hown,hg⟩:=h1.update (string_keyed k9) Tryz.underlying119 (by unfold maxLen;omega) (keyOf_string_mk k9 ha) (show RV (Nv v)=some (.held (Nv v),[]) from rfl)
 refine ⟨w',hrun,⟨_,hown,h2.put _ _,fun x=>?_,fun x u zd hx=>?_⟩,hg⟩
 ·unfold nput
  by_cases e:x=a
  ·subst e;rw [if_pos rfl,has_put_same h2 (show WideAt.IsKeyLit (.string x.data.toList) from trivial)];rfl
  ·rw [if_neg e,has_put_other (fun h=>e (str_inj h)),h3]
 ·unfold nput at hx
  by_cases e:x=a
  ·subst e
   rw [if_pos rfl] at hx
   injection hx with hx
   subst hx
   exact atKey_put_same h2 (show WideAt.IsKeyLit (.string x.data.toList) from trivial) _ _
  ·rw [if_neg e] at hx
   rw [atKey_put_other (fun h=>e (str_inj h))]
   exact h4 x u zd hx
theorem MapN.look (h:MapN w M S f) {a:ByteArray} (ha:a.size≤maxLen) :
  (Instr.lookup 119 (.map (some M)) (.string a) false).run Tryz.prog w=.ok (Nv ((f a).getD (0,0))) w:=by
 obtain ⟨D,h1,h2,h3,h4⟩:=h
 obtain ⟨v,ps,hrun,hv⟩:=h1.lookup (string_keyed k9) Tryz.underlying119 (z:=Nv (0,0)) (by kernel_rfl) (show RV (Nv (0,0))=some (.held (Nv (0,0)),[]) from rfl) (keyOf_string_mk k9 ha)
 rw [hrun]
 unfold RV at hv
 injection hv with hv
 injection hv with hv
 cases hf:f a with
 | some u=>rw [h4 a u _ hf] at hv;injection hv with hv;rw [hv];rfl
 | none =>
  rw [atKey_of_not_has (by rw [h3,hf];rfl)] at hv
  injection hv with hv;rw [hv];rfl
def MapRN (w:World) (M r S:Nat) (f:Nf) (left:ByteArray→Bool) (cnt:Nat):Prop :=
 ∃ (D:DataW Value) (lf:Lit→Bool),w.ranges Tryz.prog 9 RV M r S D lf cnt∧(∀ a:ByteArray,lf (.string a.data.toList)=left a)∧(∀ a,left a=true→(f a).isSome=true)∧(∀ (a:ByteArray) v zd,f a=some v→D.atKey (.string a.data.toList) zd=.held (Nv v))
theorem MapRN.kept {w':World} {r cnt:Nat} {left:ByteArray→Bool} (h:MapRN w M r S f left cnt) (hb:Below w.heap.size w w'):MapRN w' M r S f left cnt:=by
 obtain ⟨D,lf,h1,h2,h3,h4⟩:=h
 exact ⟨D,lf,h1.kept (row:=none) ⟨hb.os,hb.tape,hb.output,hb.size,fun k hk _=>hb.block k hk⟩ (by simp) (by simp),h2,h3,h4⟩
section
variable {ops:Array Oper} {rest:List Oper} {o:Oper} {a:Act} {Q:Exit→Act→World→Prop}
theorem list_rangeN (w:World) (hg:o.guard=none) (m:Operand) (hop:o.op=Op.range 119 m) (M S:Nat) (f:Nf) (hm:a.eval m=.map (some M)) (r:Nat) (hr:w.heap.size=r) (h:MapN w M S f)
  (hK:∀ w' cnt,MapRN w' M r S f (fun a=>(f a).isSome) cnt→Below w.heap.size w w'→w'.heap.size=r+1→wpList Tryz.prog ops Q rest (a.put o.dst (.pointer (some ⟨r,0,none⟩))) w'):wpList Tryz.prog ops Q (o::rest) a w:=by
 subst hr
 obtain ⟨D,h1,h2,h3,h4⟩:=h
 exact wpList_range_own w hg m 119 hop 9 24 (string_keyed k9) Tryz.underlying119 RV M S D hm h1 fun w' hr hg hs=>hK w' _ ⟨D,_,hr,fun b=>h3 b,fun b hb=>hb,h4⟩ ⟨hg.os,hg.tape,hg.output,hg.size,fun k hk=>hg.block k hk (by simp)⟩ hs
theorem list_nextN (w:World) (hg:o.guard=none) (it:Operand) (hop:o.op=Op.next it false) (M r S cnt:Nat) (f:Nf) (left:ByteArray→Bool) (hit:a.eval it=.pointer (some ⟨r,0,none⟩)) (h:MapRN w M r S f left cnt)
  (hDone:(∀ s,left s=false)→wpList Tryz.prog ops Q rest (a.put o.dst (.tuple #[.bool false])) w)
  (hMore:∀ (x:ByteArray) (v:Nd) (w':World) (cnt':Nat),f x=some v→left x=true→x.size≤maxLen→MapRN w' M r S f (fun s=>left s && !decide (s=x)) cnt'→cnt'<cnt→w.grownBy w' (some r)→w'.heap.size=w.heap.size→(Instr.entry (.pointer (some ⟨r,0,none⟩))).run Tryz.prog w'=.ok (.tuple #[.string x,Nv v]) w' →
   wpList Tryz.prog ops Q rest (a.put o.dst (.tuple #[.bool true,.string x,Nv v])) w'):wpList Tryz.prog ops Q (o::rest) a w:=by
 obtain ⟨D,lf,h1,h2,h3,h4⟩:=h
 refine wpList_next_ranges w hg it hop 9 (string_keyed k9) RV Value.string (fun v:Value=>v) (fun key kl hkey=>by obtain ⟨x,rfl,_⟩:=string_of_keyOf k9 hkey;exact ⟨x,rfl⟩) (fun v y _=>⟨v,rfl⟩)
  M r S D lf cnt hit h1 (fun _ hl=>hDone fun s=>by rw [← h2];exact hl _) (fun x c kl y w' cnt' hkey hlk hv hat hrg hlt hgr hsz hen=>?_)
 obtain ⟨x',ex,rfl,hxm⟩:=string_of_keyOf k9 hkey
 injection ex with ex
 subst ex
 rw [h2] at hlk
 have hs:=h3 x hlk
 cases hf:f x with
 | none=>rw [hf] at hs;cases hs
 | some v =>
  have e1:=h4 x v (.held (Nv v)) hf
  rw [hat] at e1
  unfold RV at hv
  injection hv with hv
  rw [← hv] at e1
  injection e1 with e1
  subst e1
  refine hMore x v w' cnt' hf hlk hxm ⟨D,_,hrg,fun b=>?_,fun b hb=>h3 b (by simp only [Bool.and_eq_true] at hb;exact hb.1),h4⟩ hlt hgr hsz hen
  dsimp only
  rw [h2]
  have:Lit.sameKey (.string b.data.toList) (.string x.data.toList)=decide (b=x):=by
   show (b.data.toList == x.data.toList)=_
   by_cases e:b=x
   ·subst e;simp
   ·rw [decide_eq_false e]
    have:b.data.toList≠x.data.toList:=fun e2=>e (str_inj (by rw [e2]))
    simpa using this
  rw [this]
end
end
end Go.Proofs.YtgoddboicjfkcaaGreat.mg
namespace Go.Proofs.YtgoddboicjfkcaaGreat.mg
open Go.RowKit
open dn (En lget lset ldel nerr dotB Sorted lessB)
open br (BS Ino Inv fresh)
def st1 (f:Nf) (e:En):Nf:=nput f e.1 (e.2,0)
def st2 (f:Nf) (e:En):Nf:=nput f e.1 (((f e.1).getD (0,0)).1,e.2)
theorem lget_cons (s:ByteArray) (e:En) (l:List En):lget s (e::l)=if e.1=s then some e.2 else lget s l:=by
 unfold lget
 by_cases h:e.1=s
 ·simp [List.find?,h]
 ·simp [List.find?,h]
theorem lget_ahead {e:En} {l:List En} (h:Sorted (e::l)):lget e.1 l=none:=by
 refine dn.lget_none.2 fun x hx hxe=>?_
 have:=h.cons.2 x hx
 rw [hxe,dn.less_irrefl] at this
 cases this
theorem fold1:∀ (l:List En) (g:Nf) (s:ByteArray),Sorted l→l.foldl st1 g s=match lget s l with|some v=>some (v,0)|none=>g s
 | [],g,s,_=>rfl
 | e::l,g,s,h=>by
  rw [List.foldl_cons,fold1 l _ s h.cons.1,lget_cons]
  by_cases he:e.1=s
  ·subst he
   rw [if_pos rfl,lget_ahead h]
   show nput g e.1 (e.2,0) e.1=_
   unfold nput;rw [if_pos rfl]
  ·rw [if_neg he]
   cases lget s l with
   | some v=>rfl
   | none=>show nput g e.1 (e.2,0) s=_;unfold nput;rw [if_neg (fun h=>he h.symm)]
theorem fold2:∀ (l:List En) (g:Nf) (s:ByteArray),Sorted l→l.foldl st2 g s=match lget s l with|some v=>some (((g s).getD (0,0)).1,v)|none=>g s
 | [],g,s,_=>rfl
 | e::l,g,s,h=>by
  rw [List.foldl_cons,fold2 l _ s h.cons.1,lget_cons]
  by_cases he:e.1=s
  ·subst he
   rw [if_pos rfl,lget_ahead h]
   show nput g e.1 _ e.1=_
   unfold nput;rw [if_pos rfl]
  ·rw [if_neg he]
   have:st2 g e s=g s:=by show nput g e.1 _ s=_;unfold nput;rw [if_neg (fun h=>he h.symm)]
   rw [this]
theorem fold_take {α β:Type} (f:β→α→β) (b:β) (l:List α) (k:Nat) (x:α) (h:l[k]?=some x):(l.take (k+1)).foldl f b=f ((l.take k).foldl f b) x:=by
 have hk:k<l.length:=(List.getElem?_eq_some_iff.1 h).1
 have hx:l[k]=x:=(List.getElem?_eq_some_iff.1 h).2
 rw [List.take_succ_eq_append_getElem hk,List.foldl_append,hx];rfl
def pairF (U L:BS) (n:Nd):Nf:=(L.all (belV U n)).1.foldl st2 ((U.all n.1).1.foldl st1 (fun _=>none))
section
variable {S U L:BS} {room:Nat}
theorem all_sorted (hI:Inv S room) (d:Int):Sorted (S.all d).1:=by
 unfold BS.all
 split
 ·exact List.Pairwise.nil
 ·exact hI.sorted _
theorem all_get (S:BS) (d:Int) (s:ByteArray):(S.get d s).1=(lget s (S.all d).1).getD 0:=by
 unfold BS.get BS.all
 by_cases h:S.dirE d false≠0
 ·rw [if_pos h,if_pos h];rfl
 ·rw [if_neg h,if_neg h]
  cases lget s (S.at d).dir with
  | none=>rfl
  | some v=>rfl
theorem all_len (hI:Inv S room) (d:Int):(S.all d).1.length≤4000:=by
 unfold BS.all
 split
 ·exact Nat.zero_le _
 ·exact hI.dirLen _
theorem all_size (hI:Inv S room) (d:Int):∀ x,x∈(S.all d).1→x.1.size≤60:=fun x hx=>by
 unfold BS.all at hx
 split at hx
 ·cases hx
 ·exact (cb.nerr_len (hI.good _ x hx).1).2
theorem pairF_is {r1 r2:Nat} (hU:Inv U r1) (hL:Inv L r2) (n:Nd) (s:ByteArray):(pairF U L n s=none∧pairV U L n s=(0,0))∨pairF U L n s=some (pairV U L n s):=by
 unfold pairF pairV
 rw [fold2 _ _ _ (all_sorted hL _),fold1 _ _ _ (all_sorted hU _),all_get,all_get]
 cases lget s (L.all (belV U n)).1 with
 | some v =>
  right
  cases lget s (U.all n.1).1 <;> rfl
 | none =>
  cases lget s (U.all n.1).1 with
  | some v=>right;rfl
  | none=>left;exact ⟨rfl,rfl⟩
theorem seen_names {r1 r2:Nat} (hU:Inv U r1) (hL:Inv L r2) (n:Nd) (s:ByteArray) (hl:lstV U L n=0):(getV U L n s).2=0↔∃ p,pairF U L n s=some p∧seenV U L p≠(0,0):=by
 unfold getV
 rw [if_neg (by rw [hl];decide)]
 have h0:seenV U L (0,0)=(0,0):=by rw [seen_none (kind_zero U),kind_zero L];rfl
 rcases pairF_is hU hL n s with ⟨h1,h2⟩|h1
 ·rw [h1,h2,h0,if_pos rfl]
  exact ⟨fun e=>absurd e (by decide),fun ⟨p,e,_⟩=>nomatch e⟩
 ·rw [h1]
  by_cases h3:seenV U L (pairV U L n s)=(0,0)
  ·rw [if_pos h3]
   exact ⟨fun e=>absurd e (by decide),fun ⟨p,e,e2⟩=>by injection e with e;rw [← e] at e2;exact absurd h3 e2⟩
  ·rw [if_neg h3]
   exact ⟨fun _=>⟨_,rfl,h3⟩,fun _=>rfl⟩
end
end Go.Proofs.YtgoddboicjfkcaaGreat.mg
namespace Go.Proofs.YtgoddboicjfkcaaGreat.mg
open Go.RowKit
open dn (En lget lset ldel nerr dotB Sorted lessB ERow Sl Ao)
open br (BS Ino Inv fresh)
open cb (BrX RetW RetI No)
open bl (Pq Only)
def SE (w:World) (M:Nat) (o:Option Nat) (L:List En):Prop:=∀ k x,L[k]?=some x→∃ G,o=some G∧M<G∧G<w.heap.size∧w.cell? ⟨G,k*2,none⟩=some (.string x.1)∧w.cell? ⟨G,k*2+1,none⟩=some (.int .i64 x.2)
theorem SE.of {w:World} {M lo c:Nat} {o:Option Nat} {L:List En} (h:Sl w lo o c L) (hM:M<lo):SE w M o L:=fun k x hk=>by
 cases o with
 | none=>obtain ⟨rfl,_⟩:=h;cases hk
 | some G =>
  obtain ⟨h1,h2⟩:=h
  exact ⟨G,rfl,by omega,h2.lt,(h2.at_ hk).1,(h2.at_ hk).2⟩
theorem SE.only {w w':World} {M:Nat} {o:Option Nat} {L:List En} (h:SE w M o L) (ho:Only (fun b=>b=M) w w'):SE w' M o L:=fun k x hk=>by
 obtain ⟨G,e,h1,h2,h3,h4⟩:=h k x hk
 have hb:=ho.block G h2 (by omega)
 exact ⟨G,e,h1,Nat.lt_of_lt_of_le h2 ho.size,(World.cell?_of_block (a:=⟨G,k*2,none⟩) hb).trans h3,(World.cell?_of_block (a:=⟨G,k*2+1,none⟩) hb).trans h4⟩
theorem only_grown {w w':World} {M:Nat} (h:w.grownBy w' (some M)):Only (fun b=>b=M) w w':=⟨h.os,h.tape,h.output,h.size,fun k hk hF=>h.block k hk (fun e=>hF (by cases e;rfl))⟩
theorem only_bel {w w':World} {F:Nat→Prop} (h:Below w.heap.size w w'):Only F w w':=⟨h.os,h.tape,h.output,h.size,fun k hk _=>h.block k hk⟩
theorem bel_only {w0 w w':World} {M:Nat} (hb:Below w0.heap.size w0 w) (h:Only (fun b=>b=M) w w') (hM:w0.heap.size≤M):Below w0.heap.size w0 w' :=
 hb.trans ⟨h.os,h.tape,h.output,h.size,fun k hk=>h.block k (Nat.lt_of_lt_of_le hk hb.size) fun e=>by omega⟩
theorem Vx.allU {w:World} {V P1 P2:Nat} {u l:Int} {U L:BS} (h:Vx w V P1 P2 u l U L) (i:Int):Calls Tryz.prog 53 #[Pq P1,.int .i64 i] w (fun e w'=>∃ o c,e=.returned (.tuple #[.slice (dn.Ao o) (U.all i).1.length c,.int .i64 (U.all i).2])∧(U.all i).1.length≤c∧c≤maxLen∧dn.Sl w' w.heap.size o c (U.all i).1∧Below w.heap.size w w'):=by obtain ⟨_,_,_,k⟩:=h.b1;exact cb.x_all k i
theorem Vx.allL {w:World} {V P1 P2:Nat} {u l:Int} {U L:BS} (h:Vx w V P1 P2 u l U L) (i:Int):Calls Tryz.prog 53 #[Pq P2,.int .i64 i] w (fun e w'=>∃ o c,e=.returned (.tuple #[.slice (dn.Ao o) (L.all i).1.length c,.int .i64 (L.all i).2])∧(L.all i).1.length≤c∧c≤maxLen∧dn.Sl w' w.heap.size o c (L.all i).1∧Below w.heap.size w w'):=by obtain ⟨_,_,_,k⟩:=h.b2;exact cb.x_all k i
def PairsE (w:World) (f:Nf) (e:Ending) (w':World):Prop:=∃ M S,e=.returned (.map (some M))∧MapN w' M S f∧w.heap.size≤M∧Below w.heap.size w w'
theorem pairs_any {w:World} {V P1 P2:Nat} {u l:Int} {U L:BS} {r1 r2:Nat} (h:Vx w V P1 P2 u l U L) (hU:Inv U r1) (hL:Inv L r2) (n:Nd):Calls Tryz.prog 78 #[Pq V,Nv n] w (PairsE w (pairF U L n)):=by
 obtain ⟨n1,n2⟩:=n
 obtain ⟨w2,hw2⟩:∃ w2,(w.alloc (.cells #[.int .i64 n1,.int .i64 n2] 24)).alloc (.map #[] 0)=w2:=⟨_,rfl⟩
 have hb2:Below w.heap.size w w2:=by rw [← hw2];exact bel_step (bel_alloc _ _) (bel_alloc _ _)
 have hn2:Nb w2 w.heap.size (n1,n2):=by rw [← hw2];exact (Nb.new w n1 n2).below (bel_alloc _ _)
 have hm2:MapN w2 (w.heap.size+1) 0 (fun _=>none):=by rw [← hw2];have:=MapN.made (w.alloc (.cells #[.int .i64 n1,.int .i64 n2] 24));rwa [World.size_alloc] at this
 have HB:=Lib.hid hb2
 have HN:=Lib.hid hn2
 have HM:=Lib.hid hm2
 have HVX:=Lib.hid (fun W (hb:Below w.heap.size w W)=>h.below hb)
 have HSF:=Lib.hid (show ∀ W,Below w.heap.size w W→W.cell? ⟨V,0,none⟩=some (Pq P1)∧W.cell? ⟨V,1,none⟩=some (Pq P2) from fun W hb=>⟨(h.below hb).c0,(h.below hb).c1⟩)
 have HAU:=Lib.hid (fun W (hb:Below w.heap.size w W)=>(h.below hb).allU n1)
 have HAL:=Lib.hid (fun W (hb:Below w.heap.size w W)=>(h.below hb).allL (belV U (n1,n2)))
 have HFF:=Lib.hid (show pairF U L (n1,n2)=(L.all (belV U (n1,n2))).1.foldl st2 ((U.all n1).1.foldl st1 (fun _=>none)) from rfl)
 have HLU:=Lib.hid (And.intro (all_len hU n1) (all_size hU n1))
 have HLL:=Lib.hid (And.intro (all_len hL (belV U (n1,n2))) (all_size hL (belV U (n1,n2))))
 have HBV:=Lib.hid (fun W (hb:Below w.heap.size w W)=>below_any (h.below hb) (n1,n2))
 unfold RetI at HBV
 generalize pairF U L (n1,n2)=pf at *
 generalize belV U (n1,n2)=be at *
 generalize (U.all n1).1=lu at *
 generalize (U.all n1).2=eu at *
 generalize (L.all be).1=ll at *
 generalize (L.all be).2=el at *
 clear h hU hL hb2 hn2 hm2
 obtain ⟨g,hg⟩:∃ g,w.heap.size=g:=⟨_,rfl⟩
 have HGB:=Lib.hid hg
 rw [hg] at HN HM
 have hmk:=@run_makeMap Tryz.prog 119 (w.alloc (.cells #[.int .i64 n1,.int .i64 n2] 24))
 obtain ⟨k0,k1⟩:=HSF.out _ HB.out
 obtain ⟨t0,t1⟩:=HN.out
 dsimp only at t0 t1
 unfold PairsE
 go_enter Tryz.func78,Tryz.ntmps78
 go_wp2_with fail
 go_region_held3 (fun w'=>w'.cell? ⟨V,0,none⟩=some (Pq P1)∧w'.cell? ⟨g,0,none⟩=some (.int .i64 n1))
  (first|exact ⟨k0,t0⟩|exact S8|assumption|go_keep)
  (first|(go_at_call 53;((with_reducible refine (HAU.out _ HB.out.drew).mono ?_);rintro _ w8 ⟨o1,c1,rfl,hlc1,hcm1,hsl1,hb8⟩;have HS8:=Lib.hid ((Below.refl w2.heap.size w2).drew.trans hb8);have HB8:=Lib.hid (bel_step HB.out HS8.out);have HN8:=Lib.hid (HN.out.below HS8.out);have HM8:=Lib.hid (HM.out.below HS8.out);have HE8:=Lib.hid (SE.of hsl1 (show g+1<_ from HM.out.lt));have S8:=And.intro (HSF.out _ HB8.out).1 HN8.out.c0)))
 all_goals
  clear k0 k1 t0 t1 S8 hb8 hsl1 hw2 hmk HS8
  have HMg:=Lib.hid (show w.heap.size≤g+1 by have:=HGB.out;omega)
  have HL0:=Lib.hid (show 0≤4000 by omega)
  go_wp2_with fail
  go_loopg [27] lu.length (fun g' sk wr=>∃ k:Nat,g'+k=lu.length∧sk=.int .i64 k∧Hid (MapN wr (g+1) (0+k) ((lu.take k).foldl st1 (fun _=>none)))∧Hid (Only (fun b=>b=(g+1)) w8 wr))
  case atStart=>exact ⟨0,by omega,rfl,HM8,Lib.hid (Only.refl _ _)⟩
  case round =>
   clear HM8
   obtain ⟨k,hgk,rfl,HMk,HO⟩:=hrel
   by_cases hgo:k<lu.length
   ·have hx:lu[k]?=some lu[k]:=List.getElem?_eq_getElem hgo
    have hft:=fold_take st1 (fun _=>none) lu k _ hx
    have hxs:=HLU.out.2 _ (List.getElem_mem hgo)
    obtain ⟨Fk,hFk⟩:∃ F,(lu.take k).foldl st1 (fun _=>none)=F:=⟨_,rfl⟩
    rw [hFk] at hft HMk
    clear hFk
    obtain ⟨G,hGe,hMG,hGl,f0,f1⟩:=(HE8.out.only HO.out) k _ hx
    generalize lu[k]=x at *
    obtain ⟨xs,xv⟩:=x
    dsimp only at f0 f1 hxs
    have hxm:xs.size≤maxLen:=by unfold maxLen;omega
    obtain ⟨w9,hw9⟩:∃ w9,wr.alloc (.cells #[.string xs,.int .i64 xv] 125)=w9:=⟨_,rfl⟩
    have hb9:Below wr.heap.size wr w9:=by rw [← hw9];exact bel_alloc _ _
    have b0:w9.cell? ⟨wr.heap.size,0,none⟩=some (.string xs):=by rw [← hw9];simp
    have b1:w9.cell? ⟨wr.heap.size,1,none⟩=some (.int .i64 xv):=by rw [← hw9];simp
    obtain ⟨gb,hgb⟩:∃ gb,wr.heap.size=gb:=⟨_,rfl⟩
    have HM9:=Lib.hid (HMk.out.below hb9)
    have HO9:=Lib.hid (HO.out.trans (only_bel hb9))
    rw [hgb] at b0 b1
    have hkl:0+k≤1000000:=by have:=HLU.out.1;have:=HL0.out;omega
    obtain ⟨w10,hrun,hm10,hg10⟩:=HM9.out.put hkl hxm (xv,0)
    have HM10:=Lib.hid (show MapN w10 (g+1) (0+(k+1)) ((lu.take (k+1)).foldl st1 (fun _=>none)) by rw [hft];exact hm10)
    have HO10:=Lib.hid (HO9.out.trans (only_grown hg10))
    unfold Nv at hrun
    clear hft hxs hMG hm10 hg10 HMk HO HM9 HO9 hb9 hxm 
    subst hGe
    go_wp2_with fail
    go_roundg (lu.length - (k+1))
    case measure=>omega
    case rel=>exact ⟨k+1,by omega,by go_num,HM10,HO10⟩
   ·have hk:k=lu.length:=by omega
    subst hk
    have HM1:=Lib.hid (show MapN wr (g+1) lu.length (lu.foldl st1 (fun _=>none)) by have:=HMk.out;rwa [List.take_length,Nat.zero_add] at this)
    have HB1:=Lib.hid (bel_only HB8.out HO.out HMg.out)
    have HN1:=Lib.hid (show Nb wr g (n1,n2) from HN8.out.same (HO.out.block g HN8.out.lt (by omega)))
    clear HMk HO HB8 HN8 HAU HB HN HM
    obtain ⟨k0,k1⟩:=HSF.out _ HB1.out
    obtain ⟨t0,t1⟩:=HN1.out
    dsimp only at t0 t1
    go_wp2_with fail
    go_region_held3 (fun w'=>w'.cell? ⟨V,1,none⟩=some (Pq P2)∧w'.cell? ⟨g,0,none⟩=some (.int .i64 n1)∧w'.cell? ⟨g,1,none⟩=some (.int .i64 n2))
     (first|exact ⟨k1,t0,t1⟩|exact S8|exact S9|assumption|go_keep)
     (first|(go_at_call 73;((with_reducible refine (HBV.out _ HB1.out.drew).mono ?_);rintro _ w8 ⟨rfl,hb8⟩;have HS8:=Lib.hid ((Below.refl wr.heap.size wr).drew.trans hb8);have HB8:=Lib.hid (bel_step HB1.out HS8.out);have HN8:=Lib.hid (HN1.out.below HS8.out);have HM8:=Lib.hid (HM1.out.below HS8.out);have S8:=And.intro (HSF.out _ HB8.out).2 (And.intro HN8.out.c0 HN8.out.c1)))|(go_at_call 53;((with_reducible refine (HAL.out _ HB8.out).mono ?_);rintro _ wa ⟨o2,c2,rfl,hlc2,hcm2,hsl2,hba⟩;have HBa:=Lib.hid (bel_step HB8.out hba);have HNa:=Lib.hid (HN8.out.below hba);have HMa:=Lib.hid (HM8.out.below hba);have HEa:=Lib.hid (SE.of hsl2 (show (g+1)<_ from HM8.out.lt));have S9:=And.intro (HSF.out _ HBa.out).2 (And.intro HNa.out.c0 HNa.out.c1))))
    all_goals
     clear k0 k1 t0 t1 S8 S9 hb8 HS8 HB8 HN8 HM8 HB1 HN1 HM1 hba hsl2 HBV HAL HSF HVX
     have HBASE:=Lib.hid (show lu.foldl st1 (fun _=>none)=lu.foldl st1 (fun _=>none) from rfl)
     generalize hbase:lu.foldl st1 (fun _=>none)=base at HMa HBASE HFF
     have HL0:=Lib.hid (show lu.length≤4000 from HLU.out.1)
     go_wp2_with fail
     go_loopg [51] ll.length (fun g' sk wr=>∃ k:Nat,g'+k=ll.length∧sk=.int .i64 k∧Hid (MapN wr (g+1) (lu.length+k) ((ll.take k).foldl st2 base))∧Hid (Only (fun b=>b=(g+1)) wa wr))
     case atStart=>exact ⟨0,by omega,rfl,HMa,Lib.hid (Only.refl _ _)⟩
     case round =>
      clear HMa
      obtain ⟨k,hgk,rfl,HMk,HO⟩:=hrel
      by_cases hgo:k<ll.length
      ·have hx:ll[k]?=some ll[k]:=List.getElem?_eq_getElem hgo
       have hft:=fold_take st2 base ll k _ hx
       have hxs:=HLL.out.2 _ (List.getElem_mem hgo)
       obtain ⟨Fk,hFk⟩:∃ F,(ll.take k).foldl st2 base=F:=⟨_,rfl⟩
       rw [hFk] at hft HMk
       clear hFk
       obtain ⟨G,hGe,hMG,hGl,f0,f1⟩:=(HEa.out.only HO.out) k _ hx
       generalize ll[k]=x at *
       obtain ⟨xs,xv⟩:=x
       dsimp only at f0 f1 hxs
       have hxm:xs.size≤maxLen:=by unfold maxLen;omega
       obtain ⟨w9,hw9⟩:∃ w9,wr.alloc (.cells #[.string xs,.int .i64 xv] 125)=w9:=⟨_,rfl⟩
       have hb9:Below wr.heap.size wr w9:=by rw [← hw9];exact bel_alloc _ _
       have b0:w9.cell? ⟨wr.heap.size,0,none⟩=some (.string xs):=by rw [← hw9];simp
       have b1:w9.cell? ⟨wr.heap.size,1,none⟩=some (.int .i64 xv):=by rw [← hw9];simp
       obtain ⟨gb,hgb⟩:∃ gb,wr.heap.size=gb:=⟨_,rfl⟩
       have HM9:=Lib.hid (HMk.out.below hb9)
       have HO9:=Lib.hid (HO.out.trans (only_bel hb9))
       rw [hgb] at b0 b1
       have hkl:lu.length+k≤1000000:=by have:=HLL.out.1;have:=HL0.out;omega
       obtain ⟨pr,hpr⟩:∃ pr,((Fk xs).getD (0,0))=pr:=⟨_,rfl⟩
       have hlk:=HM9.out.look hxm
       rw [hpr] at hlk
       obtain ⟨pr1,pr2⟩:=pr
       have hfe:∀ W,(Instr.field 24 (.agg #[.int .i64 pr1,.int .i64 pr2]) 0).run Tryz.prog W=.ok (.int .i64 pr1) W:=fun _=>rfl
       obtain ⟨w10,hrun,hm10,hg10⟩:=HM9.out.put hkl hxm (pr1,xv)
       have HM10:=Lib.hid (show MapN w10 (g+1) (lu.length+(k+1)) ((ll.take (k+1)).foldl st2 base) by rw [hft];show MapN w10 (g+1) _ (nput Fk xs (((Fk xs).getD (0,0)).1,xv));rw [hpr];exact hm10)
       have HO10:=Lib.hid (HO9.out.trans (only_grown hg10))
       dsimp only [Nv] at hrun hlk
       clear hft hxs hMG hm10 hg10 HMk HO HM9 HO9 hb9 hxm hpr
       subst hGe
       go_wp2_with fail
       go_roundg (ll.length - (k+1))
       case measure=>omega
       case rel=>exact ⟨k+1,by omega,by go_num,HM10,HO10⟩
      ·have hk:k=ll.length:=by omega
       subst hk
       have HMf:=Lib.hid (show MapN wr (g+1) (lu.length+ll.length) pf by rw [HFF.out];have:=HMk.out;rwa [List.take_length] at this)
       have HBf:=Lib.hid (bel_only HBa.out HO.out HMg.out)
       clear HMk HO
       go_wp2_with fail
       go_ret
       exact ⟨g+1,_,rfl,HMf.out,HMg.out,HBf.out⟩
end Go.Proofs.YtgoddboicjfkcaaGreat.mg
