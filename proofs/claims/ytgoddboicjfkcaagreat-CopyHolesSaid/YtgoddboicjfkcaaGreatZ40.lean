/- Part 40 of what is known of the program's functions and of the document's words: contracts, and the mathematics beneath them. -/
import Derived.Test.YtgoddboicjfkcaaGreatProg
import Derived.Test.YtgoddboicjfkcaaGreatZ24
import Derived.Test.YtgoddboicjfkcaaGreatZ32
import Derived.Test.YtgoddboicjfkcaaGreatZ37
import Derived.Test.YtgoddboicjfkcaaGreatZ39
import Derived.Deep.RegionHeld3
import Derived.Test.YtgoddboicjfkcaaGreatZ38
import Derived.Lib.Strings
import Derived.WalkKit
import Derived.WalkSpells
import Derived.WalkLawsBesides
import Derived.Lib.Hide
import Derived.Deep.LoopGhost
import Derived.Deep.DeepMust
import Derived.Deep.DeepFit
import Derived.Deep.QuietTactic
import Derived.BigQuiet
import Derived.Test.YtgoddboicjfkcaaGreatZ02
import Derived.RegionTactic
import Derived.ChangeAlike
set_option linter.unusedVariables false
set_option linter.unusedSimpArgs false
set_option maxRecDepth 100000
set_option maxHeartbeats 8000000
namespace Go.Proofs.YtgoddboicjfkcaaGreat.mg
open Go.RowKit Go.Deep
open br (BS Ino Inv fresh)
open cb (BrX RetW RetI No)
open bl (Pq)
def QRead (w:World) (S:BS) (i off n:Int) (e:Ending) (w':World):Prop:=∃ v,e=.returned (.tuple #[v,.int .i64 (cb.readI S i off n).1])∧w'.ownsRow w.heap.size 5 1 v (cb.readI S i off n).2 (bl.rowF (cb.readI S i off n).2 (fun j=>(S.at i).body.dat (off.toNat+j)))∧Below w.heap.size w w'
theorem Vd.read1 {w:World} {D1 D2:Nat} {U L:BS} (h:Vd w D1 D2 U L) (i off sz:Int):Calls Tryz.prog 86 #[Pq D1,.int .i64 i,.int .i64 off,.int .i64 sz] w (QRead w U i off sz):=by obtain ⟨_,_,_,_,_,k,g⟩:=h.d1;exact cb.q_read k g i off sz
theorem Vd.read2 {w:World} {D1 D2:Nat} {U L:BS} (h:Vd w D1 D2 U L) (i off sz:Int):Calls Tryz.prog 86 #[Pq D2,.int .i64 i,.int .i64 off,.int .i64 sz] w (QRead w L i off sz):=by obtain ⟨_,_,_,_,_,k,g⟩:=h.d2;exact cb.q_read k g i off sz
def QReadN (w:World) (U L:BS) (n:Nd) (off sz:Int) (e:Ending) (w':World):Prop :=
 (kindV U L n=0∧e=.returned (.tuple #[.slice none 0 0,.int .i64 2])∧Below w.heap.size w w')∨(kindV U L n≠0∧QRead w (readN U L n).1 (readN U L n).2 off sz e w')
theorem qread_lo {w w0 w':World} {S:BS} {i off n:Int} {e:Ending} (hb:Below w0.heap.size w0 w) (h:QRead w S i off n e w'):QRead w0 S i off n e w':=by
 obtain ⟨v,e1,h1,h2⟩:=h
 exact ⟨v,e1,⟨h1.1,h1.2.imp id fun ⟨g,cap,cur,a,b,c⟩=>⟨g,cap,cur,a,Nat.le_trans hb.size b,c⟩⟩,bel_step hb h2⟩
theorem rread_any {w:World} {D1 D2:Nat} {u l:Int} {U L:BS} (h:Vd w D1 D2 U L) (n:Nd) (off sz:Int):Calls Tryz.prog 29 #[Rv D1 D2 u l,Nv n,.int .i64 off,.int .i64 sz] w (QReadN w U L n off sz):=by
 obtain ⟨n1,n2⟩:=n
 have HF:=Lib.hid (show ∀ w1,(w.alloc (.cells #[Pq D1,Pq D2,.int .i64 u,.int .i64 l] 36)).alloc (.cells #[.int .i64 n1,.int .i64 n2] 24)=w1→Below w.heap.size w w1∧R4 w1 w.heap.size D1 D2 u l∧Nb w1 (w.heap.size+1) (n1,n2) from fun w1 hw1=>by
  rw [← hw1]
  refine ⟨bel_step (bel_alloc _ _) (bel_alloc _ _),(R4.new w D1 D2 u l).below (bel_alloc _ _),?_⟩
  have:=Nb.new (w.alloc (.cells #[Pq D1,Pq D2,.int .i64 u,.int .i64 l] 36)) n1 n2
  rwa [World.size_alloc] at this)
 have HK:=Lib.hid (fun W (hb:Below w.heap.size w W)=>rkind_any (u:=u) (l:=l) (h.below hb) (n1,n2))
 have HT1:=Lib.hid (fun W (hb:Below w.heap.size w W)=>(h.below hb).read1 n1 off sz)
 have HT2:=Lib.hid (fun W (hb:Below w.heap.size w W)=>(h.below hb).read2 n2 off sz)
 have HQ0:=Lib.hid (show ∀ W,kindV U L (n1,n2)=0→Below w.heap.size w W→QReadN w U L (n1,n2) off sz (.returned (.tuple #[.slice none 0 0,.int .i64 2])) W from fun W a b=>.inl ⟨a,rfl,b⟩)
 have HQ1:=Lib.hid (show ∀ W e W',kindV U L (n1,n2)≠0→n1≠0→Below w.heap.size w W→QRead W U n1 off sz e W'→QReadN w U L (n1,n2) off sz e W' from fun W e W' a b c d=>.inr ⟨a,by have:=qread_lo c d;unfold readN;dsimp only;rw [if_pos b];exact this⟩)
 have HQ2:=Lib.hid (show ∀ W e W',kindV U L (n1,n2)≠0→n1=0→Below w.heap.size w W→QRead W L n2 off sz e W'→QReadN w U L (n1,n2) off sz e W' from fun W e W' a b c d=>.inr ⟨a,by have:=qread_lo c d;unfold readN;dsimp only;rw [if_neg (by simpa using b)];exact this⟩)
 obtain ⟨kv,hkv⟩:∃ k,kindV U L (n1,n2)=k:=⟨_,rfl⟩
 rw [hkv] at HK HQ0 HQ1 HQ2
 obtain ⟨PQ,hPQ⟩:∃ P,QReadN w U L (n1,n2) off sz=P:=⟨_,rfl⟩
 rw [hPQ] at HQ0 HQ1 HQ2 ⊢
 unfold RetI at HK
 obtain ⟨g,hg⟩:∃ g,w.heap.size=g:=⟨_,rfl⟩
 have HGB:=Lib.hid hg
 rw [hg] at HF
 clear h hkv hPQ
 go_enter Tryz.func29,Tryz.ntmps29
 go_upto_region 1 with fail
 generalize hw1:(w.alloc (.cells #[Pq D1,Pq D2,.int .i64 u,.int .i64 l] 36)).alloc (.cells #[.int .i64 n1,.int .i64 n2] 24)=w1
 obtain ⟨hb1,hr1,hn1⟩:=HF.out w1 hw1
 have HB1:=Lib.hid (show Below w.heap.size w w1 by rw [HGB.out];exact hb1)
 have HR1:=Lib.hid hr1
 have HN1:=Lib.hid hn1
 clear hb1 hr1 hn1 HF hw1
 obtain ⟨k0,k1,k2,k3⟩:=HR1.out
 obtain ⟨m0,m1⟩:=HN1.out
 dsimp only at m0 m1
 go_wp2_with fail
 refine (HK.out _ HB1.out).mono ?_
 rintro _ w2 ⟨rfl,hb2⟩
 have HB2:=Lib.hid (bel_step HB1.out hb2)
 have HR2:=Lib.hid (HR1.out.below hb2)
 have HN2:=Lib.hid (HN1.out.below hb2)
 clear k0 k1 k2 k3 m0 m1 hb2 HB1 HR1 HN1
 by_cases h0:kv=0
 case pos =>
  subst h0
  have hq:=HQ0.out w2 rfl HB2.out
  clear HT1 HT2 HQ1 HQ2
  go_wp2_with fail
  exact hq
 have q0:(kv == 0)=false:=by simpa using h0
 obtain ⟨k0,k1,k2,k3⟩:=HR2.out
 obtain ⟨m0,m1⟩:=HN2.out
 dsimp only at m0 m1
 by_cases hn:n1=0
 ·have qn:(n1 != 0)=false:=by simpa using hn
  have HQ:=Lib.hid (fun e W'=>HQ2.out w2 e W' h0 hn HB2.out)
  have ht:=HT2.out _ HB2.out
  clear HT1 HT2 HQ0 HQ1 HQ2 h0 hn
  go_wp2_with fail
  refine ht.mono ?_
  intro e w3 he
  have hq:=HQ.out _ _ he
  obtain ⟨v,rfl,-,-⟩:=he
  clear HQ ht k0 k1 k2 k3 m0 m1
  go_wp2_with fail
  exact hq
 ·have qn:(n1 != 0)=true:=by simpa using hn
  have HQ:=Lib.hid (fun e W'=>HQ1.out w2 e W' h0 hn HB2.out)
  have ht:=HT1.out _ HB2.out
  clear HT1 HT2 HQ0 HQ1 HQ2 h0 hn
  go_wp2_with fail
  refine ht.mono ?_
  intro e w3 he
  have hq:=HQ.out _ _ he
  obtain ⟨v,rfl,-,-⟩:=he
  clear HQ ht k0 k1 k2 k3 m0 m1
  go_wp2_with fail
  exact hq
end Go.Proofs.YtgoddboicjfkcaaGreat.mg
namespace Go.Proofs.YtgoddboicjfkcaaGreat.mg
open Go.RowKit Go.Deep
open br (BS Ino Inv fresh)
open cb (BrX RetW RetI No statV)
open bl (Pq)
theorem R4.lo {w w':World} {g D1 D2 X:Nat} {u l:Int} (h:R4 w g D1 D2 u l) (hb:Below X w w') (hx:g<X):R4 w' g D1 D2 u l :=
 ⟨(hb.cell (p:=⟨g,0,none⟩) hx).trans h.c0,(hb.cell (p:=⟨g,1,none⟩) hx).trans h.c1,(hb.cell (p:=⟨g,2,none⟩) hx).trans h.c2,(hb.cell (p:=⟨g,3,none⟩) hx).trans h.c3⟩
theorem Nb.lo {w w':World} {g X:Nat} {n:Nd} (h:Nb w g n) (hb:Below X w w') (hx:g<X):Nb w' g n:=⟨(hb.cell (p:=⟨g,0,none⟩) hx).trans h.c0,(hb.cell (p:=⟨g,1,none⟩) hx).trans h.c1⟩
end Go.Proofs.YtgoddboicjfkcaaGreat.mg
namespace Go.Proofs.YtgoddboicjfkcaaGreat.mg
open Go.RowKit Go.Deep
open br (BS Ino Inv fresh)
open cb (BrX RetW RetI No statV)
open bl (Pq strF rowF)
theorem own_convF {w:World} {base n c:Nat} {A:Option Addr} {f:Nat→UInt8} (h:w.ownsRow base 5 1 (.slice A n c) n (rowF n f)):(convert 53 9 (.slice A n c)).run Tryz.prog w=.ok (.string (strF n f)) w:=by
 rcases h.2 with ⟨h0,h1⟩|⟨g,cap,cur,hv,_⟩
 ·injection h0 with a1 a2 a3
  subst a1 h1
  exact Lib.run_convert_nil_bytes w 53 9 5 c Tryz.underlying53 Tryz.underlying5 Tryz.underlying9
 ·injection hv with a1 a2 a3
  subst a1
  refine bl.conv_cells fun i hi=>?_
  refine h.cells (g:=g) rfl i _ ?_
  exact bl.rowF_get f hi
theorem own_ofslice {w:World} {lo n:Nat} {v:Value} {L:List Value} (h:w.ownsRow lo 5 1 v n L):∃ A c,v=.slice A n c:=by
 rcases h.2 with ⟨h1,h2⟩|⟨g,cap,cur,h1,_⟩
 ·exact ⟨none,0,by rw [h1,h2]⟩
 ·exact ⟨_,cap,h1⟩
theorem ownr_below {w w':World} {lo t k n:Nat} {v:Value} {L:List Value} (h:w.ownsRow lo t k v n L) (hb:Below w.heap.size w w'):w'.ownsRow lo t k v n L:=by
 refine ⟨h.1,h.2.imp id fun ⟨g,cap,cur,a,b,c,d⟩=>⟨g,cap,cur,a,b,(hb.block g (h.lt g (by rw [a];rfl)).2).trans c,d⟩⟩
def rdN (U L:BS) (n:Nd) (off sz:Int):Int×ByteArray :=
 if kindV U L n=0 then (2,⟨#[]⟩) else ((cb.readI (readN U L n).1 (readN U L n).2 off sz).1,strF (cb.readI (readN U L n).1 (readN U L n).2 off sz).2 (fun j=>((readN U L n).1.at (readN U L n).2).body.dat (off.toNat+j)))
def RdE (w:World) (r:Int×ByteArray) (e:Ending) (w':World):Prop :=
 ∃ A m c,e=.returned (.tuple #[.slice A m c,.int .i64 r.1])∧(∀ W,Below w'.heap.size w' W→(convert 53 9 (.slice A m c)).run Tryz.prog W=.ok (.string r.2) W)∧Below w.heap.size w w'
theorem rd_nil (W:World):(convert 53 9 (.slice none 0 0)).run Tryz.prog W=.ok (.string ⟨#[]⟩) W:=Lib.run_convert_nil_bytes W 53 9 5 0 Tryz.underlying53 Tryz.underlying5 Tryz.underlying9
theorem rd_doc {w:World} {U L:BS} {n:Nd} {off sz:Int} {e:Ending} {w':World} (h:QReadN w U L n off sz e w'):RdE w (rdN U L n off sz) e w':=by
 unfold rdN
 rcases h with ⟨h0,h1,h2⟩|⟨h0,v,h1,h2,h3⟩
 ·rw [if_pos h0];exact ⟨none,0,0,h1,fun W _=>rd_nil W,h2⟩
 ·rw [if_neg h0]
  obtain ⟨A,c,rfl⟩:=own_ofslice h2
  exact ⟨A,_,c,h1,fun W hb=>own_convF (ownr_below h2 hb),h3⟩
end Go.Proofs.YtgoddboicjfkcaaGreat.mg
namespace Go.Proofs.YtgoddboicjfkcaaGreat.pa
abbrev Bs:=List UInt8
def compsA:Bs→Bs→List Bs
 | cur,[]=>if cur.isEmpty then [] else [cur]
 | cur,c::r=>if c=47 then (if cur.isEmpty then compsA [] r else cur::compsA [] r) else compsA (cur++[c]) r
def comps (l:Bs):List Bs:=compsA [] l
def one (cur:Bs):List Bs:=if cur.isEmpty then [] else [cur]
theorem compsA_nil (cur:Bs):compsA cur []=one cur:=by simp [compsA,one]
theorem compsA_slash (cur r:Bs):compsA cur (47::r)=one cur++comps r:=by
 simp only [compsA,comps,one,if_pos]
 split <;> rfl
theorem compsA_other (cur r:Bs) (c:UInt8) (h:c≠47):compsA cur (c::r)=compsA (cur++[c]) r:=by
 simp [compsA,h]
theorem compsA_run (x cur r:Bs) (h:∀ c∈x,c≠47):compsA cur (x++r)=compsA (cur++x) r:=by
 induction x generalizing cur with
 | nil=>simp
 | cons c x ih =>
  rw [List.cons_append,compsA_other _ _ _ (h c (by simp)),ih _ (fun d hd=>h d (by simp [hd]))]
  simp
theorem compsA_mid (a cur b:Bs):compsA cur (a++47::b)=compsA cur a++comps b:=by
 induction a generalizing cur with
 | nil=>rw [List.nil_append,compsA_slash,compsA_nil]
 | cons c a ih =>
  by_cases h:c=47
  ·subst h
   rw [List.cons_append,compsA_slash,compsA_slash,List.append_assoc]
   exact congrArg _ (ih [])
  ·rw [List.cons_append,compsA_other _ _ _ h,compsA_other _ _ _ h,ih]
theorem comps_mid (a b:Bs):comps (a++47::b)=comps a++comps b:=compsA_mid a [] b
theorem comps_nil:comps []=[]:=by simp [comps,compsA]
theorem comps_one (x:Bs) (h:∀ c∈x,c≠47):comps x=one x:=by
 have:=compsA_run x [] [] h
 rw [List.append_nil,List.nil_append,compsA_nil] at this
 exact this
theorem one_ne (x:Bs) (h:x≠[]):one x=[x]:=by cases x <;> simp_all [one]
theorem one_nil:one []=[]:=rfl
theorem compsA_count (l cur:Bs):(compsA cur l).length≤cur.length+l.length:=by
 induction l generalizing cur with
 | nil =>
  rw [compsA_nil]
  cases cur <;> simp [one]
 | cons c l ih =>
  by_cases h:c=47
  ·subst h
   rw [compsA_slash]
   have:=ih []
   have e:(compsA [] l)=comps l:=rfl
   rw [e] at this
   cases cur <;> simp [one] at this ⊢ <;> omega
  ·rw [compsA_other _ _ _ h]
   have:=ih (cur++[c])
   simp at this ⊢
   omega
theorem comps_count (l:Bs):(comps l).length≤l.length:=by have:=compsA_count l [];rw [List.length_nil,Nat.zero_add] at this;exact this
def nms (l:Bs):List Bs:=(comps l).filter fun x=>!(x == [46])
def lastDots (xs:List Bs):Bool:=match xs.getLast? with|some x=>x == [46] || x == [46,46]|none=>false
def pdir (l:Bs):Bool:=(comps l).isEmpty || Lib.hasSuffix l [47] || lastDots (comps l)
def perr (l:Bs):Int :=
 if l=[] then 2 else if 400<l.length then 36 else if (0:UInt8)∈l then 22
 else if ∃ x∈comps l,60<x.length then 36 else if 40<(nms l).length then 36 else 0
def pnames (l:Bs):List Bs:=if perr l=0 then nms l else []
def pdirE (l:Bs):Bool:=if perr l=0 then pdir l else false
theorem perr_zero {l:Bs}:perr l=0↔l≠[]∧l.length≤400∧(0:UInt8)∉l∧(∀ x∈comps l,x.length≤60)∧(nms l).length≤40:=by
 unfold perr
 by_cases h1:l=[]
 ·simp [h1]
 ·by_cases h2:400<l.length
  ·simp [h1,h2]
   omega
  ·by_cases h3:(0:UInt8)∈l
   ·simp [h1,h2,h3]
   ·by_cases h4:∃ x∈comps l,60<x.length
    ·obtain ⟨x,hx,hl⟩:=h4
     have h4':∃ x∈comps l,60<x.length:=⟨x,hx,hl⟩
     rw [if_neg h1,if_neg h2,if_neg h3,if_pos h4']
     refine ⟨by simp,fun ⟨_,_,_,h,_⟩=>?_⟩
     have:=h x hx
     omega
    ·have h4':∀ x∈comps l,x.length≤60:=fun x hx=>by
      rcases Nat.lt_or_ge 60 x.length with h|h
      ·exact absurd ⟨x,hx,h⟩ h4
      ·exact h
     by_cases h5:40<(nms l).length
     ·rw [if_neg h1,if_neg h2,if_neg h3,if_neg h4,if_pos h5]
      exact ⟨by simp,fun ⟨_,_,_,_,h⟩=>by omega⟩
     ·rw [if_neg h1,if_neg h2,if_neg h3,if_neg h4,if_neg h5]
      exact ⟨fun _=>⟨h1,by omega,h3,h4',by omega⟩,fun _=>rfl⟩
theorem pnames_ok {l:Bs} (h:perr l=0):pnames l=nms l:=by simp [pnames,h]
theorem pdirE_ok {l:Bs} (h:perr l=0):pdirE l=pdir l:=by simp [pdirE,h]
theorem pnames_no {l:Bs} (h:perr l≠0):pnames l=[]:=by simp [pnames,h]
theorem pdirE_no {l:Bs} (h:perr l≠0):pdirE l=false:=by simp [pdirE,h]
def gath (xs:List Bs):List Bs:=xs.filter fun x=>!(x == [46])
theorem gath_snoc (xs:List Bs) (x:Bs):gath (xs++[x])=gath xs++if x=[46] then [] else [x]:=by
 unfold gath
 rw [List.filter_append]
 by_cases h:x=[46] <;> simp [h]
theorem gath_le (xs:List Bs):(gath xs).length≤xs.length:=List.length_filter_le _ _
theorem gath_comps (l:Bs):gath (comps l)=nms l:=rfl
end Go.Proofs.YtgoddboicjfkcaaGreat.pa
namespace Go.Proofs.YtgoddboicjfkcaaGreat.pa
open Go.RowKit
abbrev Sv (x:Bs):Value:=.string ⟨x.toArray⟩
theorem addr_block (a:Addr) (n:Nat):(a.add n).block=a.block:=by unfold Addr.add;split <;> rfl
def Strs (w:World) (B:Nat) (A:Option Addr) (xs:List Bs):Prop :=
 0<xs.length→∃ ad,A=some ad∧ad.block<B∧∀ j x,xs[j]?=some x→w.cell? (ad.add j)=some (Sv x)
theorem Strs.keep {w w':World} {B:Nat} {A:Option Addr} {xs:List Bs} (h:Strs w B A xs) (hk:∀ p:Addr,p.block<B→w'.cell? p=w.cell? p):Strs w' B A xs:=fun hn=>by
 obtain ⟨ad,e,hb,hc⟩:=h hn
 exact ⟨ad,e,hb,fun j x hx=>(hk _ (by rw [addr_block];exact hb)).trans (hc j x hx)⟩
theorem Strs.below {w w':World} {B:Nat} {A:Option Addr} {xs:List Bs} (h:Strs w B A xs) (hb:Below B w w'):Strs w' B A xs:=h.keep fun _ hp=>hb.cell hp
theorem Strs.get {w:World} {B:Nat} {A:Option Addr} {xs:List Bs} (h:Strs w B A xs) {k:Nat} (hk:k<xs.length) :
  ∃ ad x,A=some ad∧ad.block<B∧xs[k]?=some x∧w.cell? (ad.add k)=some (Sv x):=by
 obtain ⟨ad,e,hb,hc⟩:=h (by omega)
 exact ⟨ad,xs[k],e,hb,List.getElem?_eq_getElem hk,hc k _ (List.getElem?_eq_getElem hk)⟩
def Own (w':World) (B:Nat) (A:Option Addr) (c:Nat) (xs:List Bs):Prop:=w'.ownsRow B 9 1 (.slice A xs.length c) xs.length (xs.map Sv)
theorem Own.strs {w':World} {B:Nat} {A:Option Addr} {c:Nat} {xs:List Bs} (h:Own w' B A c xs):Strs w' w'.heap.size A xs:=by
 intro hn
 rcases h.2 with ⟨e,h0⟩|⟨g,cap,cur,hv,hb,hg,_⟩
 ·omega
 ·injection hv with hA
  subst hA
  refine ⟨_,rfl,(Array.getElem?_eq_some_iff.1 hg).1,fun j x hx=>?_⟩
  exact World.ownsRow.cells h (g:=g) rfl j (Sv x) (by rw [List.getElem?_map,hx];rfl)
theorem Own.keep {w w':World} {B:Nat} {A:Option Addr} {c:Nat} {xs:List Bs} (h:Own w B A c xs) (hb:Below w.heap.size w w'):Own w' B A c xs:=by
 unfold Own at h ⊢
 exact h.kept (row:=none) ⟨hb.os,hb.tape,hb.output,hb.size,fun k hk _=>hb.block k hk⟩ (by cases hv:(Value.slice A xs.length c).ownBlock <;> simp)
theorem own_base {w:World} {B B':Nat} {e:TypeId} {size:Nat} {v:Value} {n:Nat} {xs:List Value} (h:w.ownsRow B e size v n xs) (hB:B'≤B):w.ownsRow B' e size v n xs:=by
 refine ⟨h.1,?_⟩
 rcases h.2 with h2|⟨g,cap,cur,hv,hb,r⟩
 ·exact .inl h2
 ·exact .inr ⟨g,cap,cur,hv,by omega,r⟩
theorem Own.base {w:World} {B B':Nat} {A:Option Addr} {c:Nat} {xs:List Bs} (h:Own w B A c xs) (hB:B'≤B):Own w B' A c xs:=own_base h hB
theorem Own.set {w:World} {B:Nat} {A:Option Addr} {c:Nat} {xs:List Bs} (h:Own w B A c xs) {a:Addr} (ha:a.block<B) (u:Value):Own (w.setCell a u) B A c xs:=ownsRow_setCell_below h ha u
theorem own_form {w:World} {B n:Nat} {v:Value} {xs:List Bs} (h:w.ownsRow B 9 1 v n (xs.map Sv)):∃ A c,v=.slice A xs.length c∧Own w B A c xs∧n=xs.length:=by
 have hn:n=xs.length:=by have:=h.1;simp at this;omega
 subst hn
 rcases h.2 with ⟨e,h0⟩|⟨g,cap,cur,hv,_⟩
 ·refine ⟨none,0,by rw [e,h0],?_,rfl⟩
  unfold Own
  rw [h0,← e,← h0]
  exact h
 ·refine ⟨_,cap,hv,?_,rfl⟩
  unfold Own
  rw [← hv]
  exact h
theorem drop_take_snoc (l:Bs) (i j:Nat) (hij:i≤j) (hj:j<l.length):(l.drop i).take (j+1 - i)=(l.drop i).take (j - i)++[l[j]]:=by
 rw [show j+1 - i=(j - i)+1 from by omega,List.take_succ_eq_append_getElem (by rw [List.length_drop];omega)]
 simp [List.getElem_drop,Nat.add_sub_cancel' hij]
theorem info9:(Tryz.prog.info? 9).map (fun i=>(i.zero,i.size,i.bytes))=some (some (.string ByteArray.empty),1,16):=by kernel_rfl
def OwnE (w:World) (xs:List Bs) (e:Ending) (w':World):Prop:=∃ A c,e=.returned (.slice A xs.length c)∧Own w' w.heap.size A c xs∧Below w.heap.size w w'
theorem ownE_of {w w':World} {v:Value} {n:Nat} {xs:List Bs} (h:w'.ownsRow w.heap.size 9 1 v n (xs.map Sv)) (hb:Below w.heap.size w w'):OwnE w xs (.returned v) w':=by
 obtain ⟨A,c,rfl,ho,-⟩:=own_form h
 exact ⟨A,c,rfl,ho,hb⟩
theorem ex_list (s:ByteArray) (k j:Nat):Value.string (s.extract k j)=Sv ((s.data.toList.drop k).take (j - k)):=by rw [Lib.extract_eq]
theorem comps_step (L:Bs) (k j:Nat) (hkj:k≤j) (hj:j<L.length) (hn:∀ c∈(L.drop k).take (j - k),c≠47) (h:L[j]=47) :
  comps (L.drop k)=one ((L.drop k).take (j - k))++comps (L.drop (j+1)):=by
 have e:L.drop k=(L.drop k).take (j - k)++47::L.drop (j+1):=by
  have h1:(L.drop k).drop (j - k)=47::L.drop (j+1):=by
   rw [List.drop_drop,show k+(j - k)=j from by omega,List.drop_eq_getElem_cons hj,h]
  rw [← h1,List.take_append_drop]
 conv=>lhs;rw [e]
 rw [comps_mid,comps_one _ hn]
theorem comps_last (L:Bs) (k:Nat) (hk:k<L.length) (hn:∀ c∈(L.drop k).take (L.length - k),c≠47):comps (L.drop k)=[(L.drop k).take (L.length - k)]:=by
 have e:L.drop k=(L.drop k).take (L.length - k):=(List.take_of_length_le (by simp)).symm
 conv=>lhs;rw [e]
 rw [comps_one _ hn,one_ne]
 intro h
 have:=congrArg List.length h
 simp at this
 omega
theorem getD_data (s:ByteArray) (j:Nat) (h:j<s.size):s[j]=s.data.toList[j]'(by rw [← Lib.size_eq];exact h):=by rfl
theorem components_any (s:ByteArray) (w:World) (hs:s.size≤400) :
    Calls Tryz.prog 248 #[.string s] w (OwnE w (comps s.data.toList)):=by
  obtain ⟨i0,hi,hz0,hz1,hz2⟩:=info_parts info9
  have HL:=Lib.hid (Lib.size_eq s)
  go_enter Tryz.func248,Tryz.ntmps248
  go_wp2
  go_step3
  go_wp2
  go_step3
  go_wp2
  go_loopg [3,4] s.size (fun g v i wr=>∃ (k:Nat) (pre:List Bs),k≤s.size∧g+k=s.size∧i=.int .i64 k∧Hid (comps s.data.toList=pre++comps (s.data.toList.drop k))∧pre.length≤k ∧
      wr.ownsRow w.heap.size 9 1 v pre.length (pre.map Sv)∧Below w.heap.size w wr)
  case atStart=>exact ⟨0,[],by omega,by omega,rfl,(by show _=_;simp),by simp,World.ownsRow_nil _ _ _ _,Below.refl _ _⟩
  case round =>
    obtain ⟨k,pre,hk,hg,rfl,HC,hp,hown,hb⟩:=hrel
    by_cases hlt:k<s.size
    · go_wp2
      go_loopg [3,4,5] s.size (fun g2 v3 v4 e wy=>u3=v3∧v4=.int .i64 k∧∃ j:Nat,k≤j∧j≤s.size∧g2+j=s.size+k∧e=.int .i64 j∧Hid (∀ c∈(s.data.toList.drop k).take (j - k),c≠47)∧wr=wy)
      case atStart=>exact ⟨rfl,rfl,k,Nat.le_refl _,hk,by omega,rfl,(by show ∀ _,_;simp),rfl⟩
      case round =>
        obtain ⟨rfl,rfl,j,hkj,hj,hg2,rfl,HN,rfl⟩:=hrel
        by_cases hjl:j<s.size
        · have hjL:j<s.data.toList.length:=by rw [← Lib.size_eq];exact hjl
          by_cases h47:s[j]=47
          · have hT:(((s[j]).toNat:Int) != 47)=false:=by rw [h47];rfl
            have HS:=Lib.hid (comps_step s.data.toList k j hkj hjL HN.out (by rw [← getD_data s j hjl];exact h47))
            clear h47
            by_cases hjk:k<j
            · go_wp2_with (at_builtin;refine wpList_append_own _ rfl (.tmp 24) (.tmp 29) 43 rfl w.heap.size 9 i0 _ 1 16 Tryz.underlying43 hi hz0 hz1 hz2 rfl (by decide) u3 pre.length (pre.map Sv) rfl (hown.alloc _) ⟨wr.heap.size,0,none⟩ 1 1 [.string (s.extract k j)] rfl rfl (cell_one_new _ _ _) (by intro u hu;simp at hu;subst hu;rfl) (by unfold maxLen;omega) (by omega) (by have:=hb.size;simp;omega) ?_;intro v1 w1 hown1 hgrow1 _)
              go_roundg (s.size - (j+1))
              case measure=>omega
              case rel =>
                have HS':=HS.out
                rw [one_ne _ (by intro h;have:=congrArg List.length h;simp at this;omega)] at HS'
                refine ⟨j+1,pre++[(s.data.toList.drop k).take (j - k)],by omega,by omega,by go_num,?_,by simp;omega,?_,?_⟩
                · show _=_
                  rw [HC.out,HS',List.append_assoc]
                · rw [ex_list] at hown1
                  simpa using hown1
                · exact (hb.alloc hb.size _).grown hgrow1 (by have:=hb.size;simp;omega) (fun g hg'=>(hown.lt g hg').1)
            · have hje:j=k:=by omega
              subst hje
              go_wp2
              go_roundg (s.size - (j+1))
              case measure=>omega
              case rel =>
                have HS':=HS.out
                rw [Nat.sub_self,List.take_zero,one_nil,List.nil_append] at HS'
                exact ⟨j+1,pre,by omega,by omega,by go_num,(by show _=_;rw [HC.out,HS']),by omega,hown,hb⟩
          · have hT:(((s[j]).toNat:Int) != 47)=true:=by
              simp only [bne_iff_ne,ne_eq]
              intro h
              exact h47 (UInt8.toNat_inj.1 (by have:s[j].toNat=47:=(by omega);simpa using this))
            have HN':Hid (∀ c∈(s.data.toList.drop k).take (j+1 - k),c≠47):=by
              show ∀ _,_
              rw [drop_take_snoc _ _ _ hkj hjL]
              intro c hc
              rw [List.mem_append,List.mem_singleton] at hc
              rcases hc with hc|rfl
              · exact HN.out c hc
              · rw [← getD_data s j hjl];exact h47
            clear h47
            go_wp2
            go_roundg (gk - 1)
            case measure=>omega
            case rel=>exact ⟨rfl,rfl,j+1,by omega,by omega,by omega,by go_num,HN',rfl⟩
        · have hje:j=s.size:=by omega
          have HS:=Lib.hid (comps_last s.data.toList k (by rw [← Lib.size_eq];exact hlt) (by rw [← Lib.size_eq,← hje];exact HN.out))
          clear hjl
          have hjl:¬ ((j:Int)<(s.size:Int)):=by omega
          clear hje
          go_wp2_with (at_builtin;refine wpList_append_own _ rfl (.tmp 33) (.tmp 37) 43 rfl w.heap.size 9 i0 _ 1 16 Tryz.underlying43 hi hz0 hz1 hz2 rfl (by decide) u3 pre.length (pre.map Sv) rfl (hown.alloc _) ⟨wr.heap.size,0,none⟩ 1 1 [.string (s.extract k s.size)] rfl rfl (cell_one_new _ _ _) (by intro u hu;simp at hu;subst hu;rfl) (by unfold maxLen;omega) (by omega) (by have:=hb.size;simp;omega) ?_;intro v1 w1 hown1 hgrow1 _)
          try rw [Exit.noGoto_ret]
          go_ret
          have hfin:comps s.data.toList=pre++[(s.data.toList.drop k).take (s.size - k)]:=by rw [HC.out,HS.out,HL.out]
          rw [hfin]
          rw [ex_list] at hown1
          refine ownE_of (n:=pre.length+1) (by simpa using hown1) ?_
          exact (hb.alloc hb.size _).grown hgrow1 (by have:=hb.size;simp;omega) (fun g hg'=>(hown.lt g hg').1)
    · have hje:k=s.size:=by omega
      have hfin:comps s.data.toList=pre:=by
        rw [HC.out,List.drop_eq_nil_of_le (by rw [← Lib.size_eq];omega),comps_nil,List.append_nil]
      have HF:=Lib.hid hfin
      have hkl:¬ ((k:Int)<(s.size:Int)):=by omega
      clear hje hfin hlt
      go_wp2
      try rw [Exit.noGoto_ret]
      go_ret
      rw [HF.out]
      exact ownE_of hown hb
def dotB (x:Bs):Bool:=x == [46] || x == [46,46]
theorem dots_any (x:Bs) (w:World):Calls Tryz.prog 251 #[Sv x] w fun e w'=>e=.returned (.bool (dotB x))∧w=w':=by
 go_enter Tryz.func251,Tryz.ntmps251
 go_wp2
 all_goals (go_ret;exact ⟨by simp_all [dotB],rfl⟩)
def endB (L:Bs) (xs:List Bs):Bool:=xs.isEmpty || Lib.hasSuffix L [47] || lastDots xs
theorem ends_none (s:ByteArray) (A:Option Addr) (c:Nat) (w:World) :
  Calls Tryz.prog 249 #[.string s,.slice A 0 c] w fun e w'=>e=.returned (.bool (endB s.data.toList []))∧w=w':=by
 go_enter Tryz.func249,Tryz.ntmps249
 go_wp2
 go_ret
 exact ⟨rfl,rfl⟩
theorem ends_some (s:ByteArray) (A:Option Addr) (c:Nat) (ys:List Bs) (x:Bs) (B:Nat) (w:World) (hs:s.size≤400) (hl:ys.length≤400) (h:Strs w B A (ys++[x])) :
  Calls Tryz.prog 249 #[.string s,.slice A (ys.length+1) c] w fun e w'=>e=.returned (.bool (endB s.data.toList (ys++[x])))∧w=w':=by
 obtain ⟨ad,y,rfl,_,hy,hcell⟩:=h.get (k:=ys.length) (by simp)
 rw [List.getElem?_append_right (Nat.le_refl _)] at hy
 simp at hy
 subst hy
 have HF:=Lib.hid (show endB s.data.toList (ys++[x])=(Lib.hasSuffix s.data.toList [47] || dotB x) by unfold endB;rw [show (ys++[x]).isEmpty=false by cases ys <;> rfl];simp [lastDots,dotB])
 clear h
 go_enter Tryz.func249,Tryz.ntmps249
 go_wp2_with (first
  | (go_at_call 254;refine (Tryz.strings_HasSuffix _ _ _ (by omega)).mono ?_;rintro e w' ⟨rfl,rfl⟩)
  | (go_at_call 251;refine (dots_any _ _).mono ?_;rintro e w' ⟨rfl,rfl⟩))
 all_goals (go_ret;refine ⟨?_,rfl⟩;rw [HF.out])
 ·have h2:(((ys.length:Int)+1 == 0)=true∨Lib.hasSuffix s.data.toList [47]=true):=by assumption
  have h3:Lib.hasSuffix s.data.toList [47]=true:=by
   rcases h2 with h2|h2
   ·rw [beq_iff_eq] at h2;omega
   ·exact h2
  rw [h3];rfl
 ·have h2:(((ys.length:Int)+1 == 0)=false∧Lib.hasSuffix s.data.toList [47]=false):=by assumption
  rw [h2.2];rfl
theorem ends_any (s:ByteArray) (A:Option Addr) (n c:Nat) (xs:List Bs) (B:Nat) (w:World) (hn:n=xs.length) (hs:s.size≤400) (hl:xs.length≤400) (h:Strs w B A xs) :
  Calls Tryz.prog 249 #[.string s,.slice A n c] w fun e w'=>e=.returned (.bool (endB s.data.toList xs))∧w=w':=by
 subst hn
 rcases List.eq_nil_or_concat xs with rfl|⟨ys,x,rfl⟩
 ·exact ends_none s A c w
 ·rw [List.concat_eq_append] at h hl ⊢
  rw [List.length_append]
  exact ends_some s A c ys x B w hs (by simp at hl;omega) h
abbrev Pv (A:Option Addr) (n c:Nat) (d:Bool):Value:=.agg #[.slice A n c,.bool d]
def LastNo (w:World) (e:Ending) (w':World):Prop:=e=.returned (.tuple #[Pv none 0 0 false,Sv [],.int .i64 16])∧Below w.heap.size w w'
def LastYes (w:World) (ys:List Bs) (x:Bs) (e:Ending) (w':World):Prop :=
 ∃ A c,e=.returned (.tuple #[Pv A ys.length c true,Sv x,.int .i64 0])∧Own w' w.heap.size A c ys∧Below w.heap.size w w'
theorem last_none (A:Option Addr) (c:Nat) (d:Bool) (w:World):Calls Tryz.prog 238 #[Pv A 0 c d] w (LastNo w):=by
 go_enter Tryz.func238,Tryz.ntmps238
 go_wp2
 exact bodyPost_ret (v:=.tuple #[Pv none 0 0 false,Sv [],.int .i64 16]) (by simp [results,Tryz.results238,go_sem]) rfl ⟨rfl,((Below.refl _ _).alloc (Nat.le_refl _) _).alloc (by simp) _⟩
theorem last_get {w:World} {B:Nat} {A:Option Addr} {ys:List Bs} {x:Bs} (h:Strs w B A (ys++[x])) :
  ∃ ad,A=some ad∧ad.block<B∧w.cell? (ad.add ys.length)=some (Sv x)∧∀ (j:Nat) y,ys[j]?=some y→w.cell? (ad.add j)=some (Sv y):=by
 obtain ⟨ad,rfl,hb,hc⟩:=h (by simp)
 refine ⟨ad,rfl,hb,hc _ _ (by simp),fun j y hy=>hc j y ?_⟩
 rw [List.getElem?_append_left (List.getElem?_eq_some_iff.1 hy).1]
 exact hy
theorem last_dots (A:Option Addr) (c B:Nat) (d:Bool) (ys:List Bs) (x:Bs) (w:World) (hl:ys.length≤65536) (hB:B≤w.heap.size) (hx:Strs w B A (ys++[x])) (hd:dotB x=true) :
  Calls Tryz.prog 238 #[Pv A (ys.length+1) c d] w (LastNo w):=by
 obtain ⟨ad,rfl,hb,hcell,-⟩:=last_get hx
 have hc1:∀ o1 o2,((w.alloc o1).alloc o2).cell? (ad.add ys.length)=some (Sv x):=fun o1 o2=>by
  rw [World.cell?_alloc_lt _ _ _ (by rw [addr_block];simp;omega),World.cell?_alloc_lt _ _ _ (by rw [addr_block];omega)];exact hcell
 clear hcell hx
 generalize ys.length=n at *
 go_enter Tryz.func238,Tryz.ntmps238
 go_wp2_with (go_at_call 251;refine (dots_any _ _).mono ?_;rintro e w' ⟨rfl,rfl⟩)
 exact bodyPost_ret (v:=.tuple #[Pv none 0 0 false,Sv [],.int .i64 16]) (by simp [results,Tryz.results238,go_sem]) rfl ⟨rfl,((Below.refl _ _).alloc (Nat.le_refl _) _).alloc (by simp) _⟩
theorem last_yes (A:Option Addr) (c B:Nat) (d:Bool) (ys:List Bs) (x:Bs) (w:World) (hl:ys.length≤65536) (hc:ys.length+1≤c) (hB:B≤w.heap.size) (hx:Strs w B A (ys++[x])) (hd:dotB x=false) :
  Calls Tryz.prog 238 #[Pv A (ys.length+1) c d] w (LastYes w ys x):=by
 obtain ⟨i0,hi,hz0,hz1,hz2⟩:=info_parts info9
 obtain ⟨ad,rfl,hb,hcell,hcs⟩:=last_get hx
 have hk:∀ o1 o2 p,p.block<B→((w.alloc o1).alloc o2).cell? p=w.cell? p:=fun o1 o2 p hp=>by
  rw [World.cell?_alloc_lt _ _ _ (by simp;omega),World.cell?_alloc_lt _ _ _ (by omega)]
 have hc1:∀ o1 o2,((w.alloc o1).alloc o2).cell? (ad.add ys.length)=some (Sv x):=fun o1 o2=>(hk _ _ _ (by rw [addr_block];exact hb)).trans hcell
 have HC:=Lib.hid (show ∀ o1 o2 (j:Nat) u,(ys.map Sv)[j]?=some u→((w.alloc o1).alloc o2).cell? (ad.add j)=some u by
  intro o1 o2 j u hu
  rw [List.getElem?_map,Option.map_eq_some_iff] at hu
  obtain ⟨y,hy,rfl⟩:=hu
  exact (hk _ _ _ (by rw [addr_block];exact hb)).trans (hcs j y hy))
 clear hcell hx hcs hk
 obtain ⟨n,hn⟩:∃ n,n=ys.length:=⟨_,rfl⟩
 have HN:=Lib.hid hn
 rw [← hn] at hc1 hl hc ⊢
 clear hn
 go_enter Tryz.func238,Tryz.ntmps238
 go_wp2_with (first
  | (go_at_call 251;refine (dots_any _ _).mono ?_;rintro e w' ⟨rfl,rfl⟩)
  | (at_builtin;go_must (refine wpList_append_own _ rfl _ (.tmp 25) 43 rfl (w.heap.size+2) 9 i0 _ 1 16 Tryz.underlying43 hi hz0 hz1 hz2 rfl (by decide) (.slice none 0 0) 0 [] rfl (World.ownsRow_nil _ _ _ _) ad n c (ys.map Sv) rfl (by rw [List.length_map,← HN.out];omega) (HC.out _ _) (by intro u hu;simp at hu;obtain ⟨_,_,rfl⟩:=hu;rfl) (by unfold maxLen;omega) (by omega) (by simp) ?_);intro v1 w2 hown1 hgrow1 _))
 have hb2:Below (w.heap.size+2) ((w.alloc (.cells #[.slice (some ad) (n+1) c,.bool d] 292)).alloc (.cells #[.slice none 0 0,.bool false] 292)) w2 :=
  (Below.refl _ _).grown hgrow1 (by simp) (fun k hk=>by simp [Value.ownBlock] at hk)
 have hb1:Below w.heap.size w w2:=(((Below.refl _ _).alloc (Nat.le_refl _) _).alloc (by simp) _).trans (hb2.mono (by omega))
 have sz:w.heap.size+2≤w2.heap.size:=by have:=hb2.size;simpa using this
 have q0:w2.cell? ⟨w.heap.size,0,none⟩=some (.slice (some ad) (n+1) c):=by rw [hb2.cell (p:=⟨w.heap.size,0,none⟩) (by simp)];simp [World.cell?_alloc_past]
 have r0:w2.cell? ⟨w.heap.size+1,0,none⟩=some (.slice none 0 0):=by rw [hb2.cell (p:=⟨w.heap.size+1,0,none⟩) (by simp)];simp
 have r1:w2.cell? ⟨w.heap.size+1,1,none⟩=some (.bool false):=by rw [hb2.cell (p:=⟨w.heap.size+1,1,none⟩) (by simp)];simp
 have f0:w2.frozen? ⟨w.heap.size+1,0,none⟩=false:=by rw [hb2.frozen (p:=⟨w.heap.size+1,0,none⟩) (by simp)];simp
 have f1:w2.frozen? ⟨w.heap.size+1,1,none⟩=false:=by rw [hb2.frozen (p:=⟨w.heap.size+1,1,none⟩) (by simp)];simp
 have hc2:w2.cell? (ad.add n)=some (Sv x):=by rw [hb2.cell (p:=ad.add n) (by rw [addr_block];omega)];exact hc1 _ _
 rw [List.nil_append] at hown1
 obtain ⟨A1,c1,rfl,hown,-⟩:=own_form hown1
 clear hc1 hb2 hgrow1 hown1
 have hc3:∀ u1 u2,((w2.setCell ⟨w.heap.size+1,0,none⟩ u1).setCell ⟨w.heap.size+1,1,none⟩ u2).cell? (ad.add n)=some (Sv x):=fun u1 u2=>by
  have hne:∀ i,ad.add n≠⟨w.heap.size+1,i,none⟩:=fun i e=>by
   have:=congrArg Addr.block e
   rw [addr_block] at this
   simp at this
   omega
  rw [World.cell?_setCell_other _ _ _ _ (fun e=>hne _ e.symm),World.cell?_setCell_other _ _ _ _ (fun e=>hne _ e.symm)]
  exact hc2
 go_region
 all_goals go_wp2
 refine bodyPost_ret (v:=.tuple #[Pv A1 ys.length c1 true,Sv x,.int .i64 0]) (by simp [results,Tryz.results238,go_sem,r0,r1]) rfl ⟨A1,c1,rfl,?_,?_⟩
 ·exact ((hown.set (by simp) _).set (by simp) _).base (by omega)
 ·exact ((hb1.setCell (by simp) _).setCell (by simp) _).drew
def lastNo (xs:List Bs):Bool:=match xs.getLast? with|some x=>dotB x|none=>true
theorem last_any (A:Option Addr) (n c B:Nat) (d:Bool) (xs:List Bs) (w:World) (hn:n=xs.length) (hl:n≤65536) (hc:n≤c) (hB:B≤w.heap.size) (hx:Strs w B A xs) :
  (lastNo xs=true∧Calls Tryz.prog 238 #[Pv A n c d] w (LastNo w))∨∃ ys x,xs=ys++[x]∧dotB x=false∧Calls Tryz.prog 238 #[Pv A n c d] w (LastYes w ys x):=by
 subst hn
 rcases List.eq_nil_or_concat xs with rfl|⟨ys,x,rfl⟩
 ·exact .inl ⟨rfl,last_none A c d w⟩
 ·rw [List.concat_eq_append] at hx hl hc ⊢
  rw [List.length_append,List.length_singleton] at hl hc ⊢
  cases hd:dotB x
  ·exact .inr ⟨ys,x,rfl,hd,last_yes A c B d ys x w (by omega) hc hB hx hd⟩
  ·exact .inl ⟨by simp [lastNo,hd],last_dots A c B d ys x w (by omega) hB hx hd⟩
end Go.Proofs.YtgoddboicjfkcaaGreat.pa
