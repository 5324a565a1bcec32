/- Part 50 of what is known of the program's functions and of the document's words: contracts, and the mathematics beneath them. -/
import Derived.Test.YtgoddboicjfkcaaGreatProg
import Derived.Test.YtgoddboicjfkcaaGreatZ35
import Derived.Test.YtgoddboicjfkcaaGreatZ49
import Derived.Test.YtgoddboicjfkcaaGreatZ37
set_option linter.unusedVariables false
set_option linter.unusedSimpArgs false
set_option maxRecDepth 100000
set_option maxHeartbeats 8000000
namespace Go.Proofs.YtgoddboicjfkcaaGreat.cu
open Go.RowKit
open dn (En lget lset ldel nerr dotB Sorted)
open br (BS Ino Inv at_nat abE nameE fresh)
open bl (AB)
open cb (newI)
open mg (Nd opq kindV getV rootV belV)
open fl (Ln treeF)
set_option maxRecDepth 100000
abbrev za:ByteArray:=⟨#[97]⟩
abbrev zb:ByteArray:=⟨#[98]⟩
abbrev zc:ByteArray:=⟨#[99]⟩
abbrev zz:ByteArray:=⟨#[122]⟩
abbrev zxy:ByteArray:=⟨#[120,121]⟩
def zl2:List Ln:=[⟨⟨#[47,97]⟩,2,⟨#[]⟩⟩,⟨⟨#[47,97,47,98]⟩,1,zxy⟩]
def aL:BS:=(treeF 65536 fresh zl2).getD fresh
theorem aL_some:(treeF 65536 fresh zl2).isSome=true:=by decide +kernel
theorem aL_is:treeF 65536 fresh zl2=some aL:=by
 unfold aL
 cases h:treeF 65536 fresh zl2 with
 | some S=>rfl
 | none=>have:=aL_some;rw [h] at this;cases this
def aU:BS:=(descF aL S0 2 (rootV S0 aL 2 1) [za]).2
theorem aw_node:walkV S0 aL (rootV S0 aL 2 1) [za,zb]=((0,3),0):=by decide +kernel
theorem aw_desc1:(descF aL S0 2 (rootV S0 aL 2 1) [za]).1=(((4,(4,2)),0)):=by decide +kernel
theorem aw_desc:descF aL S0 2 (rootV S0 aL 2 1) [za]=(((4,(4,2)),0),aU):=Prod.ext aw_desc1 rfl
theorem aw_b:getV aU aL (4,2) zb=((0,3),0):=by decide +kernel
theorem aw_kb:kindV aU aL (0,3)=1:=by decide +kernel
theorem aw_mk:(aU.make 3 draft 1 ⟨#[]⟩).1.2=0:=by decide +kernel
theorem aw_c:getV aU aL (4,2) zc=((0,0),2):=by decide +kernel
theorem aw_z:getV aU aL (2,1) zz=((0,0),2):=by decide +kernel
theorem aw_c4:(aU.get 4 zc).2≠0:=by decide +kernel
theorem aw_a4:getV aU aL (2,1) za=((4,2),0):=by decide +kernel
theorem aw_k4:aU.kindOf 4=2:=by decide +kernel
theorem aw_k2:aU.kindOf 2=2:=by decide +kernel
theorem aw_i2:(aU.ino 2).kind=2:=by decide +kernel
theorem aw_used:aU.used=0:=by decide +kernel
theorem aw_size:(aL.ino 3).body.size=2:=by decide +kernel
theorem aw_text:bl.strF 2 (aL.ino 3).body.dat=zxy:=by decide +kernel
theorem aw_names:nameE zc=0:=by decide +kernel
theorem last_eq {p q:List ByteArray} {t s:ByteArray} (h:p++[t]=q++[s]):p=q∧t=s:=by
 have:=List.append_inj' h rfl
 exact ⟨this.1,by injection this.2⟩
theorem copyB_small {B:AB} (ok:B.Ok):(copyB B).n≤B.size:=by
 have h:bl.cnt 4096 (nz B)≤bl.cnt 4096 (fun k=>decide (k<B.size)):=bl.cnt_le fun k hk=>by
  rw [decide_eq_true_eq]
  apply Classical.byContradiction
  intro e
  unfold nz at hk
  have:allZ 16 (fun j=>B.dat (16*k+j))=true:=allZ_iff.2 fun j hj=>ok.dat _ (by omega)
  rw [this] at hk;cases hk
 refine Nat.le_trans h ?_
 by_cases e:B.size≤4096
 ·rw [fl.cnt_lt _ _ e];exact Nat.le_refl _
 ·exact Nat.le_trans (bl.cnt_max _ _) (by omega)
theorem aU_good:br.Good aU 9:=(desc_ok (L:=aL) (room:=9) [za] (((br.Good.fresh 9).make _ _ _ _).make _ _ _ _) (by decide +kernel) (by decide +kernel) (by decide +kernel)).1
theorem aw_up {v er:Int} {S':BS} (hL:br.Good aL 65536) (h:UpR 9 S0 aL 2 1 3 [za,zb] v er S'):er=0∧∃ n:Nat,v=(n:Int)∧Mk aU S' 4 n zb (fileI (copyB (aL.ino 3).body)):=by
 rcases h with ⟨h,_⟩|⟨p,t,d,a,e1,S1,hp,hd,hc⟩
 ·cases h
 ·obtain ⟨rfl,rfl⟩:=last_eq (p:=[za]) (t:=zb) (q:=p) (s:=t) hp
  rw [aw_desc] at hd
  injection hd with hd1 hd2
  injection hd1 with hd3 hd4
  injection hd3 with hd5 hd6
  subst hd2 hd4 hd5 hd6
  rw [aw_b] at hc
  rcases hc with ⟨h,_⟩|⟨_,h,_⟩|⟨_,_,h,_⟩|⟨_,_,_,h,_⟩|⟨Y,_,h1,_,_,h2,_⟩|⟨Y,_,h1,_,_,h2,_,hc⟩
  ·exact absurd rfl h
  ·exact absurd rfl h
  ·rw [aw_kb] at h;cases h
  ·exact absurd rfl h
  ·injection h1 with h1 _;injection h1 with _ h1
   obtain rfl:Y=3:=by omega
   rw [show (aL.ino 3).kind=1 by decide +kernel] at h2;cases h2
  ·injection h1 with h1 _;injection h1 with _ h1
   obtain rfl:Y=3:=by omega
   rcases hc with ⟨rfl,D,n,e1,e2,hm⟩|⟨e0,_,_,(⟨_,e2⟩|e2)⟩
   ·obtain rfl:D=4:=by omega
    exact ⟨rfl,n,e2,hm⟩
   ·have h5:=copyB_small (hL.1.body 3)
    rw [aw_size] at h5
    rw [aw_used] at e2
    omega
   ·rw [aw_mk] at e2;exact absurd e2 e0
section
variable {S':BS} {n:Nat} {b:AB}
theorem aw_n4 (h:Mk aU S' 4 n zb (fileI b)):((4:Nat):Int)≠(n:Int)∧(2:Int)≠(n:Int) :=
  ⟨h.neN,fun e=>by have h1:=h.hz;have h2:n=2:=(by omega);rw [h2,aw_i2] at h1;cases h1⟩
theorem aw_root2 (h:Mk aU S' 4 n zb (fileI b)):rootV S' aL 2 1=(2,1):=by
 rw [h.rootV (aw_n4 h).2];decide +kernel
theorem aw_chain (h:Mk aU S' 4 n zb (fileI b)):descF aL S' 2 (rootV S' aL 2 1) [za]=(((4,(4,2)),0),S'):=by
 rw [aw_root2 h]
 have g:getV S' aL (2,1) za=((4,2),0):=(h.grow (L:=aL) aU_good.1).got (2,1) (4,2) za aw_k2 aw_a4 (by decide)
 have k:S'.kindOf 4=2:=(h.grow (L:=aL) aU_good.1).dir 4 aw_k4
 exact Ch.again (S:=S') (L:=aL) (a:=((2,1):Nd)) (b:=((4,2):Nd)) (.cons g (by decide) k .nil)
theorem aw_hide {er:Int} {S2:BS} (h:Mk aU S' 4 n zb (fileI b)) (hh:HideR S' aL 2 1 [za,zc] er S2):er=0∧S2=S':=by
 rcases hh with ⟨h,_⟩|⟨p,t,hp,hc⟩
 ·cases h
 ·obtain ⟨rfl,rfl⟩:=last_eq (p:=[za]) (t:=zc) (q:=p) (s:=t) hp
  rcases hc with ⟨h1,_⟩|⟨_,d,a,e1,S1,hd,hc⟩
  ·exact absurd aw_names h1
  ·rw [aw_chain h] at hd
   injection hd with hd1 hd2
   injection hd1 with hd3 hd4
   injection hd3 with hd5 hd6
   subst hd2 hd4 hd5 hd6
   have g1:S'.get 4 zc=aU.get 4 zc:=h.get aU_good.1 (aw_n4 h).1 (fun e=>absurd e.2 (by decide))
   have g2:getV S' aL (4,2) zc=getV aU aL (4,2) zc:=h.getV aU_good.1 (aw_n4 h).1 (fun e=>absurd e.2 (by decide))
   rw [g1,g2] at hc
   rcases hc with ⟨h,_⟩|⟨_,h,_⟩|⟨_,_,_,h1,h2⟩|⟨_,_,h,_⟩
   ·exact absurd rfl h
   ·exact absurd h aw_c4
   ·exact ⟨h1,h2⟩
   ·rw [aw_c] at h;cases h
theorem aw_deep {v er:Int} {S2:BS} (h:Mk aU S' 4 n zb (fileI b)) (hh:UpR 9 S' aL 2 1 3 [zz] v er S2):er=2∧S2=S':=by
 rcases hh with ⟨h,_⟩|⟨p,t,d,a,e1,S1,hp,hd,hc⟩
 ·cases h
 ·obtain ⟨rfl,rfl⟩:=last_eq (p:=[]) (t:=zz) (q:=p) (s:=t) hp
  rw [aw_root2 h] at hd
  injection hd with hd1 hd2
  injection hd1 with hd3 hd4
  injection hd3 with hd5 hd6
  subst hd2 hd4 hd5 hd6
  have g2:getV S' aL (2,1) zz=getV aU aL (2,1) zz:=h.getV aU_good.1 (aw_n4 h).2 (fun e=>absurd e.2 (by decide))
  rw [g2,aw_z] at hc
  rcases hc with ⟨h,_⟩|⟨_,_,_,h1,h2⟩|⟨_,h,_⟩|⟨_,h,_⟩|⟨Y,_,h1,_⟩|⟨Y,_,h1,_⟩
  ·exact absurd rfl h
  ·exact ⟨h1,h2⟩
  ·cases h
  ·cases h
  ·injection h1 with _ h1;cases h1
  ·injection h1 with _ h1;cases h1
theorem aw_bg (h:Mk aU S' 4 n zb (fileI b)):Bg S':=by
 refine h.bg (by decide) (by show (1:Int)≤1;decide) ⟨aw_i2,by decide +kernel,⟨by decide,by decide,by decide +kernel,by decide +kernel,by decide⟩,by decide +kernel,by decide +kernel,fun k=>?_⟩
 by_cases hk:(aU.ino k).kind=2
 ·exact aU_good.1.single k hk
 ·by_cases h5:200<k
  ·rw [aU_good.1.out k (.inr h5)];decide
  ·have:∀ k:Fin 201,(aU.ino k.val).links≤1:=by decide +kernel
   exact this ⟨k,by omega⟩
theorem aw_read (h:Mk aU S' 4 n zb (fileI (copyB (aL.ino 3).body))):cb.readI S' (n:Int) 0 9=(0,2)∧((S'.at (n:Int)).body.dat=(aL.ino 3).body.dat):=by
 have e:(S'.at (n:Int)).body=copyB (aL.ino 3).body:=by rw [at_nat,h.eN];rfl
 refine ⟨?_,by rw [e];rfl⟩
 unfold cb.readI
 rw [cb.fileE_of h.n1 h.n2 (by rw [h.eN];rfl),if_neg (by decide),e]
 unfold bl.readR
 rw [if_neg (by decide)]
 show ((0:Int),min (Int.toNat 9) ((aL.ino 3).body.size - Int.toNat 0))=(0,2)
 rw [aw_size];decide
end
end Go.Proofs.YtgoddboicjfkcaaGreat.cu
namespace Go.Proofs.YtgoddboicjfkcaaGreat.cu
open Go.RowKit Go.Deep
open br (BS Ino Inv at_nat abE nameE)
open cb (BrX RetW RetI No KB KD Res HB Stab NxR Same WrI Wz ReadI newI)
open bl (Pq Only U8 AB)
open mg (Vx Nd Nv Nb R2 R3 bel_step bel_alloc kindV getV rootV)
theorem deepE_any {w0 w:World} {c:Cp} {S L:BS} {r T W:Nat} {M:List Res} {X:Nat→Prop} (h:Zs w0 w c S L r T M X) {A:Option Addr} {l:List ByteArray} {cap:Nat} (hl:NL w X A l) (hn:l.length≤1000) (hcap:l.length≤cap) (hT:T≤600000)
  (hu:S.kindOf c.u=2) (hul:(S.at c.u).links≠0) (ho:Out S W) (hw:c.wk=(W:Int)) (hu1:c.u≠1) (huw:c.u≠c.wk) (hno:∀ v er S',UpR r S L c.u c.l c.wk l v er S'→er≠0) :
  Calls Tryz.prog 51 #[Pq c.C,.slice A l.length cap] w (fun e w'=>∃ (v er:Int) (S':BS),e=.returned (.tuple #[.int .i64 0,.int .i64 er])∧Zs w0 w' c S' L r (T+8000) M X∧Same X w w'∧UpR r S L c.u c.l c.wk l v er S'):=by
 have HU:=Lib.hid (up_any h hl hn hcap hT hu hul ho hw hu1 huw)
 have HNO:=Lib.hid hno
 unfold UpE at HU
 obtain ⟨m,hm⟩:∃ m,l.length=m:=⟨_,rfl⟩
 rw [hm] at HU ⊢
 have HE:=Lib.hid (show ∀ (W:World) (v er:Int) (S':BS),Zs w0 W c S' L r (T+8000) M X→Same X w W→UpR r S L c.u c.l c.wk l v er S'→(fun e w'=>∃ (v er:Int) (S':BS),e=.returned (.tuple #[.int .i64 0,.int .i64 er])∧Zs w0 w' c S' L r (T+8000) M X∧Same X w w'∧UpR r S L c.u c.l c.wk l v er S') (Ending.returned (.tuple #[.int .i64 0,.int .i64 er])) W from
  fun W v er S' a b d=>⟨v,er,S',rfl,a,b,d⟩)
 generalize (fun e w'=>∃ (v er:Int) (S':BS),e=Ending.returned (.tuple #[.int .i64 0,.int .i64 er])∧Zs w0 w' c S' L r (T+8000) M X∧Same X w w'∧UpR r S L c.u c.l c.wk l v er S')=PQ at *
 clear h hl hn hcap hT hu hul ho hw hu1 huw hno hm
 go_enter Tryz.func51,Tryz.ntmps51
 go_wp2_with fail
 refine HU.out.mono ?_
 rintro _ w2 ⟨v,er,S',rfl,hz,hs,hr⟩
 have he:=HNO.out v er S' hr
 have HF:=Lib.hid (HE.out w2 v er S' hz hs hr)
 have q1:(er != 0)=true:=by simpa using he
 clear hz hs hr he HU
 go_wp2_with fail
 exact HF.out
theorem cnew_nil (w:World) (u l wk:Int):Calls Tryz.prog 113 #[.pointer none,.pointer none,.int .i64 u,.int .i64 l,.int .i64 wk] w (fun e w'=>e=.returned (.pointer none)∧w'=w):=by
 go_enter Tryz.func113,Tryz.ntmps113
 go_wp2_with fail
 go_ret
 exact ⟨rfl,rfl⟩
end Go.Proofs.YtgoddboicjfkcaaGreat.cu
namespace Go.Proofs.YtgoddboicjfkcaaGreat.cu
open Go.RowKit Go.Deep
open br (BS Ino Inv at_nat abE nameE fresh)
open cb (BrX RetW RetI No KB KD Res HB Stab NxR Same WrI Wz ReadI newI)
open bl (Pq Only U8 AB)
open mg (Vx Nd Nv Nb R2 R3 bel_step bel_alloc kindV getV rootV AwakeE)
open fl (Ln LR treeF)
section
variable {w0 w:World} {c:Cp} {S L:BS} {r T:Nat} {M:List Res} {X:Nat→Prop}
theorem Zs.row2 (h:Zs w0 w c S L r T M X) {w':World} {g:Nat} (hg:w.heap.size=g) {a b:ByteArray} (hw:w.alloc (.cells #[.string a,.string b] 9)=w') (ha:a.size≤9223372036854775807) (hb:b.size≤9223372036854775807) :
  Zs w0 w' c S L r T M (fun b=>X b∨b=g)∧NL w' (fun b=>X b∨b=g) (some ⟨g,0,none⟩) [a,b]∧Below w.heap.size w w':=by
 subst hg hw
 have hbel:=bel_alloc w (.cells #[.string a,.string b] 9)
 refine ⟨h.box hbel (fun b hb=>hb.imp id fun e=>by rw [e,World.size_alloc];omega) (.inl h.xC) (.inl h.xV),fun j s hj=>?_,hbel⟩
 match j,hj with
 | 0,hj=>injection hj with hj;subst hj;exact ⟨w.heap.size,0,rfl,.inr rfl,by simp,ha⟩
 | 1,hj=>injection hj with hj;subst hj;exact ⟨w.heap.size,0,rfl,.inr rfl,by simp,hb⟩
 | n+2,hj=>cases hj
theorem Zs.row1 (h:Zs w0 w c S L r T M X) {w':World} {g:Nat} (hg:w.heap.size=g) {a:ByteArray} (hw:w.alloc (.cells #[.string a] 9)=w') (ha:a.size≤9223372036854775807) :
  Zs w0 w' c S L r T M (fun b=>X b∨b=g)∧NL w' (fun b=>X b∨b=g) (some ⟨g,0,none⟩) [a]∧Below w.heap.size w w':=by
 subst hg hw
 have hbel:=bel_alloc w (.cells #[.string a] 9)
 refine ⟨h.box hbel (fun b hb=>hb.imp id fun e=>by rw [e,World.size_alloc];omega) (.inl h.xC) (.inl h.xV),fun j s hj=>?_,hbel⟩
 match j,hj with
 | 0,hj=>injection hj with hj;subst hj;exact ⟨w.heap.size,0,rfl,.inr rfl,by simp,ha⟩
 | n+1,hj=>cases hj
end
theorem awake_any (w:World):Calls Tryz.prog 44 #[] w (AwakeE w):=by
 obtain ⟨b,hb⟩:∃ b,w.heap.size=b:=⟨_,rfl⟩
 obtain ⟨w1,hw1⟩:∃ w1,w.alloc (.cells #[.string ⟨#[47,97]⟩,.int .i64 2,.string ⟨#[]⟩,.string ⟨#[47,97,47,98]⟩,.int .i64 1,.string ⟨#[120,121]⟩] 104)=w1:=⟨_,rfl⟩
 have hh:w1.heap[b]?=some (.cells #[.string ⟨#[47,97]⟩,.int .i64 2,.string ⟨#[]⟩,.string ⟨#[47,97,47,98]⟩,.int .i64 1,.string ⟨#[120,121]⟩] 104 (0,0)):=by rw [← hw1,← hb];exact heap_alloc_new w _
 have hb1:Below w.heap.size w w1:=by rw [← hw1];exact bel_alloc _ _
 have hbs:b<w1.heap.size:=by rw [← hw1,← hb,World.size_alloc];omega
 have hlr:LR w1 w1.heap.size (some ⟨b,0,none⟩) zl2:=fun j x hx=>by
  have c:=fun i=>Lib.cell_of_heap hh i
  match j,hx with
  | 0,hx=>injection hx with hx;subst hx;exact ⟨b,0,rfl,hbs,(c 0).trans rfl,(c 1).trans rfl,(c 2).trans rfl⟩
  | 1,hx=>injection hx with hx;subst hx;exact ⟨b,0,rfl,hbs,(c 3).trans rfl,(c 4).trans rfl,(c 5).trans rfl⟩
  | n+2,hx=>cases hx
 have HBG:=Lib.hid (begin_any (A:=none) (c1:=0) (c2:=2) (upper:=[]) (fun j x hx=>by cases hx) hlr (by decide) (by decide) (fun x hx=>nomatch hx) (fun x hx=>by
  rcases List.mem_cons.1 hx with rfl|hx
  ·decide
  ·rcases List.mem_cons.1 hx with rfl|hx
   ·decide
   ·cases hx) (r:=9) (by decide))
 unfold BegE at HBG
 have HF:=Lib.hid (show ∀ W:World,Below w.heap.size w W→AwakeE w (.returned (.bool true)) W from fun W h=>⟨rfl,h⟩)
 obtain ⟨PQ,hPQ⟩:∃ P,AwakeE w=P:=⟨_,rfl⟩
 rw [hPQ] at HF ⊢
 have HB1:=Lib.hid hb1
 clear hh hbs hlr hb1 hPQ
 go_enter Tryz.func44,Tryz.ntmps44
 go_wp2_with fail
 try rw [hw1]
 try rw [hb]
 clear hw1 hb
 refine HBG.out.mono ?_
 rintro _ w2 (⟨-,-,hne⟩|⟨G,c,R,D1,R1,D2,R2',S,Sd,L,T,rfl,hbg,htr,hs0⟩)
 ·have:=hne (by first|rfl|trivial)
  rw [aL_is] at this;cases this
 rw [aL_is] at htr
 injection htr with htr
 subst htr
 have hs:=hs0 (by first|rfl|trivial)
 subst hs
 have HZ:=Lib.hid hbg.z
 have HBX:=Lib.hid hbg.bx
 have HT:=Lib.hid hbg.T
 have HXG:=Lib.hid (show ∀ b,b=G→b<w1.heap.size∨b=G∨b=c.C∨b=c.V∨b=R from fun b h=>.inr (.inl h))
 obtain ⟨hcu,hcl,hcw⟩:c.u=2∧c.l=1∧c.wk=3:=⟨hbg.u,hbg.l,hbg.wk⟩
 have HCU:=Lib.hid hcu
 have HCL:=Lib.hid hcl
 have HCW:=Lib.hid hcw
 obtain ⟨X,hX⟩:∃ X:Nat→Prop,(fun b=>b<w1.heap.size∨b=G∨b=c.C∨b=c.V∨b=R)=X:=⟨_,rfl⟩
 have HXG:=Lib.hid (show X G by rw [← hX];exact .inr (.inl rfl))
 rw [hX] at HZ
 generalize [KD w1 D1 R1 Sd 9,KD w1 D2 R2' aL 65536]=M at *
 clear hbg hs0 HBG hcu hcl hcw hX
 have k4:w2.cell? ⟨G,4,none⟩=some (Pq c.C):=(Lib.cell_of_heap HBX.out 4).trans rfl
 have HNN:=Lib.hid (cnew_nil w2 1 1 1)
 have HVW:=Lib.hid (view_any HZ.out)
 go_wp2_with fail
 refine HNN.out.mono ?_
 rintro _ w3 ⟨rfl,rfl⟩
 go_wp2_with fail
 refine HVW.out.mono ?_
 rintro _ w3 ⟨rfl,rfl⟩
 clear HNN HVW
 -- Node
 obtain ⟨g1,hg1⟩:∃ g,w3.heap.size=g:=⟨_,rfl⟩
 obtain ⟨w4,hw4⟩:∃ w4,w3.alloc (.cells #[.string ⟨#[97]⟩,.string ⟨#[98]⟩] 9)=w4:=⟨_,rfl⟩
 obtain ⟨hz4,hn4,hb4⟩:=HZ.out.row2 hg1 hw4 (by decide) (by decide)
 have HZ4:=Lib.hid (hz4.sub (Y:=X) (fun b h=>.inl h) HZ.out.xC HZ.out.xV)
 have HND:=Lib.hid (node_any (cap:=2) hz4 hn4 (by decide))
 rw [HCU.out,HCL.out,aw_node] at HND
 unfold RetW at HND
 have HG4:=Lib.hid ((hb4.block G (HZ.out.lt HXG.out)).trans HBX.out)
 clear hz4 hn4 hb4 HZ HBX
 go_upto_region 4 with fail
 go_wp2_with fail
 try rw [hw4]
 try rw [hg1]
 clear hw4 hg1
 refine HND.out.mono ?_
 rintro _ w5 ⟨rfl,hb5⟩
 have HZ5:=Lib.hid (HZ4.out.below hb5)
 have HG5:=Lib.hid ((hb5.block G (HZ4.out.lt HXG.out)).trans HG4.out)
 clear hb5 HND HZ4 HG4 k4
 obtain ⟨g3,hg3⟩:∃ g,w5.heap.size=g:=⟨_,rfl⟩
 obtain ⟨w6,hw6⟩:∃ w6,w5.alloc (.cells #[.int .i64 0,.int .i64 3] 24)=w6:=⟨_,rfl⟩
 have hb6:Below w5.heap.size w5 w6:=by rw [← hw6];exact bel_alloc _ _
 have HZ6:=Lib.hid (HZ5.out.box (Y:=fun b=>X b∨b=g3) hb6 (fun b hb=>hb.imp id fun e=>by rw [e,← hg3,← hw6,World.size_alloc];omega) (.inl HZ5.out.xC) (.inl HZ5.out.xV))
 have HG6:=Lib.hid ((hb6.block G (HZ5.out.lt HXG.out)).trans HG5.out)
 have HR6:=Lib.hid (show R2 w6 g3 0 3 by rw [← hw6,← hg3];exact R2.new w5 0 3)
 clear hb6 HZ5 HG5
 go_upto_region 5 with fail
 try rw [hw6]
 try rw [hg3]
 clear hw6 hg3
 -- Up
 have k4:w6.cell? ⟨G,4,none⟩=some (Pq c.C):=(Lib.cell_of_heap HG6.out 4).trans rfl
 obtain ⟨g4,hg4⟩:∃ g,w6.heap.size=g:=⟨_,rfl⟩
 obtain ⟨w7,hw7⟩:∃ w7,w6.alloc (.cells #[.string ⟨#[97]⟩,.string ⟨#[98]⟩] 9)=w7:=⟨_,rfl⟩
 obtain ⟨hz7,hn7,hb7⟩:=HZ6.out.row2 hg4 hw7 (by decide) (by decide)
 have HG7:=Lib.hid ((hb7.block G (HZ6.out.lt (.inl HXG.out))).trans HG6.out)
 have HR7:=Lib.hid (HR6.out.below hb7)
 have HXC:=Lib.hid (And.intro HZ6.out.xC HZ6.out.xV)
 have HUP:=Lib.hid (up_any (cap:=2) (W:=3) hz7 hn7 (by decide) (by decide) (by have:=HT.out;omega) (by rw [HCU.out];exact Bg.start.kind2) (by rw [HCU.out];exact Bg.start.l2) Bg.start.out (by rw [HCW.out];rfl) (by rw [HCU.out];decide) (by rw [HCU.out,HCW.out];decide))
 unfold UpE at HUP
 rw [HCU.out,HCL.out,HCW.out] at HUP
 have HGL:=Lib.hid (HZ6.out.good2)
 clear hz7 hn7 hb7 HZ6 HG6 HR6
 go_wp2_with fail
 try rw [hw7]
 try rw [hg4]
 clear hw7 hg4 k4
 refine HUP.out.mono ?_
 rintro _ w8 ⟨v,er,S',rfl,hz8,hs8,hur⟩
 obtain ⟨rfl,n,rfl,hmk⟩:=aw_up HGL.out hur
 have HMK:=Lib.hid hmk
 have HZ8:=Lib.hid (hz8.sub (Y:=fun b=>X b∨b=g3) (fun b h=>.inl h) HXC.out.1 HXC.out.2)
 have HG8:=Lib.hid ((hs8 G (.inl (.inl HXG.out))).trans HG7.out)
 have HR8:=Lib.hid (HR7.out.same (hs8 g3 (.inl (.inr rfl))))
 clear hz8 hs8 hur hmk HUP HG7 HR7
 have k0:w8.cell? ⟨G,0,none⟩=some (Pq c.P1):=(Lib.cell_of_heap HG8.out 0).trans rfl
 -- Read
 have HRD:=Lib.hid (cb.x_read HZ8.out.brx1 (n:Int) 0 9)
 unfold cb.ReadI at HRD
 rw [(aw_read HMK.out).1,(aw_read HMK.out).2] at HRD
 dsimp only at HRD
 go_wp2_with fail
 refine HRD.out.mono ?_
 rintro _ w9 ⟨A,cc,rfl,hrow,hb9⟩
 obtain ⟨hcc,hrow2⟩:=hrow
 subst hcc
 obtain ⟨g7,hg7a,rfl,hg7b⟩:=hrow2.resolve_left (fun e=>absurd e.2 (by decide))
 have HZ9:=Lib.hid (HZ8.out.box (Y:=fun b=>(X b∨b=g3)∨b=g7) hb9 (fun b hb=>hb.imp id fun e=>by rw [e];exact ⟨hg7a,(Array.getElem?_eq_some_iff.1 hg7b).1⟩) (.inl HXC.out.1) (.inl HXC.out.2))
 have HG9:=Lib.hid ((hb9.block G (HZ8.out.lt (.inl HXG.out))).trans HG8.out)
 have HR9:=Lib.hid (HR8.out.below hb9)
 have HD9:=Lib.hid hg7b
 clear hb9 hg7a hg7b hrow2 HRD HZ8 HG8 HR8 k0
 -- Hide
 have k4:w9.cell? ⟨G,4,none⟩=some (Pq c.C):=(Lib.cell_of_heap HG9.out 4).trans rfl
 obtain ⟨gA,hgA⟩:∃ g,w9.heap.size=g:=⟨_,rfl⟩
 obtain ⟨wA,hwA⟩:∃ wA,w9.alloc (.cells #[.string ⟨#[97]⟩,.string ⟨#[99]⟩] 9)=wA:=⟨_,rfl⟩
 obtain ⟨hzA,hnA,hbA⟩:=HZ9.out.row2 hgA hwA (by decide) (by decide)
 have HGA:=Lib.hid ((hbA.block G (HZ9.out.lt (.inl (.inl HXG.out)))).trans HG9.out)
 have HRA:=Lib.hid (HR9.out.below hbA)
 have HDA:=Lib.hid ((hbA.block g7 (HZ9.out.lt (.inr rfl))).trans HD9.out)
 have HHD:=Lib.hid (hide_any (cap:=2) hzA hnA (by decide) (by decide) (by have:=HT.out;omega))
 unfold HideE at HHD
 rw [HCU.out,HCL.out] at HHD
 clear hzA hnA hbA HZ9 HG9 HR9 HD9
 go_wp2_with fail
 try rw [hwA]
 try rw [hgA]
 clear hwA hgA k4
 refine HHD.out.mono ?_
 rintro _ wB ⟨er,S2,rfl,hzB,hsB,hhr⟩
 obtain ⟨rfl,rfl⟩:=aw_hide HMK.out hhr
 have HZB:=Lib.hid (hzB.sub (Y:=fun b=>(X b∨b=g3)∨b=g7) (fun b h=>.inl h) (.inl HXC.out.1) (.inl HXC.out.2))
 have HGB:=Lib.hid ((hsB G (.inl (.inl (.inl HXG.out)))).trans HGA.out)
 have HRB:=Lib.hid (HRA.out.same (hsB g3 (.inl (.inl (.inr rfl)))))
 have HDB:=Lib.hid ((hsB g7 (.inl (.inr rfl))).trans HDA.out)
 clear hzB hsB hhr HHD HGA HRA HDA
 -- Chain
 have k4:wB.cell? ⟨G,4,none⟩=some (Pq c.C):=(Lib.cell_of_heap HGB.out 4).trans rfl
 obtain ⟨gC,hgC⟩:∃ g,wB.heap.size=g:=⟨_,rfl⟩
 obtain ⟨wC,hwC⟩:∃ wC,wB.alloc (.cells #[.string ⟨#[97]⟩] 9)=wC:=⟨_,rfl⟩
 obtain ⟨hzC,hnC,hbC⟩:=HZB.out.row1 hgC hwC (by decide)
 have HGC:=Lib.hid ((hbC.block G (HZB.out.lt (.inl (.inl HXG.out)))).trans HGB.out)
 have HRC:=Lib.hid (HRB.out.below hbC)
 have HDC:=Lib.hid ((hbC.block g7 (HZB.out.lt (.inr rfl))).trans HDB.out)
 have HCH:=Lib.hid (chain_any (cap:=1) hzC hnC (by decide) (by have:=HT.out;omega))
 unfold ChainE at HCH
 rw [HCU.out,HCL.out,aw_chain HMK.out] at HCH
 dsimp only at HCH
 clear hzC hnC hbC HZB HGB HRB HDB
 go_wp2_with fail
 try rw [hwC]
 try rw [hgC]
 clear hwC hgC k4
 refine HCH.out.mono ?_
 rintro _ wD ⟨rfl,hzD,hsD⟩
 have HZD:=Lib.hid (hzD.sub (Y:=fun b=>(X b∨b=g3)∨b=g7) (fun b h=>.inl h) (.inl HXC.out.1) (.inl HXC.out.2))
 have HGD:=Lib.hid ((hsD G (.inl (.inl (.inl HXG.out)))).trans HGC.out)
 have HRD:=Lib.hid (HRC.out.same (hsD g3 (.inl (.inl (.inr rfl)))))
 have HDD:=Lib.hid ((hsD g7 (.inl (.inr rfl))).trans HDC.out)
 clear hzD hsD HCH HGC HRC HDC
 -- Deep
 have k4:wD.cell? ⟨G,4,none⟩=some (Pq c.C):=(Lib.cell_of_heap HGD.out 4).trans rfl
 obtain ⟨gE,hgE⟩:∃ g,wD.heap.size=g:=⟨_,rfl⟩
 obtain ⟨wE,hwE⟩:∃ wE,wD.alloc (.cells #[.string ⟨#[122]⟩] 9)=wE:=⟨_,rfl⟩
 obtain ⟨hzE,hnE,hbE⟩:=HZD.out.row1 hgE hwE (by decide)
 have HRE:=Lib.hid (HRD.out.below hbE)
 have HDE:=Lib.hid ((hbE.block g7 (HZD.out.lt (.inr rfl))).trans HDD.out)
 have HBG:=Lib.hid (aw_bg HMK.out)
 have HDP:=Lib.hid (deepE_any (cap:=1) (W:=3) hzE hnE (by decide) (by decide) (by have:=HT.out;simp only [List.length_cons,List.length_nil];omega) (by rw [HCU.out];exact HBG.out.kind2) (by rw [HCU.out];exact HBG.out.l2) HBG.out.out (by rw [HCW.out];rfl) (by rw [HCU.out];decide) (by rw [HCU.out,HCW.out];decide)
  (fun v er S' h=>by rw [HCU.out,HCL.out,HCW.out] at h;rw [(aw_deep HMK.out h).1];decide))
 rw [HCU.out,HCL.out,HCW.out] at HDP
 clear hzE hnE hbE HZD HGD HRD HDD
 go_wp2_with fail
 try rw [hwE]
 try rw [hgE]
 clear hwE hgE k4
 refine HDP.out.mono ?_
 rintro _ wF ⟨v,er,S3,rfl,hzF,hsF,hur⟩
 obtain ⟨rfl,-⟩:=aw_deep HMK.out hur
 have HRF:=Lib.hid (HRE.out.same (hsF g3 (.inl (.inl (.inr rfl)))))
 have hdF:=(hsF g7 (.inl (.inr rfl))).trans HDE.out
 have hcv:=bl.Row.conv (w:=wF) (lo:=0) (n:=2) (c:=2) (A:=some ⟨g7,0,none⟩) (f:=fun j=>(aL.ino 3).body.dat ((0:Int).toNat+j)) ⟨rfl,.inr ⟨g7,Nat.zero_le _,rfl,hdF⟩⟩
 have htx:bl.strF 2 (fun j=>(aL.ino 3).body.dat ((0:Int).toNat+j))=zxy:=by
  have e:(fun j=>(aL.ino 3).body.dat ((0:Int).toNat+j))=(aL.ino 3).body.dat:=funext fun j=>by simp
  rw [e];exact aw_text
 rw [htx] at hcv
 have HFF:=Lib.hid (HF.out wF (bel_step HB1.out hzF.bel))
 obtain ⟨t0,t1⟩:=HRF.out
 clear hzF hsF hur hdF htx HDP HRE HDE
 go_wp2_with fail
 exact HFF.out
end Go.Proofs.YtgoddboicjfkcaaGreat.cu
namespace Go.Proofs.YtgoddboicjfkcaaGreat.cu
open Go.RowKit
open dn (En lget lset ldel nerr dotB Sorted)
open br (BS Ino Inv at_nat abE nameE fresh upd_same upd_other)
open bl (AB wr wrB over thW cnt)
open cb (newI)
open mg (Nd opq kindV lstV belV seenV pairV getV rootV)
open fl (Ln treeF putF fileF placeM bF nch)
set_option maxRecDepth 100000
section
variable {S:BS} {i off:Int} {p:Nat} {f:Nat→UInt8}
theorem wrote_ino (k:Nat):((S.wrote i off p f).ino k).kind=(S.ino k).kind∧((S.wrote i off p f).ino k).links=(S.ino k).links∧((S.wrote i off p f).ino k).dir=(S.ino k).dir∧((S.wrote i off p f).ino k).marks=(S.ino k).marks:=by
 unfold BS.wrote
 dsimp only
 by_cases e1:k=i.toNat
 ·rw [e1,upd_same];exact ⟨rfl,rfl,rfl,rfl⟩
 ·rw [upd_other _ _ e1];exact ⟨rfl,rfl,rfl,rfl⟩
theorem wrote_isI (d:Int):(S.wrote i off p f).isI d=S.isI d:=by unfold BS.isI BS.at;rw [(wrote_ino d.toNat).1]
theorem wrote_kindOf (d:Int):(S.wrote i off p f).kindOf d=S.kindOf d:=by unfold BS.kindOf;rw [wrote_isI];unfold BS.at;rw [(wrote_ino d.toNat).1]
theorem wrote_get (d:Int) (s:ByteArray):(S.wrote i off p f).get d s=S.get d s:=by
 unfold BS.get BS.dirE
 rw [wrote_isI]
 unfold BS.at
 rw [(wrote_ino d.toNat).1,(wrote_ino d.toNat).2.1,(wrote_ino d.toNat).2.2.1]
theorem wrote_getV (U:BS) (a:Nd) (t:ByteArray):getV U (S.wrote i off p f) a t=getV U S a t:=by
 unfold mg.getV mg.lstV mg.kindV mg.seenV mg.pairV
 simp only [wrote_get,wrote_kindOf]
theorem wrote_kindV (U:BS) (a:Nd):kindV U (S.wrote i off p f) a=kindV U S a:=by
 unfold mg.kindV
 simp only [wrote_kindOf]
theorem wrote_rootV (U:BS) (u l:Int):rootV U (S.wrote i off p f) u l=rootV U S u l:=by
 unfold mg.rootV
 simp only [wrote_kindOf]
end
abbrev zf:ByteArray:=⟨#[102]⟩
def hM:BS:=(fresh.make 1 zf 1 ⟨#[]⟩).2
def hB (data:ByteArray):AB:=wr abE 0 data.size (bF data)
def hL (data:ByteArray):BS:=hM.wrote 2 0 data.size (bF data)
theorem hM_body:(hM.ino 2).body=abE:=by
 obtain ⟨D,n,_,e,hm,_⟩:=mk_of (br.Good.fresh 0) (d:=1) (s:=zf) (t:=⟨#[]⟩) (kind:=1) (by decide +kernel)
 have e2:(fresh.make 1 zf 1 ⟨#[]⟩).1.1=2:=by decide +kernel
 obtain rfl:n=2:=by omega
 unfold hM
 rw [hm.eN];rfl
theorem hL_body (data:ByteArray):((hL data).ino 2).body=hB data:=by
 unfold hL BS.wrote
 dsimp only
 rw [show (2:Int).toNat=2 from rfl,upd_same]
 show wr (hM.at 2).body 0 data.size (bF data)=_
 rw [show hM.at 2=hM.ino 2 from rfl,hM_body];rfl
theorem hL_kind (data:ByteArray):((hL data).ino 2).kind=1:=by
 unfold hL
 rw [(wrote_ino 2).1];decide +kernel
theorem h_tree {data:ByteArray} (h:data.size≤16384):treeF 65536 fresh [⟨⟨#[47,102]⟩,1,data⟩]=some (hL data):=by
 have hp:putF 65536 fresh ⟨⟨#[47,102]⟩,1,data⟩=some (hL data):=by
  unfold putF
  have e1:placeM fresh ⟨#[47,102]⟩=((1,zf),0):=by decide +kernel
  dsimp only
  rw [e1]
  dsimp only
  rw [if_neg (by decide),if_pos rfl]
  unfold fileF
  have e2:(fresh.make 1 zf 1 ⟨#[]⟩).1=(2,0):=by decide +kernel
  have e3:(fresh.make 1 zf 1 ⟨#[]⟩).2.used=0:=by decide +kernel
  rw [e2,e3]
  dsimp only
  rw [if_neg (by decide),if_pos (by unfold nch;omega)]
  rfl
 show (match putF 65536 fresh ⟨⟨#[47,102]⟩,1,data⟩ with|none=>none|some S'=>treeF 65536 S' [])=_
 rw [hp];rfl
theorem hB_size (data:ByteArray):(hB data).size=data.size:=by
 unfold hB wr wrB
 dsimp only
 split
 ·rename_i e;rw [e];rfl
 ·show max abE.size (Int.toNat 0+data.size)=_
  rw [show abE.size=0 from rfl,show Int.toNat 0=0 from rfl];omega
theorem hB_dat (data:ByteArray) (i:Nat):(hB data).dat i=bF data i:=by
 unfold hB wr wrB over
 dsimp only
 rw [show Int.toNat 0=0 from rfl]
 by_cases h:0≤i∧i<0+data.size
 ·rw [if_pos h,Nat.sub_zero]
 ·rw [if_neg h]
  unfold fl.bF
  have:data.data.toList.length≤i:=by
   have:data.data.toList.length=data.size:=by simp
   omega
  rw [List.getD_eq_getElem?_getD,List.getElem?_eq_none this];rfl
theorem h_root (data:ByteArray):rootV S0 (hL data) 2 1=(2,1):=by
 unfold hL;rw [wrote_rootV];decide +kernel
theorem h_get (data:ByteArray):getV S0 (hL data) (2,1) zf=((0,2),0):=by
 unfold hL;rw [wrote_getV];decide +kernel
theorem h_kind (data:ByteArray):kindV S0 (hL data) (0,2)=1:=by
 unfold hL;rw [wrote_kindV];decide +kernel
theorem h_mk:(S0.make 3 draft 1 ⟨#[]⟩).1.2=0:=by decide +kernel
theorem S0_used:S0.used=0:=by decide +kernel
theorem h_up {data:ByteArray} (hs:data.size≤16384) {v er:Int} {S':BS} (hL2:br.Good (hL data) 65536) (h:UpR 65536 S0 (hL data) 2 1 3 [zf] v er S'):er=0∧∃ n:Nat,v=(n:Int)∧Mk S0 S' 2 n zf (fileI (copyB (hB data))):=by
 rcases h with ⟨h,_⟩|⟨p,t,d,a,e1,S1,hp,hd,hc⟩
 ·cases h
 ·obtain ⟨rfl,rfl⟩:=last_eq (p:=[]) (t:=zf) (q:=p) (s:=t) hp
  rw [h_root] at hd
  injection hd with hd1 hd2
  injection hd1 with hd3 hd4
  injection hd3 with hd5 hd6
  subst hd2 hd4 hd5 hd6
  rw [h_get] at hc
  rcases hc with ⟨h,_⟩|⟨_,h,_⟩|⟨_,_,h,_⟩|⟨_,_,_,h,_⟩|⟨Y,_,h1,_,_,h2,_⟩|⟨Y,_,h1,_,_,h2,_,hc⟩
  ·exact absurd rfl h
  ·exact absurd rfl h
  ·rw [h_kind] at h;cases h
  ·exact absurd rfl h
  ·injection h1 with h1 _;injection h1 with _ h1
   obtain rfl:Y=2:=by omega
   rw [hL_kind] at h2;cases h2
  ·injection h1 with h1 _;injection h1 with _ h1
   obtain rfl:Y=2:=by omega
   rw [hL_body] at hc
   rcases hc with ⟨rfl,D,n,e1,e2,hm⟩|⟨e0,_,_,(⟨_,e2⟩|e2)⟩
   ·obtain rfl:D=2:=by omega
    exact ⟨rfl,n,e2,hm⟩
   ·have h5:=copyB_small (hL2.1.body 2)
    rw [hL_body,hB_size] at h5
    rw [S0_used] at e2
    omega
   ·rw [h_mk] at e2;exact absurd e2 e0
theorem cnt_more {f:Nat→Bool} {m:Nat} (h:∀ k,m≤k→f k=false):∀ N,m≤N→cnt N f=cnt m f
  | 0,hm=>by obtain rfl:m=0:=(by omega);rfl
  | N+1,hm=>by
    by_cases e:m=N+1
    · rw [e]
    · rw [bl.cnt_succ,cnt_more h N (by omega),h N (by omega)];simp
theorem nz_byte {data:ByteArray} {k j:Nat} (hj:j<16) (h:bF data (16*k+j)≠0):nz (hB data) k=true:=by
 cases e:nz (hB data) k with
 | true=>rfl
 | false =>
  unfold nz at e
  have e2:allZ 16 (fun j=>(hB data).dat (16*k+j))=true:=by simpa using e
  have:=allZ_iff.1 e2 j hj
  rw [hB_dat] at this
  exact absurd this h
theorem bF_out {data:ByteArray} {i:Nat} (h:data.size≤i):bF data i=0:=by
 unfold fl.bF
 have:data.data.toList.length=data.size:=by simp
 rw [List.getD_eq_getElem?_getD,List.getElem?_eq_none (by omega)];rfl
theorem nz_none {data:ByteArray} {k m:Nat} (h:∀ j,j<m→bF data (16*k+j)=0) (hm:m=16∨data.size≤16*k+m):nz (hB data) k=false:=by
 unfold nz
 rw [show allZ 16 (fun j=>(hB data).dat (16*k+j))=true from allZ_iff.2 fun j hj=>by
  rw [hB_dat]
  by_cases e:j<m
  ·exact h j e
  ·exact bF_out (by omega)]
 rfl
theorem byte_at {data:ByteArray} {i:Nat} (h:i<data.size):data[i]'h=bF data i:=by
 unfold fl.bF
 have hl:i<data.data.toList.length:=by simpa using h
 rw [List.getD_eq_getElem?_getD,List.getElem?_eq_getElem hl]
 simp [ByteArray.getElem_eq_getElem_data]
theorem byte_zero {data:ByteArray} {i:Nat} (h:i<data.size):((((data[i]'h).toNat:Nat):Int) != 0)=decide (bF data i≠0):=by
 rw [byte_at h]
 generalize bF data i=x
 by_cases e:x=0
 ·subst e;rfl
 ·have:x.toNat≠0:=fun e2=>e (UInt8.toNat_inj.1 e2)
  simp only [e,not_false_eq_true,decide_true,bne_iff_ne,ne_eq]
  omega
theorem want_all {data:ByteArray} (h:data.size≤16384) {K:Nat} (hK:data.size≤16*K) (hK2:K≤4096):cnt K (nz (hB data))=(copyB (hB data)).n :=
 (cnt_more (fun k hk=>nz_none (m:=0) (fun j hj=>by omega) (.inr (by omega))) 4096 hK2).symm
theorem h_used {data:ByteArray} {S':BS} {n:Nat} (h:Mk S0 S' 2 n zf (fileI (copyB (hB data)))):S'.used=(copyB (hB data)).n:=by
 rw [h.us,S0_used,Nat.zero_add];rfl
end Go.Proofs.YtgoddboicjfkcaaGreat.cu
