/- Contracts and mathematics, part 27. -/
import Derived.Test.YtgoddboicjfkcaaGreatZ22
import Derived.Test.YtgoddboicjfkcaaGreatZ26
set_option linter.unusedVariables false
set_option linter.unusedSimpArgs false
set_option maxRecDepth 100000
set_option maxHeartbeats 8000000
namespace Go.Proofs.YtgoddboicjfkcaaGreat
namespace cu
open Go.RowKit Go.Deep
open br (BS Ino Inv at_nat abE fresh)
open cb (BrX RetW RetI No KB KD Res HB Stab NxR Same WrI Wz sF)
open bl (Pq Only AB U8 WR wr wrB IsStop)
open mg (bel_step bel_alloc)
open fl (Ln LR putF treeF fileF makeF placeM splitM goM nch pfx Lv)
open pa (Bs)
section
variable {w0 w w':World} {L:List Res} {X:Nat→Prop} {i D RS room:Nat} {S:BS}
theorem set_same {r:Res} (h:L[i]?=some r):L.set i r=L:=by
 apply List.ext_getElem?
 intro j
 by_cases e:i=j
 ·subst e
  rw [List.getElem?_set_self (List.getElem?_eq_some_iff.1 h).1,h]
 ·rw [List.getElem?_set_ne e]
theorem set_at {r r':Res} (h:L[i]?=some r):(L.set i r')[i]?=some r':=List.getElem?_set_self (List.getElem?_eq_some_iff.1 h).1
theorem ds_make (h:cb.Sys w0 w L X) (hi:L[i]?=some (KD w0 D RS S room)) (hG:br.Good S room) (hr:room≤65536) (hH:HB S 0) (d:Int) (s:ByteArray) (k:Int) (t:ByteArray) (hm:s.size≤9223372036854775807) (hmt:t.size≤9223372036854775807) :
  Calls Tryz.prog 34 #[Pq D,.int .i64 d,.string s,.int .i64 k,.string t] w (fun e w'=>e=.returned (.tuple #[.int .i64 (S.make d s k t).1.1,.int .i64 (S.make d s k t).1.2])∧cb.Sys w0 w' (L.set i (KD w0 D RS (S.make d s k t).2 room)) X∧Same X w w') :=
 cb.Sys.call h hi KD.stab fun O k'=>cb.kd_make k' hG hr (fun k=>by have:=hH k;omega) d s k t hm hmt
theorem ds_get (h:cb.Sys w0 w L X) (hi:L[i]?=some (KD w0 D RS S room)) (hG:br.Good S room) (d:Int) (s:ByteArray) :
  Calls Tryz.prog 76 #[Pq D,.int .i64 d,.string s] w (fun e w'=>e=.returned (.tuple #[.int .i64 (S.get d s).1,.int .i64 (S.get d s).2])∧w'=w) :=
 h.ask hi fun O ⟨pl,tg,k,_⟩=>quiet2 (cb.q_get k hG d s)
theorem ds_kind (h:cb.Sys w0 w L X) (hi:L[i]?=some (KD w0 D RS S room)) (d:Int) :
  Calls Tryz.prog 69 #[Pq D,.int .i64 d] w (fun e w'=>e=.returned (.int .i64 (S.kindOf d))∧w'=w) :=
 h.ask hi fun O ⟨pl,tg,k,_⟩=>quiet2 (cb.q_kind k d)
theorem wri_new {n len p:Nat} {f:Nat→UInt8} {err:Int} (h1:1≤n) (h2:n≤200) (hk:(S.ino n).kind=1) (hb:(S.ino n).body=abE) (hu:S.used≤room) (hw:WR abE S.used room 0 len p err):WrI S room (n:Int) 0 len f p err (S.wrote (n:Int) 0 p f):=by
 refine .inr ⟨cb.fileE_of h1 h2 hk,by rw [at_nat,hb];exact hw,?_,?_,rfl⟩
 ·rw [at_nat,hb,br.abE_n]
  have hp:p≤65536∧S.used+nch p≤room:=by
   rcases hw with ⟨h,_⟩|⟨_,_,rfl,_⟩|⟨h,_⟩|⟨_,_,_,hs,_⟩
   ·omega
   ·exact ⟨by omega,by unfold fl.nch;omega⟩
   ·omega
   ·have hle:=hs.le
    have h0:(0:Int).toNat=0:=rfl
    rw [h0] at hle hs
    refine ⟨by omega,?_⟩
    by_cases e:p=0
    ·subst e;unfold fl.nch;omega
    ·have h2:=hs.ok (16*((p - 1) / 16)) (by omega)
     rw [fl.ok_new (by omega)] at h2
     rcases h2 with h2|h2
     ·omega
     ·unfold fl.nch at h2 ⊢;omega
  rw [fl.wr_new_n hp.1];omega
 ·rw [at_nat,hb]
  have hp:p≤65536:=by
   rcases hw with ⟨h,_⟩|⟨_,_,rfl,_⟩|⟨h,_⟩|⟨_,_,_,hs,_⟩
   ·omega
   ·omega
   ·omega
   ·have hle:=hs.le
    have h0:(0:Int).toNat=0:=rfl
    rw [h0] at hle
    omega
  exact bl.wrB_ok br.abE_ok (by show 0+p≤65536;omega) f
theorem kd_writeE {O:Nat→Prop} (h:KD w0 D RS S room w O) (hG:br.Good S room) (hr:room≤65536) (hX:∀b,X b→b<w.heap.size∧¬O b) {n:Nat} (h1:1≤n) (h2:n≤200) (hk:(S.ino n).kind=1) (hb:(S.ino n).body=abE) (A:Option Addr) (len dc:Nat) (f:Nat→UInt8) (hA:∀j,j<len→∃b o,A=some ⟨b,o,none⟩∧X b∧w.cell? ⟨b,o+j,none⟩=some (U8 (f j))) (hlc:len≤dc) (hdc:dc≤maxLen) :
  Calls Tryz.prog 40 #[Pq D,.int .i64 (n:Int),.int .i64 0,.slice A len dc] w (fun e w'=>∃z:Wz,WrI S room (n:Int) 0 len f z.1 z.2.1 z.2.2∧e=.returned (.tuple #[.int .i64 (z.1:Int),.int .i64 z.2.1])∧NxR w w' (KD w0 D RS z.2.2 room) O):=by
 obtain ⟨pl,tg,k1,h6⟩:=h
 refine (cb.q_write k1 hG hr (n:Int) 0 A len dc f (fun j hj=>by
  obtain ⟨b,o,e,hb,hc⟩:=hA j hj
  exact ⟨b,o,e,Classical.byContradiction fun hn=>(hX b hb).2 ((h6 b).2 hn),(hX b hb).1,hc⟩) hlc hdc).mono ?_
 rintro e w' (⟨z1,_⟩|⟨z1,p,err,hw,rfl,pl',tg',k2,k3⟩)
 ·exact absurd (cb.fileE_of h1 h2 hk) z1
 ·rw [at_nat,hb] at hw
  exact ⟨(p,err,S.wrote (n:Int) 0 p f),wri_new h1 h2 hk hb hG.1.room hw,rfl,(KD.next (v:=.int .i64 0) (pl:=pl) h6 ⟨rfl,pl',tg',k2,k3⟩).2⟩
theorem ds_write (h:cb.Sys w0 w L X) (hi:L[i]?=some (KD w0 D RS S room)) (hG:br.Good S room) (hr:room≤65536) {n:Nat} (h1:1≤n) (h2:n≤200) (hk:(S.ino n).kind=1) (hb:(S.ino n).body=abE) (A:Option Addr) (len dc:Nat) (f:Nat→UInt8) (hA:∀j,j<len→∃b o,A=some ⟨b,o,none⟩∧X b∧w.cell? ⟨b,o+j,none⟩=some (U8 (f j))) (hlc:len≤dc) (hdc:dc≤maxLen) :
  Calls Tryz.prog 40 #[Pq D,.int .i64 (n:Int),.int .i64 0,.slice A len dc] w (fun e w'=>∃z:Wz,WrI S room (n:Int) 0 len f z.1 z.2.1 z.2.2∧e=.returned (.tuple #[.int .i64 (z.1:Int),.int .i64 z.2.1])∧cb.Sys w0 w' (L.set i (KD w0 D RS z.2.2 room)) X∧Same X w w') :=
 cb.Sys.callE (q:=fun z:Wz=>KD w0 D RS z.2.2 room) h hi (fun _ _=>KD.stab) fun O k hX=>kd_writeE k hG hr hX h1 h2 hk hb A len dc f hA hlc hdc
end
def RPutE (w0 w:World) (L:List Res) (X:Nat→Prop) (i D RS room:Nat) (res:Option BS) (e:Ending) (w':World):Prop :=
 ∃(err:Int) (S':BS),e=.returned (.int .i64 err)∧cb.Sys w0 w' (L.set i (KD w0 D RS S' room)) X∧Same X w w'∧br.Good S' room∧HB S' 0∧((err=0∧res=some S')∨(err≠0∧res=none))
end cu
namespace cu
open Go.RowKit Go.Deep
open br (BS Ino Inv at_nat abE fresh)
open cb (BrX RetW RetI No KB KD Res HB Stab NxR Same WrI Wz sF)
open bl (Pq Only AB U8 WR wr wrB IsStop)
open mg (bel_step bel_alloc)
open fl (Ln LR putF treeF fileF makeF placeM splitM goM nch pfx Lv goM_drop)
open pa (Bs)
theorem pfx_head {s:ByteArray} (h0:0<s.size):pfx s=decide ((s[0]'h0).toNat=47):=by
 unfold fl.pfx Lib.hasPrefix
 have e:s.data.toList=s[0]::s.data.toList.tail:=by
  have hl:0<s.data.toList.length:=by rw [Array.length_toList];exact h0
  rw [←List.cons_head_tail (l:=s.data.toList) (by intro e;rw [e] at hl;simp at hl)]
  congr 1
  rw [List.head_eq_getElem]
  rfl
 rw [e]
 by_cases h:s[0]=47
 ·rw [h];simp
 ·have h2:(s[0]).toNat≠47:=fun e=>h (UInt8.toNat_inj.1 e)
  rw [decide_eq_false h2,Bool.eq_false_iff]
  intro hh
  simp [List.isPrefixOf] at hh
  exact h hh.symm
theorem perr_pos {s:ByteArray} (h:pa.perr s.data.toList=0):0<s.size:=by
 rcases Nat.eq_zero_or_pos s.size with e|e
 ·exfalso
  have:s.data.toList=[]:=List.eq_nil_of_length_eq_zero (by rw [Array.length_toList];exact e)
  rw [this] at h
  exact absurd h (by decide)
 ·exact e
theorem rput_any {w0 w:World} {L:List Res} {X:Nat→Prop} {i D RS room:Nat} {S:BS} (h:cb.Sys w0 w L X) (hi:L[i]?=some (KD w0 D RS S room)) (hG:br.Good S room) (hr:room≤65536) (hH:HB S 0) (x:Ln) (hd:x.data.size≤1000000) :
  Calls Tryz.prog 170 #[Pq D,Lv x] w (RPutE w0 w L X i D RS room (putF room S x)):=by
 obtain ⟨xp,xk,xd⟩:=x
 obtain ⟨w1,hw1⟩:∃w1,w.alloc (.cells #[.string xp,.int .i64 xk,.string xd] 104)=w1:=⟨_,rfl⟩
 obtain ⟨g,hg⟩:∃g,w.heap.size=g:=⟨_,rfl⟩
 have da:Below w.heap.size w w1:=by rw [←hw1];exact bel_alloc _ _
 have la:w1.heap.size=g+1:=by rw [←hw1,←hg,World.size_alloc]
 have Qm:=Qa (show w1.heap[g]?=some (.cells #[.string xp,.int .i64 xk,.string xd] 104 (0,0)) by rw [←hw1,←hg];exact heap_alloc_new w _)
 have H1:=Qa (h.box (Y:=fun b=>X b∨b=g) da (fun b hb=>hb.imp id fun e=>by rw [e];omega))
 have Qt:=Qa (show ∀z,X z→z<w1.heap.size from fun z hz=>H1.out.lt (.inl hz))
 have Qv:=Qa (show Same X w w1 from fun b hb=>da.block b (h.lt hb))
 have HP:=Qa (pa.rparse_any xp w1)
 unfold pa.ParseE at HP
 have Q8:=Qa (fun (h0:0<xp.size) (W:World)=>show (Instr.index 9 (.string xp) (.int .i64 0)).run Tryz.prog W=.ok (.int .u8 ((xp[0]'h0).toNat:Int)) W from by
  rw [run_index_string W 9 xp .i64 0 Tryz.underlying9,dif_pos ⟨by omega,by omega⟩];rfl)
 have Q9:=Qa (@pfx_head xp)
 have Xa:=Qa (@perr_pos xp)
 have Qq:=Qa (@fl.split_no xp)
 have Xb:=Qa (@fl.split_yes xp)
 have Qw:=Qa (@fl.names_len xp.data.toList)
 have Qx:=Qa hd
 have Qd:=Qa (And.intro hG (And.intro hr hH))
 have Qj:=Qa hi
 have Qb:=Qa (show putF room S ⟨xp,xk,xd⟩=if (placeM S xp).2≠0 then none
  else if xk=1 then fileF room S (placeM S xp).1.1 (placeM S xp).1.2 xd
  else if xk=2 then makeF S (placeM S xp).1.1 (placeM S xp).1.2 2 ⟨#[]⟩
  else if xk=3 then makeF S (placeM S xp).1.1 (placeM S xp).1.2 3 xd
  else none from rfl)
 have Qc:=Qa (show placeM S xp=match splitM xp with
  | none=>((0,⟨#[]⟩),22)
  | some (ys,x)=>if (goM S 1 ys).2≠0 then ((0,⟨#[]⟩),(goM S 1 ys).2)
   else if S.kindOf (goM S 1 ys).1≠2 then ((0,⟨#[]⟩),20) else (((goM S 1 ys).1,⟨x.toArray⟩),0) from rfl)
 have HE:=Qa (show ∀(W:World) (err:Int) (S':BS),cb.Sys w0 W (L.set i (KD w0 D RS S' room)) X→Same X w W→br.Good S' room→HB S' 0→((err=0∧putF room S ⟨xp,xk,xd⟩=some S')∨(err≠0∧putF room S ⟨xp,xk,xd⟩=none))→RPutE w0 w L X i D RS room (putF room S ⟨xp,xk,xd⟩) (.returned (.int .i64 err)) W from
  fun W err S' a b c d e=>⟨err,S',rfl,a,b,c,d,e⟩)
 obtain ⟨PQ,hPQ⟩:∃P,RPutE w0 w L X i D RS room (putF room S ⟨xp,xk,xd⟩)=P:=⟨_,rfl⟩
 rw [hPQ] at HE ⊢
 generalize putF room S ⟨xp,xk,xd⟩=pr at *
 have Qk:=Qa (show ∀(W:World) (err:Int),Below w1.heap.size w1 W→err≠0→pr=none→PQ (.returned (.int .i64 err)) W from
  fun W err hb he hp=>HE.out W err S (by rw [set_same hi];exact (H1.out.below hb).sub fun b hb=>.inl hb) (fun b hx=>(hb.block b (H1.out.lt (.inl hx))).trans (da.block b (h.lt hx))) hG hH (.inr ⟨he,hp⟩))
 clear h hi hG hr hH hd da hPQ la
 go_enter Tryz.func170,Tryz.ntmps170
 go_upto_region 1 with fail
 try rw [hw1]
 try rw [hg]
 clear hw1 hg
 have x0:w1.cell? ⟨g,0,none⟩=some (.string xp):=(Lib.cell_of_heap Qm.out 0).trans rfl
 generalize pa.perr xp.data.toList=pe at *
 generalize pa.pnames xp.data.toList=ns at *
 generalize pa.pdirE xp.data.toList=pd at *
 go_wp2_with fail
 refine HP.out.mono ?_
 rintro _ w2 ⟨A,c,rfl,hown,hb2⟩
 obtain ⟨m,hm⟩:∃m,ns.length=m:=⟨_,rfl⟩
 have HM:=Qa hm
 have HC:=Qa (fl.own_fits hown)
 have Qn:=Qa (fun ob=>(hown.strs).keep (w':=w2.alloc ob) (fun p hp=>World.cell?_alloc_lt _ _ _ hp))
 rw [hm] at HC ⊢
 obtain ⟨w3,hw3⟩:∃w3,w2.alloc (.cells #[.slice A m c,.bool pd] 292)=w3:=⟨_,rfl⟩
 obtain ⟨g3,hg3⟩:∃x,w2.heap.size=x:=⟨_,rfl⟩
 have Ql:=Qa (show Below w1.heap.size w1 w3 by rw [←hw3];exact bel_step hb2 (bel_alloc _ _))
 have Xc:=Qa (show w3.heap.size=g3+1 by rw [←hw3,←hg3,World.size_alloc])
 have Xd:=Qa (show pa.Strs w3 g3 A ns by rw [←hw3,←hg3];exact Qn.out _)
 have Qy:=Qa (show w3.heap[g3]?=some (.cells #[.slice A m c,.bool pd] 292 (0,0)) by rw [←hw3,←hg3];exact heap_alloc_new w2 _)
 have Xe:=Qa ((Ql.out.block g (by have:=World.block_lt_of_cell? _ _ x0;exact this)).trans Qm.out)
 clear hown hb2 hm Qn x0 HP
 go_upto_region 2 with fail
 try rw [hw3]
 try rw [hg3]
 clear hw3 hg3
 by_cases he:pe=0
 case neg =>
  have q0:(pe != 0)=true:=by simpa using he
  have qa:splitM xp=none:=Qq.out (.inl he)
  rw [qa] at Qc
  have HF:=Qa (Qk.out w3 22 Ql.out (by decide) (by rw [Qb.out,Jb (by rw [Qc.out];exact (show (22:Int)≠0 by decide))]))
  clear he
  go_wp2_with fail
  exact HF.out
 subst he
 have ma:=Xa.out (by first|rfl|trivial)
 have ba:=Q8.out ma
 have ja:=Q9.out ma
 generalize (xp[0]).toNat=ch at ba ja
 have x0:w3.cell? ⟨g,0,none⟩=some (.string xp):=(Lib.cell_of_heap Xe.out 0).trans rfl
 by_cases hch:ch=47
 case neg =>
  have qa:splitM xp=none:=Qq.out (.inr (.inl (by rw [ja];exact decide_eq_false hch)))
  rw [qa] at Qc
  have HF:=Qa (Qk.out w3 22 Ql.out (by decide) (by rw [Qb.out,Jb (by rw [Qc.out];exact (show (22:Int)≠0 by decide))]))
  have qc:(((ch:Nat):Int) != 47)=true:=by simp;omega
  clear hch ja ma qa
  go_wp2_with fail
  exact HF.out
 subst hch
 have Xm:=Qa (show pfx xp=true by rw [ja];rfl)
 clear ja ma Q8 Q9 Xa
 have u0:w3.cell? ⟨g3,0,none⟩=some (.slice A m c):=(Lib.cell_of_heap Qy.out 0).trans rfl
 have u1:w3.cell? ⟨g3,1,none⟩=some (.bool pd):=(Lib.cell_of_heap Qy.out 1).trans rfl
 have Qz:=Qa (pa.rlast_any A m c g3 pd ns w3 HM.out.symm (by have:=Qw.out (by first|rfl|trivial);have:=HM.out;omega) HC.out.1 (by have:=Xc.out;omega) Xd.out)
 rcases Qz.out with ⟨hl,hc⟩|⟨ys,nx,hys,hnx,hc⟩
 ·have qa:splitM xp=none:=Qq.out (.inr (.inr hl))
  rw [qa] at Qc
  have Qi:=Qa hc
  unfold pa.LastNo at Qi
  clear hl hc Qz
  go_wp2_with fail
  refine Qi.out.mono ?_
  rintro _ w4 ⟨rfl,hb4⟩
  have HF:=Qa (fun ob=>Qk.out (w4.alloc ob) 22 (bel_step (bel_step Ql.out hb4) (bel_alloc _ _)) (by decide) (by rw [Qb.out,Jb (by rw [Qc.out];exact (show (22:Int)≠0 by decide))]))
  clear hb4
  go_wp2_with fail
  exact HF.out _
 have sa:splitM xp=some (ys,nx):=Xb.out ys nx (by first|rfl|trivial) Xm.out hys hnx
 rw [sa] at Qc
 dsimp only at Qc
 have Qi:=Qa hc
 have ga:=Qw.out (by first|rfl|trivial)
 unfold pa.LastYes at Qi
 obtain ⟨k,hk⟩:∃k,ys.length=k:=⟨_,rfl⟩
 have HK:=Qa hk
 have fa:k≤40:=by rw [hys] at ga;simp at ga;omega
 rw [hk] at Qi
 clear hc Qz sa hys hnx ga hk Qq Xb Qw
 go_wp2_with fail
 refine Qi.out.mono ?_
 rintro _ w4 ⟨A4,c4,rfl,hown4,hb4⟩
 have Xf:=Qa (fl.own_fits hown4)
 have Qn:=Qa (fun ob=>(hown4.strs).keep (w':=w4.alloc ob) (fun p hp=>World.cell?_alloc_lt _ _ _ hp))
 rw [HK.out] at Xf
 obtain ⟨w5,hw5⟩:∃w5,w4.alloc (.cells #[.slice A4 k c4,.bool true] 292)=w5:=⟨_,rfl⟩
 obtain ⟨g5,hg5⟩:∃x,w4.heap.size=x:=⟨_,rfl⟩
 have Qh:=Qa (show Below w1.heap.size w1 w5 by rw [←hw5];exact bel_step (bel_step Ql.out hb4) (bel_alloc _ _))
 have Xg:=Qa (show pa.Strs w5 g5 A4 ys by rw [←hw5,←hg5];exact Qn.out _)
 have Xh:=Qa (show w5.heap[g5]?=some (.cells #[.slice A4 k c4,.bool true] 292 (0,0)) by rw [←hw5,←hg5];exact heap_alloc_new w4 _)
 have Xi:=Qa ((Qh.out.block g (by have:=World.block_lt_of_cell? _ _ ((Lib.cell_of_heap Qm.out 0).trans rfl:w1.cell? ⟨g,0,none⟩=some (.string xp));exact this)).trans Qm.out)
 have Qo:=Qa (H1.out.below Qh.out)
 clear hown4 hb4 Qn Qi Ql Xc Xd Qy Xe x0 u0 u1 HC HM H1 Qm
 go_upto_region 9 with fail
 try rw [hw5]
 try rw [hg5]
 clear hw5 hg5
 have Xj:=Qa (show ∀j,j<k→∃y,ys[j]?=some y from fun j hj=>⟨ys[j]'(by have:=HK.out;omega),List.getElem?_eq_getElem _⟩)
 go_loopg [10,11] k (fun gh s10 s11 wr=>∃(j:Nat) (d:Int),gh+j=k∧s10=.int .i64 d∧s11=.int .i64 j∧Hid (goM S 1 ys=goM S d (ys.drop j))∧wr=w5)
 case atStart=>exact ⟨0,1,by omega,rfl,rfl,Qa rfl,rfl⟩
 case round =>
  obtain ⟨j,d,hgj,rfl,rfl,Qe,rfl⟩:=hrel
  have u0:wr.cell? ⟨g5,0,none⟩=some (.slice A4 k c4):=(Lib.cell_of_heap Xh.out 0).trans rfl
  by_cases hj:j<k
  ·obtain ⟨y,hy⟩:=Xj.out j hj
   have HD:=Qa (goM_drop (S:=S) (d:=d) hy)
   obtain ⟨ad,hA,hlt,hcell⟩:=Xg.out (by have:=HK.out;omega)
   have e1:=hcell j y hy
   subst hA
   have Q2:=Qa (ds_get Qo.out Qj.out Qd.out.1 d ⟨y.toArray⟩)
   obtain ⟨gr,hgr⟩:∃r,S.get d ⟨y.toArray⟩=r:=⟨_,rfl⟩
   rw [hgr] at Q2 HD
   obtain ⟨g1,g2⟩:=gr
   dsimp only at Q2 HD
   clear hy hlt hcell hgr
   go_wp2_with fail
   refine Q2.out.mono ?_
   rintro _ w6 ⟨rfl,rfl⟩
   by_cases e0:g2=0
   ·subst e0
    rw [Ja (fun e=>e rfl)] at HD
    go_wp2_with fail
    go_roundg (gk - 1)
    case measure=>omega
    case rel=>exact ⟨j+1,g1,by omega,rfl,by go_num,Qa (Qe.out.trans HD.out),rfl⟩
   ·have q0:(g2 != 0)=true:=by simpa using e0
    rw [Jb e0] at HD
    have xa:=Qe.out.trans HD.out
    rw [xa,Jb e0] at Qc
    have HF:=Qa (Qk.out w6 g2 Qh.out e0 (by rw [Qb.out,Jb (by rw [Qc.out];exact e0)]))
    clear e0 xa
    go_wp2_with fail
    exact HF.out
  ·obtain rfl:j=k:=by omega
   have xa:goM S 1 ys=(d,0):=by rw [Qe.out,List.drop_eq_nil_of_le (by have:=HK.out;omega)];rfl
   rw [xa,Ja (fun e=>e rfl)] at Qc
   dsimp only at Qc
   have Q3:=Qa (ds_kind Qo.out Qj.out d)
   obtain ⟨kd,hkd⟩:∃k,S.kindOf d=k:=⟨_,rfl⟩
   rw [hkd] at Q3 Qc
   clear hkd xa
   go_wp2_with fail
   refine Q3.out.mono ?_
   rintro _ w6 ⟨rfl,rfl⟩
   by_cases e2:kd=2
   case neg =>
    have q2:(kd != 2)=true:=by simpa using e2
    rw [Jb e2] at Qc
    have HF:=Qa (Qk.out w6 20 Qh.out (by decide) (by rw [Qb.out,Jb (by rw [Qc.out];exact (show (20:Int)≠0 by decide))]))
    clear e2
    go_wp2_with fail
    exact HF.out
   subst e2
   rw [Ja (fun e=>e rfl)] at Qc
   rw [Qc.out,Ja (fun e=>e rfl)] at Qb
   dsimp only at Qb
   have Q4:=Qa (show (⟨nx.toArray⟩:ByteArray).size≤1000000 by
    have h1:=fl.place_size (S:=S) (s:=xp)
    rw [Qc.out] at h1;exact h1)
   clear u0 Xh Xg Xj Qe Q3 Qc Xf HK
   have x1:w6.cell? ⟨g,1,none⟩=some (.int .i64 xk):=(Lib.cell_of_heap Xi.out 1).trans rfl
   have x2:w6.cell? ⟨g,2,none⟩=some (.string xd):=(Lib.cell_of_heap Xi.out 2).trans rfl
   by_cases k1:xk=1
   ·subst k1
    rw [Jb rfl] at Qb
    unfold fl.fileF at Qb
    have Qg:=Qa (ds_make Qo.out Qj.out Qd.out.1 Qd.out.2.1 Qd.out.2.2 d ⟨nx.toArray⟩ 1 ⟨#[]⟩ (by have:=Q4.out;omega) (by decide))
    have Qe:=Qa (Qd.out.1.make d ⟨nx.toArray⟩ 1 ⟨#[]⟩)
    have Qf:=Qa (Qd.out.2.2.make (by decide) d ⟨nx.toArray⟩ 1 ⟨#[]⟩)
    have Qr:=Qa (fun hh=>cb.made_of Qd.out.1 (d:=d) (s:=⟨nx.toArray⟩) (t:=⟨#[]⟩) (kind:=1) hh)
    obtain ⟨mk,hmk⟩:∃z,S.make d ⟨nx.toArray⟩ 1 ⟨#[]⟩=z:=⟨_,rfl⟩
    rw [hmk] at Qg Qe Qf Qb Qr
    obtain ⟨⟨m1,m2⟩,S1⟩:=mk
    dsimp only at Qg Qe Qf Qb Qr
    clear hmk
    go_wp2_with fail
    refine Qg.out.mono ?_
    rintro _ w7 ⟨rfl,hz7,hs7⟩
    have Qs:=Qa hz7
    have Xr:=Qa hs7
    have y1:w7.cell? ⟨g,1,none⟩=some (.int .i64 1):=(World.cell?_of_block (a:=⟨g,1,none⟩) (hs7 g (.inr rfl))).trans x1
    have y2:w7.cell? ⟨g,2,none⟩=some (.string xd):=(World.cell?_of_block (a:=⟨g,2,none⟩) (hs7 g (.inr rfl))).trans x2
    have Xk:=Qa (same_trans Qv.out fun z hz=>(hs7 z (.inl hz)).trans (Qh.out.block z (Qt.out z hz)))
    clear hz7 hs7 x1 x2 Qg
    by_cases e0:m2=0
    case neg =>
     rw [Jb e0] at Qb
     have HF:=Qa (HE.out w7 m2 S1 (Qs.out.sub fun _ h=>.inl h) Xk.out Qe.out Qf.out (.inr ⟨e0,Qb.out⟩))
     have qe:(m2 != 0)=true:=by simpa using e0
     clear e0
     go_wp2_with fail
     exact HF.out
    subst e0
    rw [Ja (fun e=>e rfl)] at Qb
    obtain ⟨Dn,n,hDn,hn,hmd,hbd⟩:=Qr.out (by first|rfl|trivial)
    subst hn
    have Xl:=Qa (fun p err S' hw=>fl.file_write (S:=S1) (S':=S') (room:=room) (len:=xd.size) (p:=p) (f:=sF xd) (err:=err) hmd.n1 hmd.n2 hmd.eN.1 hbd hw)
    obtain ⟨c9,wc9,hcv,hc1,hc2,hbc,hltc,hfc⟩:=cb.conv_bytes w7 xd Qx.out
    have HW:=Qa (ds_write (Qs.out.box (Y:=fun b=>(X b∨b=g)∨b=w7.heap.size) hbc fun b hb=>hb.imp id fun e=>by rw [e];exact ⟨Nat.le_refl _,hltc⟩) (set_at Qj.out) Qe.out Qd.out.2.1 hmd.n1 hmd.n2 hmd.eN.1 hbd (some ⟨w7.heap.size,0,none⟩) xd.size c9 (sF xd) (fun j hj=>⟨w7.heap.size,0,rfl,.inr rfl,hfc j hj⟩) hc1 hc2)
    have Q5:=Qa hbc
    have Qp:=Qa (show ∀b,X b∨b=g→b<w7.heap.size from fun b hb=>Qs.out.lt hb)
    have kb:((xd.size:Nat):Int)≤1000000:=by have:=Qx.out;omega
    clear hDn hmd hbd hc1 hc2 hbc hltc hfc Qr
    obtain ⟨zs,hzs⟩:∃z,xd.size=z:=⟨_,rfl⟩
    rw [hzs] at Qb Xl HW hcv kb
    go_wp2_with fail
    refine HW.out.mono ?_
    rintro _ w8 ⟨⟨p,err,S8⟩,hw8,rfl,hz8,hs8⟩
    dsimp only at hw8 hz8
    have Xn:=Qa (cb.Good_wr Qe.out hw8)
    have Xo:=Qa (show HB S8 0 by
     rcases hw8 with ⟨_,_,_,rfl⟩|⟨_,_,_,_,rfl⟩
     ·exact Qf.out
     ·exact Qf.out.wrote _ _ _ _)
    have ya:=Xl.out p err S8 hw8
    have Xp:=Qa (show cb.Sys w0 w8 (L.set i (KD w0 D RS S8 room)) X by rw [List.set_set] at hz8;exact hz8.sub fun b hb=>.inl (.inl hb))
    have Xq:=Qa (same_trans Xk.out fun z hz=>(hs8 z (.inl (.inl hz))).trans (Q5.out.block z (Qp.out z (.inl hz))))
    have z2:w8.cell? ⟨g,2,none⟩=some (.string xd):=(World.cell?_of_block (a:=⟨g,2,none⟩) ((hs8 g (.inl (.inr rfl))).trans (Q5.out.block g (Qp.out g (.inr rfl))))).trans y2
    clear hw8 hz8 hs8 y1 y2 hcv HW Qs Q5
    have Q6:=Qa (HE.out w8 · S8 Xp.out Xq.out Xn.out Xo.out ·)
    by_cases hfit:zs≤65536∧S1.used+nch zs≤room
    ·rw [Jb hfit] at Qb
     obtain ⟨rfl,rfl,hS8⟩:=ya.1 hfit
     have HF:=Qa (Q6.out 0 (.inl ⟨rfl,by rw [Qb.out,hS8];rfl⟩))
     have hlt:¬((p:Int)<(p:Int)):=by omega
     clear hfit ya hS8
     go_wp2_with fail
     exact HF.out
    ·rw [Ja hfit] at Qb
     have h2:=ya.2 hfit
     by_cases e1:err=0
     ·subst e1
      have hlt:(p:Int)<(zs:Int):=by have:=h2.resolve_left (fun e=>e rfl);omega
      have HF:=Qa (Q6.out 28 (.inr ⟨by decide,Qb.out⟩))
      clear hfit ya h2
      go_wp2_with fail
      exact HF.out
     ·have HF:=Qa (Q6.out err (.inr ⟨e1,Qb.out⟩))
      have qe:(err != 0)=true:=by simpa using e1
      clear hfit ya h2 e1
      go_wp2_with fail
      exact HF.out
   rw [Ja k1] at Qb
   have q1:(xk != 1)=true:=by simpa using k1
   by_cases k2:xk=2
   ·subst k2
    rw [Jb rfl] at Qb
    unfold fl.makeF at Qb
    have Qg:=Qa (ds_make Qo.out Qj.out Qd.out.1 Qd.out.2.1 Qd.out.2.2 d ⟨nx.toArray⟩ 2 ⟨#[]⟩ (by have:=Q4.out;omega) (by decide))
    have Qe:=Qa (Qd.out.1.make d ⟨nx.toArray⟩ 2 ⟨#[]⟩)
    have Qf:=Qa (Qd.out.2.2.make (by decide) d ⟨nx.toArray⟩ 2 ⟨#[]⟩)
    obtain ⟨mk,hmk⟩:∃z,S.make d ⟨nx.toArray⟩ 2 ⟨#[]⟩=z:=⟨_,rfl⟩
    rw [hmk] at Qg Qe Qf Qb
    obtain ⟨⟨m1,m2⟩,S1⟩:=mk
    dsimp only at Qg Qe Qf Qb
    have Q7:=Qa (show ∀W:World,cb.Sys w0 W (L.set i (KD w0 D RS S1 room)) (fun b=>X b∨b=g)→Same (fun b=>X b∨b=g) w6 W→PQ (.returned (.int .i64 m2)) W from
     fun W a b=>HE.out W m2 S1 (a.sub fun _ h=>.inl h) (same_trans Qv.out fun z hz=>(b z (.inl hz)).trans (Qh.out.block z (Qt.out z hz))) Qe.out Qf.out (by
      by_cases e:m2=0
      ·rw [Ja (by simpa using e)] at Qb;exact .inl ⟨e,Qb.out⟩
      ·rw [Jb e] at Qb;exact .inr ⟨e,Qb.out⟩))
    clear hmk Qb k1
    go_wp2_with fail
    refine Qg.out.mono ?_
    rintro _ w7 ⟨rfl,hz7,hs7⟩
    have HF:=Qa (Q7.out w7 hz7 hs7)
    have y1:w7.cell? ⟨g,1,none⟩=some (.int .i64 2):=(World.cell?_of_block (a:=⟨g,1,none⟩) (hs7 g (.inr rfl))).trans x1
    clear hz7 hs7 x1 x2
    by_cases e:m2=0
    ·subst e
     go_wp2_with fail
     exact HF.out
    ·have qe:(m2 != 0)=true:=by simpa using e
     go_wp2_with fail
     exact HF.out
   rw [Ja k2] at Qb
   have q2:(xk != 2)=true:=by simpa using k2
   by_cases k3:xk=3
   ·subst k3
    rw [Jb rfl] at Qb
    unfold fl.makeF at Qb
    have Qg:=Qa (ds_make Qo.out Qj.out Qd.out.1 Qd.out.2.1 Qd.out.2.2 d ⟨nx.toArray⟩ 3 xd (by have:=Q4.out;omega) (by have:=Qx.out;omega))
    have Qe:=Qa (Qd.out.1.make d ⟨nx.toArray⟩ 3 xd)
    have Qf:=Qa (Qd.out.2.2.make (by decide) d ⟨nx.toArray⟩ 3 xd)
    obtain ⟨mk,hmk⟩:∃z,S.make d ⟨nx.toArray⟩ 3 xd=z:=⟨_,rfl⟩
    rw [hmk] at Qg Qe Qf Qb
    obtain ⟨⟨m1,m2⟩,S1⟩:=mk
    dsimp only at Qg Qe Qf Qb
    have Q7:=Qa (show ∀W:World,cb.Sys w0 W (L.set i (KD w0 D RS S1 room)) (fun b=>X b∨b=g)→Same (fun b=>X b∨b=g) w6 W→PQ (.returned (.int .i64 m2)) W from
     fun W a b=>HE.out W m2 S1 (a.sub fun _ h=>.inl h) (same_trans Qv.out fun z hz=>(b z (.inl hz)).trans (Qh.out.block z (Qt.out z hz))) Qe.out Qf.out (by
      by_cases e:m2=0
      ·rw [Ja (by simpa using e)] at Qb;exact .inl ⟨e,Qb.out⟩
      ·rw [Jb e] at Qb;exact .inr ⟨e,Qb.out⟩))
    clear hmk Qb k1 k2
    go_wp2_with fail
    refine Qg.out.mono ?_
    rintro _ w7 ⟨rfl,hz7,hs7⟩
    have HF:=Qa (Q7.out w7 hz7 hs7)
    have y1:w7.cell? ⟨g,1,none⟩=some (.int .i64 3):=(World.cell?_of_block (a:=⟨g,1,none⟩) (hs7 g (.inr rfl))).trans x1
    clear hz7 hs7 x1 x2
    by_cases e:m2=0
    ·subst e
     go_wp2_with fail
     exact HF.out
    ·have qe:(m2 != 0)=true:=by simpa using e
     go_wp2_with fail
     exact HF.out
   rw [Ja k3] at Qb
   have q3:(xk != 3)=true:=by simpa using k3
   have HF:=Qa (Qk.out w6 22 Qh.out (by decide) Qb.out)
   clear k1 k2 k3
   go_wp2_with fail
   exact HF.out
end cu
namespace cu
open Go.RowKit Go.Deep
open br (BS Ino Inv at_nat abE fresh)
open cb (BrX RetW RetI No KB KD Res HB Stab NxR Same WrI Wz sF)
open bl (Pq Only AB U8 WR wr wrB IsStop)
open mg (bel_step bel_alloc)
open fl (Ln LR putF treeF treeF_drop treeF_stop Lv)
def LX (w:World) (X:Nat→Prop) (A:Option Addr) (l:List Ln):Prop:=∀(j:Nat) (x:Ln),l[j]?=some x→∃b off,A=some ⟨b,off,none⟩∧X b ∧
 w.cell? ⟨b,off+j*3,none⟩=some (.string x.path)∧w.cell? ⟨b,off+j*3+1,none⟩=some (.int .i64 x.kind)∧w.cell? ⟨b,off+j*3+2,none⟩=some (.string x.data)
theorem LX.same {w w':World} {X:Nat→Prop} {A:Option Addr} {l:List Ln} (h:LX w X A l) (hs:Same X w w'):LX w' X A l:=fun j x hx=>by
 obtain ⟨b,off,e,hb,c0,c1,c2⟩:=h j x hx
 exact ⟨b,off,e,hb,(World.cell?_of_block (a:=⟨b,off+j*3,none⟩) (hs b hb)).trans c0,(World.cell?_of_block (a:=⟨b,off+j*3+1,none⟩) (hs b hb)).trans c1,(World.cell?_of_block (a:=⟨b,off+j*3+2,none⟩) (hs b hb)).trans c2⟩
theorem LX.sub {w:World} {X Y:Nat→Prop} {A:Option Addr} {l:List Ln} (h:LX w X A l) (hs:∀b,X b→Y b):LX w Y A l:=fun j x hx=>by
 obtain ⟨b,off,e,hb,c⟩:=h j x hx
 exact ⟨b,off,e,hs b hb,c⟩
theorem LX.of {w:World} {B:Nat} {X:Nat→Prop} {A:Option Addr} {l:List Ln} (h:LR w B A l) (hs:∀b,b<B→X b):LX w X A l:=fun j x hx=>by
 obtain ⟨b,off,e,hb,c⟩:=h j x hx
 exact ⟨b,off,e,hs b hb,c⟩
theorem LX.lr {w:World} {B:Nat} {X:Nat→Prop} {A:Option Addr} {l:List Ln} (h:LX w X A l) (hs:∀b,X b→b<B):LR w B A l:=fun j x hx=>by
 obtain ⟨b,off,e,hb,c⟩:=h j x hx
 exact ⟨b,off,e,hs b hb,c⟩
theorem app_at (L:List Res) (r:Res):(L++[r])[L.length]?=some r:=by simp
theorem app_set (L:List Res) (r r':Res):(L++[r]).set L.length r'=L++[r']:=by simp
theorem drop_last {w0 w:World} {L:List Res} {r:Res} {X:Nat→Prop} (h:cb.Sys w0 w (L++[r]) X):cb.Sys w0 w L X :=
 Sys.perm h id (fun _ _ _ _ e=>e) fun i s hi=>by
  show (L++[r])[i]?=some s
  rw [List.getElem?_append_left (List.getElem?_eq_some_iff.1 hi).1];exact hi
def RTreeE (w0 w:World) (L:List Res) (X:Nat→Prop) (l:List Ln) (e:Ending) (w':World):Prop :=
 Same X w w'∧((∃err:Int,err≠0∧treeF 65536 fresh l=none∧e=.returned (.tuple #[.pointer none,.int .i64 err])∧cb.Sys w0 w' L X) ∨
  ∃(D RS:Nat) (S:BS),treeF 65536 fresh l=some S∧e=.returned (.tuple #[Pq D,.int .i64 0])∧cb.Sys w0 w' (L++[KD w0 D RS S 65536]) X∧br.Good S 65536∧HB S 0)
theorem rtree_any {w0 w:World} {L:List Res} {X:Nat→Prop} (h:cb.Sys w0 w L X) {A:Option Addr} {l:List Ln} {c:Nat} (hl:LX w X A l) (hn:l.length≤2000000) (hd:∀x∈l,x.data.size≤1000000) :
  Calls Tryz.prog 114 #[.slice A l.length c,.int .i64 65536] w (RTreeE w0 w L X l):=by
 have HN:=Qa (cb.rb_new 65536 w0.heap.size w (by decide) h.bel.size)
 have HH:=Qa h
 have HL:=Qa hl
 have Qm:=Qa hd
 obtain ⟨m,hm⟩:∃m,l.length=m:=⟨_,rfl⟩
 have HM:=Qa hm
 rw [hm] at hn ⊢
 have Qn:=Qa (show ∀j,j<m→∃x,l[j]?=some x from fun j hj=>⟨l[j]'(by omega),List.getElem?_eq_getElem _⟩)
 have Qg:=Qa (show ∀(W:World) (err:Int),Same X w W→err≠0→treeF 65536 fresh l=none→cb.Sys w0 W L X→RTreeE w0 w L X l (.returned (.tuple #[.pointer none,.int .i64 err])) W from fun W err a b d e=>⟨a,.inl ⟨err,b,d,rfl,e⟩⟩)
 have Qh:=Qa (show ∀(W:World) (D RS:Nat) (S:BS),Same X w W→treeF 65536 fresh l=some S→cb.Sys w0 W (L++[KD w0 D RS S 65536]) X→br.Good S 65536→HB S 0→RTreeE w0 w L X l (.returned (.tuple #[Pq D,.int .i64 0])) W from fun W D RS S a b d e f=>⟨a,.inr ⟨D,RS,S,b,rfl,d,e,f⟩⟩)
 obtain ⟨PQ,hPQ⟩:∃P,RTreeE w0 w L X l=P:=⟨_,rfl⟩
 rw [hPQ] at Qg Qh ⊢
 clear h hl hd hm hPQ
 go_enter Tryz.func114,Tryz.ntmps114
 go_wp2_with fail
 refine HN.out.mono ?_
 rintro _ w1 ⟨D,RS,pl,tag,rfl,h1,hb1,ht1⟩
 have H1:=Qa (show cb.Sys w0 w1 (L++[KD w0 D RS fresh 65536]) X from HH.out.add hb1 KD.stab ⟨pl,tag,h1,fun b=>Iff.rfl⟩ ht1)
 have Qo:=Qa (show Same X w w1 from fun b hb=>hb1.block b (HH.out.lt hb))
 clear h1 hb1 ht1 HN HH
 go_upto_region 5 with fail
 go_loopg [7] m (fun gh s7 wr=>∃(j:Nat) (S:BS),gh+j=m∧s7=.int .i64 j∧Hid (treeF 65536 fresh l=treeF 65536 S (l.drop j))∧Hid (cb.Sys w0 wr (L++[KD w0 D RS S 65536]) X)∧Hid (Same X w wr)∧Hid (br.Good S 65536∧HB S 0))
 case atStart=>exact ⟨0,fresh,by omega,rfl,Qa rfl,H1,Qo,Qa ⟨br.Good.fresh _,HB.fresh⟩⟩
 case round =>
  obtain ⟨j,S,hgj,rfl,Qe,Qi,Qf,Qc⟩:=hrel
  by_cases hj:j<m
  ·obtain ⟨x,hx⟩:=Qn.out j hj
   have Qj:=Qa hx
   obtain ⟨b,off,hA,hbB,c0,c1,c2⟩:=(HL.out.same Qf.out) j x hx
   subst hA
   have Qd:=Qa (rput_any Qi.out (app_at L _) Qc.out.1 (by decide) Qc.out.2 x (Qm.out _ (List.mem_of_getElem? hx)))
   unfold RPutE at Qd
   obtain ⟨xp,xk,xd⟩:=x
   dsimp only at c0 c1 c2
   obtain ⟨pr,hpr⟩:∃r,putF 65536 S ⟨xp,xk,xd⟩=r:=⟨_,rfl⟩
   have Qk:=Qa hpr
   rw [hpr] at Qd
   clear hx hpr hbB
   go_wp2_with fail
   refine Qd.out.mono ?_
   rintro _ w3 ⟨err,S',rfl,h3,hs3,ma,hh3,hc⟩
   rw [app_set] at h3
   have H3:=Qa h3
   have Ql:=Qa (same_trans Qf.out hs3)
   have Qp:=Qa (And.intro ma hh3)
   clear h3 hs3 ma hh3 Qd c0 c1 c2
   rcases hc with ⟨rfl,rfl⟩|⟨e9,rfl⟩
   ·have Qb:=Qa (Qe.out.trans (treeF_drop Qj.out Qk.out))
    go_wp2_with fail
    go_roundg (gk - 1)
    case measure=>omega
    case rel=>exact ⟨j+1,S',by omega,by go_num,Qb,H3,Ql,Qp⟩
   ·have q9:(err != 0)=true:=by simpa using e9
    have Qb:=Qa (Qe.out.trans (treeF_stop Qj.out Qk.out))
    have HF:=Qa (Qg.out w3 err Ql.out e9 Qb.out (drop_last H3.out))
    clear e9
    go_wp2_with fail
    exact HF.out
  ·obtain rfl:j=m:=by omega
   have Qb:=Qa (show treeF 65536 fresh l=some S by rw [Qe.out,List.drop_eq_nil_of_le (by rw [HM.out];exact Nat.le_refl _)];rfl)
   have HF:=Qa (Qh.out wr D RS S Qf.out Qb.out Qi.out Qc.out.1 Qc.out.2)
   go_wp2_with fail
   exact HF.out
end cu
namespace fl
open Go.RowKit
open dn (En lget lset ldel nerr dotB Sorted lessB)
open br (BS Ino Inv Tree sumF fresh)
open mg (Nd opq kindV lstV belV seenV pairV getV rootV AllV)
theorem sorted_ex (Q:ByteArray→Prop):∀C:List ByteArray,∃L:List En,Sorted L∧∀s,(∃v,(s,v)∈L)↔(s∈C∧Q s)
 | []=>⟨[],List.Pairwise.nil,fun s=>by simp⟩
 | c::C=>by
  obtain ⟨L,hL,hm⟩:=sorted_ex Q C
  by_cases hc:Q c
  ·refine ⟨lset c 0 L,dn.lset_sorted hL,fun s=>?_⟩
   constructor
   ·rintro ⟨v,hv⟩
    rcases (dn.lset_mem hL _).1 hv with e|⟨e,_⟩
    ·injection e with e1 e2
     rw [e1];exact ⟨List.mem_cons_self,hc⟩
    ·have:=(hm s).1 ⟨v,e⟩
     exact ⟨List.mem_cons_of_mem _ this.1,this.2⟩
   ·rintro ⟨hs,hq⟩
    by_cases e:s=c
    ·exact ⟨0,(dn.lset_mem hL _).2 (.inl (by rw [e]))⟩
    ·rcases List.mem_cons.1 hs with h|h
     ·exact absurd h e
     ·obtain ⟨v,hv⟩:=(hm s).2 ⟨h,hq⟩
      exact ⟨v,(dn.lset_mem hL _).2 (.inr ⟨hv,e⟩)⟩
  ·refine ⟨L,hL,fun s=>?_⟩
   rw [hm s]
   constructor
   ·rintro ⟨a,b⟩;exact ⟨List.mem_cons_of_mem _ a,b⟩
   ·rintro ⟨a,b⟩
    rcases List.mem_cons.1 a with h|h
    ·exact absurd (h▸b) hc
    ·exact ⟨h,b⟩
theorem got_mem {S:BS} {room:Nat} (hI:Inv S room) {d:Int} {s:ByteArray} (h:got S d s≠0):s∈(S.all d).1.map (·.1):=by
 unfold got at h
 split at h
 ·rename_i e
  obtain ⟨D,rfl,h1,h2,h3,h4⟩:=br.get_ok e
  have hm:=(dn.lget_some (hI.sorted D)).1 h4
  refine List.mem_map.2 ⟨(s,(S.get (D:Int) s).1),?_,rfl⟩
  unfold BS.all
  rw [Ja,br.at_nat]
  ·exact hm
  ·unfold BS.dirE BS.isI
   rw [br.at_nat,decide_eq_true ⟨by omega,by omega,by rw [h3];decide⟩,h3]
   simp
 ·exact absurd rfl h
theorem allV_ex {U L:BS} {r1 r2:Nat} (hU:Inv U r1) (hL:Inv L r2) (n:Nd):∃l,AllV U L n l:=by
 obtain ⟨L0,hs,hm⟩:=sorted_ex (fun s=>(getV U L n s).2=0) ((U.all n.1).1.map (·.1)++(L.all n.2).1.map (·.1))
 refine ⟨L0.map (·.1),by rw [List.pairwise_map];exact hs,fun s=>?_⟩
 rw [List.mem_map]
 constructor
 ·rintro ⟨⟨a,v⟩,h1,h2⟩
  dsimp only at h2
  rw [←h2]
  exact ((hm a).1 ⟨v,h1⟩).2
 ·intro h
  have h1:=wN_step hU hL n s h
  have h2:s∈(U.all n.1).1.map (·.1)++(L.all n.2).1.map (·.1):=by
   rw [List.mem_append]
   by_cases e:got U n.1 s=0
   ·exact .inr (got_mem hL (by omega))
   ·exact .inl (got_mem hU e)
  obtain ⟨v,hv⟩:=(hm s).2 ⟨h2,h⟩
  exact ⟨(s,v),hv,rfl⟩
theorem names_no {U L:BS} {n:Nd} (hl:lstV U L n≠0):namesV U L n=[]:=namesV_eq (AllV.none hl)
abbrev yA:ByteArray:=⟨#[47,97]⟩
abbrev yB:ByteArray:=⟨#[47,97,47,98]⟩
abbrev yC:ByteArray:=⟨#[47,99]⟩
abbrev yX:ByteArray:=⟨#[120]⟩
abbrev y1:ByteArray:=⟨#[97]⟩
abbrev y2:ByteArray:=⟨#[98]⟩
abbrev y3:ByteArray:=⟨#[99]⟩
def zl:List Ln:=[⟨yA,2,⟨#[]⟩⟩,⟨yB,1,yX⟩,⟨yC,3,y1⟩]
def z1:List Ln:=[⟨yB,1,yX⟩]
structure Zn where
 q:ByteArray
 s:ByteArray
 kind:Int
 data:ByteArray
def Zn.path (z:Zn):ByteArray:=z.q++slB++z.s
def Zn.ln (z:Zn):Ln:=⟨z.path,z.kind,z.data⟩
noncomputable def linesZ (U L:BS):Nat→Nd→ByteArray→List Zn
 | 0,_,_=>[]
 | d+1,n,at_=>(namesV U L n).flatMap fun s=>⟨at_,s,kindV U L (getV U L n s).1,contV U L (getV U L n s).1⟩::linesZ U L d (getV U L n s).1 (at_++slB++s)
theorem linesZ_ln (U L:BS):∀(d:Nat) (n:Nd) (at_:ByteArray),(linesZ U L d n at_).map Zn.ln=linesV U L d n at_
 | 0,_,_=>rfl
 | d+1,n,at_=>by
  unfold linesZ linesV
  rw [List.map_flatMap]
  congr 1
  funext s
  rw [List.map_cons,linesZ_ln U L d]
  rfl
abbrev bl8 (s:ByteArray):List UInt8:=s.data.toList
def noSl (s:ByteArray):Prop:=(47:UInt8)∉bl8 s
theorem bl8_app (a b:ByteArray):bl8 (a++b)=bl8 a++bl8 b:=by
 unfold bl8
 rw [ByteArray.data_append,Array.toList_append]
theorem bl8_inj {a b:ByteArray} (h:bl8 a=bl8 b):a=b:=by rw [←Lib.mk_data a,←Lib.mk_data b];unfold bl8 at h;rw [h]
def pre (q:ByteArray) (p:ByteArray):Prop:=(bl8 q++[47]) <+: bl8 p
theorem path_bl (z:Zn):bl8 z.path=bl8 z.q++[47]++bl8 z.s:=by unfold Zn.path;rw [bl8_app,bl8_app];rfl
theorem sl_pre {a b:List UInt8} (ha:(47:UInt8)∉a) (hb:(47:UInt8)∉b) {r t:List UInt8} (h:a++47::r=b++47::t):a=b:=by
 induction a generalizing b with
 | nil =>
  cases b with
  | nil=>rfl
  | cons y b =>
   simp only [List.nil_append,List.cons_append,List.cons.injEq] at h
   exact absurd (h.1▸List.mem_cons_self) hb
 | cons x a ih =>
  cases b with
  | nil =>
   simp only [List.nil_append,List.cons_append,List.cons.injEq] at h
   exact absurd (h.1▸List.mem_cons_self) ha
  | cons y b =>
   simp only [List.cons_append,List.cons.injEq] at h
   rw [h.1,ih (fun e=>ha (List.mem_cons_of_mem _ e)) (fun e=>hb (List.mem_cons_of_mem _ e)) h.2]
theorem sl_none {a b:List UInt8} (hb:(47:UInt8)∉b) {r:List UInt8} (h:a++47::r=b):False:=hb (h▸by simp)
def hasDir (Z:List Zn) (p:ByteArray):Prop:=p=⟨#[]⟩∨∃z∈Z,z.kind=2∧z.path=p
def lastN (Z:List Zn) (q:ByteArray):ByteArray:=Z.foldl (fun a z=>if z.q=q then z.s else a) ⟨#[]⟩
structure OkZ (Z:List Zn) (z:Zn):Prop where
 new:∀y∈Z,y.path≠z.path
 dir:hasDir Z z.q
 up:lessB (lastN Z z.q) z.s=true
 k1:1≤z.kind
 k3:z.kind≤3
 empty:z.kind=2→z.data=⟨#[]⟩
 ns:noSl z.s
 sz:z.path.size≤30000
def OkAll (P Z:List Zn):Prop:=∀i z,Z[i]?=some z→OkZ (P++Z.take i) z
theorem OkAll.nil (P:List Zn):OkAll P []:=fun i z h=>by cases h
theorem OkAll.cons {P Z:List Zn} {z:Zn} (h:OkZ P z) (k:OkAll (P++[z]) Z):OkAll P (z::Z):=fun i y hy=>by
 cases i with
 | zero=>injection hy with hy;subst hy;simpa using h
 | succ i =>
  have:=k i y hy
  rw [List.append_assoc] at this
  exact this
theorem OkAll.app {P Z Y:List Zn} (h:OkAll P Z) (k:OkAll (P++Z) Y):OkAll P (Z++Y):=fun i y hy=>by
 by_cases hi:i<Z.length
 ·rw [List.getElem?_append_left hi] at hy
  have:=h i y hy
  rwa [List.take_append_of_le_length (Nat.le_of_lt hi)]
 ·have ma:=Nat.le_of_not_lt hi
  rw [List.getElem?_append_right ma] at hy
  have:=k (i - Z.length) y hy
  rw [List.take_append,List.take_of_length_le ma,←List.append_assoc]
  exact this
theorem lastN_app (Z Y:List Zn) (q:ByteArray) (h:∀y∈Y,y.q≠q):lastN (Z++Y) q=lastN Z q:=by
 unfold lastN
 rw [List.foldl_append]
 generalize Z.foldl (fun a z=>if z.q=q then z.s else a) ⟨#[]⟩=a
 induction Y generalizing a with
 | nil=>rfl
 | cons y Y ih =>
  rw [List.foldl_cons,Ja (h y List.mem_cons_self)]
  exact ih (fun y hy=>h y (List.mem_cons_of_mem _ hy)) a
theorem lastN_one (Z:List Zn) (z:Zn):lastN (Z++[z]) z.q=z.s:=by unfold lastN;rw [List.foldl_append,List.foldl_cons,List.foldl_nil,Jb rfl]
theorem lastN_none {Z:List Zn} {q:ByteArray} (h:∀y∈Z,y.q≠q):lastN Z q=⟨#[]⟩:=by have:=lastN_app [] Z q h;rwa [List.nil_append] at this
theorem hasDir.more {Z Y:List Zn} {p:ByteArray} (h:hasDir Z p):hasDir (Z++Y) p:=h.imp id fun ⟨z,a,b⟩=>⟨z,List.mem_append.2 (.inl a),b⟩
theorem path_pre (z:Zn):pre z.q z.path:=⟨bl8 z.s,by rw [path_bl]⟩
theorem pre_up {q s p:ByteArray} (h:pre (q++slB++s) p):pre q p:=by
 obtain ⟨t,h⟩:=h
 refine ⟨bl8 s++47::t,?_⟩
 rw [←h,bl8_app,bl8_app]
 show _=bl8 q++[47]++bl8 s++[47]++t
 simp
theorem pre_two {q s s' p:ByteArray} (hs:noSl s) (hs':noSl s') (h:pre (q++slB++s) p) (k:pre (q++slB++s') p):s=s':=by
 obtain ⟨t,h⟩:=h
 obtain ⟨t',k⟩:=k
 rw [←h,bl8_app,bl8_app,bl8_app,bl8_app] at k
 have e:bl8 s'++47::t'=bl8 s++47::t:=by
  have k':bl8 q++[47]++(bl8 s'++47::t')=bl8 q++[47]++(bl8 s++47::t):=by
   have:bl8 slB=[47]:=rfl
   rw [this] at k
   simpa [List.append_assoc] using k
  exact List.append_cancel_left k'
 exact (bl8_inj (sl_pre hs' hs e)).symm
theorem pre_name {q s s':ByteArray} (hs':noSl s') (h:pre (q++slB++s) (q++slB++s')):False:=by
 obtain ⟨t,h⟩:=h
 rw [bl8_app,bl8_app,bl8_app,bl8_app] at h
 have e:bl8 s++47::t=bl8 s':=by
  have k':bl8 q++[47]++(bl8 s++47::t)=bl8 q++[47]++bl8 s':=by
   have:bl8 slB=[47]:=rfl
   rw [this] at h
   simpa [List.append_assoc] using h
  exact List.append_cancel_left k'
 exact sl_none hs' e
theorem name_inj {q s s':ByteArray} (h:q++slB++s=q++slB++s'):s=s':=by
 have:=congrArg bl8 h
 rw [bl8_app,bl8_app,bl8_app,bl8_app] at this
 exact bl8_inj (List.append_cancel_left this)
theorem pre_self {q:ByteArray} (h:pre q q):False:=by
 obtain ⟨t,h⟩:=h
 have:=congrArg List.length h
 simp only [List.length_append,List.length_cons,List.length_nil] at this
 omega
structure Ahead (P:List Zn) (at_:ByteArray) (l:List ByteArray):Prop where
 dir:hasDir P at_
 done:∀z∈P,pre at_ z.path→∃s',noSl s'∧(z.path=at_++slB++s'∨pre (at_++slB++s') z.path)∧∀s∈l,lessB s' s=true
 last:∀s∈l,lessB (lastN P at_) s=true
theorem less_nil {s:ByteArray} (h:s≠⟨#[]⟩):lessB ⟨#[]⟩ s=true:=by
 have:bl8 s≠[]:=fun e=>h (bl8_inj (e.trans rfl))
 unfold lessB
 rw [Lib.toList_data,Lib.toList_data]
 unfold bl8 at this
 cases hs:s.data.toList with
 | nil=>exact absurd hs this
 | cons x t=>rfl
theorem name_ok {U L:BS} {r1 r2:Nat} (hU:Inv U r1) (hL:Inv L r2) {n:Nd} {s:ByteArray} (h:(getV U L n s).2=0):noSl s∧s≠⟨#[]⟩∧s.size≤60:=by
 have h1:=wN_step hU hL n s h
 have one:∀ {S:BS} {r:Nat} {d:Int},Inv S r→got S d s≠0→nerr s.data.toList=0:=fun {S r d} hI hg=>by
  unfold got at hg
  split at hg
  ·rename_i e
   obtain ⟨D,_,_,_,_,h4⟩:=br.get_ok e
   exact (hI.good D _ ((dn.lget_some (hI.sorted D)).1 h4)).1
  ·exact absurd rfl hg
 have hn:nerr s.data.toList=0:=by
  by_cases e:got U n.1 s=0
  ·exact one hL (d:=n.2) (by omega)
  ·exact one hU e
 refine ⟨?_,?_,(cb.nerr_len hn).2⟩
 ·intro hm
  have:nerr s.data.toList≠0:=by
   unfold nerr
   split
   ·decide
   ·split
    ·decide
    ·rw [Jb (.inr hm)];decide
  exact this hn
 ·rintro rfl
  have:=(cb.nerr_len hn).1
  exact absurd this (by decide)
theorem kind_in {S:BS} {r:Nat} (hI:Inv S r) (i:Int):0≤S.kindOf i∧S.kindOf i≤4:=by
 unfold BS.kindOf
 split
 ·exact hI.kinds _
 ·exact ⟨by decide,by decide⟩
theorem kindV_in {U L:BS} {r1 r2:Nat} (hU:Inv U r1) (hL:Inv L r2) {n:Nd} (h:kindV U L n≠0):1≤kindV U L n∧kindV U L n≤3:=by
 obtain ⟨K,hK,hb⟩:∃K:Int,(if n.1≠0 then U.kindOf n.1 else L.kindOf n.2)=K∧0≤K∧K≤4:=⟨_,rfl,by split;exact kind_in hU n.1;exact kind_in hL n.2⟩
 unfold kindV at h ⊢
 rw [hK] at h ⊢
 split at h
 ·exact absurd rfl h
 ·rename_i e
  rw [Ja e];omega
theorem names_leaf {U L:BS} {n:Nd} (h:kindV U L n≠2):namesV U L n=[]:=by
 refine names_no ?_
 rcases mg.lst_cases U L n with ⟨a,_⟩|⟨_,a⟩|⟨a,_⟩
 ·omega
 ·exact absurd a h
 ·omega
theorem linesZ_leaf {U L:BS} {d:Nat} {n:Nd} {at_:ByteArray} (h:kindV U L n≠2):linesZ U L d n at_=[]:=by
 cases d with
 | zero=>rfl
 | succ d=>unfold linesZ;rw [names_leaf h];rfl
theorem cont_dir {U L:BS} {n:Nd} (h:kindV U L n=2):contV U L n=⟨#[]⟩:=by unfold contV;rw [h];rfl
theorem OkAll.mem {P Z:List Zn} (h:OkAll P Z) {z:Zn} (hz:z∈Z):∃Y,OkZ Y z:=by
 obtain ⟨i,hi⟩:=List.mem_iff_getElem?.1 hz
 exact ⟨_,h i z hi⟩
theorem less_irr {s:ByteArray} (h:lessB s s=true):False:=by rw [dn.less_irrefl] at h;cases h
noncomputable def lineN (U L:BS) (d:Nat) (n:Nd) (at_ s:ByteArray):List Zn:=⟨at_,s,kindV U L (getV U L n s).1,contV U L (getV U L n s).1⟩::linesZ U L d (getV U L n s).1 (at_++slB++s)
theorem size3 (a s:ByteArray):(a++slB++s).size=a.size+1+s.size:=by rw [ByteArray.size_append,ByteArray.size_append];rfl
theorem linesZ_ok {U L:BS} {r:Nat} (hU:Inv U r) (hL:Inv L r):∀(d:Nat) (n:Nd) (at_:ByteArray) (P:List Zn),at_.size+61*d≤30000→Ahead P at_ (namesV U L n) →
  OkAll P (linesZ U L d n at_)∧∀z∈linesZ U L d n at_,pre at_ z.path
 | 0,_,_,_,_,_=>⟨OkAll.nil _,fun z h=>by cases h⟩
 | d+1,n,at_,P,hd,hA=>by
  obtain ⟨l0,hl0⟩:=allV_ex hU hL n
  have e0:=namesV_eq hl0
  unfold linesZ
  rw [e0] at hA ⊢
  have hg:∀s∈l0,(getV U L n s).2=0:=fun s hs=>(hl0.mem s).1 hs
  have hr:=hl0.rise
  clear e0 hl0
  show OkAll P (l0.flatMap (lineN U L d n at_))∧∀z∈l0.flatMap (lineN U L d n at_),pre at_ z.path
  induction l0 generalizing P with
  | nil=>exact ⟨OkAll.nil _,fun z h=>by cases h⟩
  | cons s l ih =>
   obtain ⟨n1,n2,n3⟩:=name_ok hU hL (hg s List.mem_cons_self)
   have hk:=kindV_in hU hL (mg.get_down hU hL n s (hg s List.mem_cons_self)).kind
   rw [List.pairwise_cons] at hr
   obtain ⟨z,ez⟩:∃z:Zn,z=⟨at_,s,kindV U L (getV U L n s).1,contV U L (getV U L n s).1⟩:=⟨_,rfl⟩
   have zq:z.q=at_:=by rw [ez]
   have zs:z.s=s:=by rw [ez]
   have zp:z.path=at_++slB++s:=by rw [ez];rfl
   have hz:OkZ P z:=by
    refine ⟨fun y hy e=>?_,zq▸hA.dir,by rw [zq,zs];exact hA.last s List.mem_cons_self,by rw [ez];exact hk.1,by rw [ez];exact hk.2,fun e=>by rw [ez] at e ⊢;exact cont_dir e,zs▸n1,by rw [zp,size3];omega⟩
    rw [zp] at e
    have hp:pre at_ y.path:=by have:=path_pre z;rw [zq,zp,←e] at this;exact this
    obtain ⟨s',a,b,c⟩:=hA.done y hy hp
    rw [e] at b
    rcases b with b|b
    ·have:=name_inj b;subst this;exact less_irr (c _ List.mem_cons_self)
    ·exact pre_name n1 b
   have ma:∀y∈P++[z],pre (at_++slB++s) y.path→False:=fun y hy hp=>by
    rcases List.mem_append.1 hy with hy|hy
    ·obtain ⟨s',a,b,c⟩:=hA.done y hy (pre_up hp)
     rcases b with b|b
     ·rw [b] at hp;exact pre_name a hp
     ·have:=pre_two n1 a hp b;subst this;exact less_irr (c _ List.mem_cons_self)
    ·rw [List.mem_singleton] at hy;rw [hy,zp] at hp;exact pre_self hp
   have hB:OkAll (P++[z]) (linesZ U L d (getV U L n s).1 (at_++slB++s))∧∀y∈linesZ U L d (getV U L n s).1 (at_++slB++s),pre (at_++slB++s) y.path:=by
    by_cases k2:kindV U L (getV U L n s).1=2
    ·refine linesZ_ok hU hL d (getV U L n s).1 (at_++slB++s) (P++[z]) (by rw [size3];omega) ⟨?_,fun y hy hp=>(ma y hy hp).elim,fun s2 hs2=>?_⟩
     ·exact .inr ⟨z,List.mem_append.2 (.inr List.mem_cons_self),by rw [ez];exact k2,zp⟩
     ·rw [lastN_none fun y hy e=>ma y hy (by have:=path_pre y;rw [e] at this;exact this)]
      obtain ⟨lx,hlx⟩:=allV_ex hU hL (getV U L n s).1
      rw [namesV_eq hlx] at hs2
      exact less_nil (name_ok hU hL ((hlx.mem s2).1 hs2)).2.1
    ·rw [linesZ_leaf k2]
     exact ⟨OkAll.nil _,fun z h=>by cases h⟩
   have hC:Ahead (P++lineN U L d n at_ s) at_ l:=by
    unfold lineN
    rw [←ez]
    refine ⟨hA.dir.more,fun y hy hp=>?_,fun s2 hs2=>?_⟩
    ·rcases List.mem_append.1 hy with hy|hy
     ·obtain ⟨s',a,b,c⟩:=hA.done y hy hp
      exact ⟨s',a,b,fun s2 h2=>c s2 (List.mem_cons_of_mem _ h2)⟩
     ·refine ⟨s,n1,?_,hr.1⟩
      rcases List.mem_cons.1 hy with hy|hy
      ·exact .inl (hy▸zp)
      ·exact .inr (hB.2 y hy)
    ·have e1:P++z::linesZ U L d (getV U L n s).1 (at_++slB++s)=(P++[z])++linesZ U L d (getV U L n s).1 (at_++slB++s):=by simp
     rw [e1,lastN_app _ _ _ fun y hy e=>?_]
     ·have:=lastN_one P z
      rw [zq,zs] at this
      rw [this]
      exact hr.1 s2 hs2
     ·obtain ⟨Y,hY⟩:=hB.1.mem hy
      have h1:=hB.2 y hy
      have h2:y.path=at_++slB++y.s:=by rw [←e];rfl
      rw [h2] at h1
      exact pre_name hY.ns h1
   obtain ⟨i1,i2⟩:=ih _ hC (fun s2 h2=>hg s2 (List.mem_cons_of_mem _ h2)) hr.2
   rw [List.flatMap_cons]
   refine ⟨OkAll.app ?_ i1,fun y hy=>?_⟩
   ·unfold lineN
    rw [←ez]
    exact OkAll.cons hz hB.1
   ·rcases List.mem_append.1 hy with hy|hy
    ·unfold lineN at hy
     rw [←ez] at hy
     rcases List.mem_cons.1 hy with hy|hy
     ·have:=path_pre z
      rw [zq] at this
      rw [hy];exact this
     ·exact pre_up (hB.2 y hy)
    ·exact i2 y hy
theorem top_ok {U L:BS} {r:Nat} (hU:Inv U r) (hL:Inv L r) (n:Nd):OkAll [] (linesZ U L 202 n ⟨#[]⟩) :=
 (linesZ_ok hU hL 202 n ⟨#[]⟩ [] (by decide) ⟨.inl rfl,fun z h=>(nomatch h),fun s hs=>by
  obtain ⟨lx,hlx⟩:=allV_ex hU hL n
  rw [namesV_eq hlx] at hs
  exact less_nil (name_ok hU hL ((hlx.mem s).1 hs)).2.1⟩).1
end fl
namespace cu
open Go.RowKit
open dn (En lget lset ldel nerr dotB Sorted)
open br (BS Ino Inv at_nat upd_same upd_other abE nameE badKind fresh sumF)
open bl (AB)
open cb (newI WrI)
open mg (Nd opq kindV getV rootV belV AllV readN targN)
open fl (Ln wt wtI wN Anc Deep linesV ofV contV linesV_len noSl slB Zn linesZ linesZ_ln OkAll OkZ top_ok allV_ex)
theorem len_names:∀(n:Nat) (l:List En),(∀e∈l,1≤e.2∧e.2≤(n:Int))→l.length≤sumF (fun k=>br.names (k:Int) l) n
 | n,[],h=>Nat.zero_le _
 | n,e::l,h=>by
  have h1:=len_names n l fun x hx=>h x (List.mem_cons_of_mem _ hx)
  have h2:sumF (fun k=>br.names (k:Int) (e::l)) n=sumF (fun k=>if e.2=(k:Int) then 1 else 0) n+sumF (fun k=>br.names (k:Int) l) n:=by
   rw [←fl.sumF_add]
   refine br.sumF_congr fun k _ _=>?_
   unfold br.names
   rw [List.filter_cons]
   by_cases e1:e.2=(k:Int)
   ·rw [Jb e1];simp [e1];omega
   ·rw [Ja e1];simp [e1]
  have h3:1≤sumF (fun k=>if e.2=(k:Int) then 1 else 0) n:=by
   obtain ⟨a,b⟩:=h e List.mem_cons_self
   have h4:=br.sumF_le (f:=fun k=>if e.2=(k:Int) then 1 else 0) (k:=e.2.toNat) (n:=n) (by omega) (by omega)
   have h5:e.2=((e.2.toNat:Nat):Int):=by omega
   rw [Jb h5] at h4
   exact h4
  rw [h2,List.length_cons];omega
theorem sumF_two (f:Nat→Nat→Nat) (m:Nat):∀n,sumF (fun k=>sumF (fun i=>f k i) m) n=sumF (fun i=>sumF (fun k=>f k i) n) m
 | 0=>(br.sumF_zero fun _ _ _=>rfl).symm
 | n+1=>by
  show sumF (fun k=>sumF (fun i=>f k i) m) n+sumF (fun i=>f (n+1) i) m=_
  rw [sumF_two f m n,←fl.sumF_add]
  rfl
theorem names_all {S:BS} {room:Nat} (hI:Inv S room):sumF (fun k=>(S.ino k).dir.length) 200≤4000:=by
 have h1:sumF (fun k=>(S.ino k).dir.length) 200≤sumF (fun k=>sumF (fun i=>br.names (i:Int) (S.ino k).dir) 200) 200 :=
  br.sumF_mono fun k _ _=>len_names 200 _ fun e he=>(hI.good k e he).2.2
 rw [sumF_two] at h1
 have h2:sumF (fun i=>sumF (fun k=>br.names (i:Int) (S.ino k).dir) 200) 200≤sumF (fun _=>20) 200:=br.sumF_mono fun i i1 i2=>by
  have h3:=hI.links i i1 i2
  have h4:=hI.twenty i
  show S.names i 200≤20
  split at h3 <;> omega
 have h5:sumF (fun _=>20) 200≤200*20:=fl.sumF_cap (fun _=>Nat.le_refl _) 200
 omega
theorem wtI_le {S:BS} {room:Nat} (hI:Inv S room) (i:Int):wtI S i≤4000:=by
 unfold wtI
 split
 ·refine Nat.le_trans ?_ (names_all hI)
  unfold wt
  exact br.sumF_mono fun k _ _=>by split <;> omega
 ·exact Nat.zero_le _
theorem fresh_dir (k:Nat):(fresh.ino k).dir=[]:=by
 unfold fresh
 dsimp only
 by_cases e:k=1
 ·subst e;rw [upd_same];rfl
 ·rw [upd_other _ _ e];rfl
theorem wtI_fresh (i:Int):wtI fresh i=0:=by
 unfold wtI
 split
 ·unfold wt
  exact br.sumF_zero fun k _ _=>by rw [fresh_dir];simp
 ·rfl
theorem lines_many {U:BS} {r:Nat} (hU:br.Good U r):(ofV U fresh 1 1).length≤4000:=by
 obtain ⟨dU,hdU⟩:=br.Tree.bound hU.1 hU.2
 have hF:=br.Good.fresh r
 obtain ⟨dL,hdL⟩:=br.Tree.bound hF.1 hF.2
 refine Nat.le_trans (linesV_len hU.1 hF.1 hdU hdL (fun n=>allV_ex hU.1 hF.1 n) _ _ _) ?_
 unfold wN
 rw [wtI_fresh]
 have:=wtI_le hU.1 (rootV U fresh 1 1).1
 omega
theorem lines_none:ofV fresh fresh 1 1=[]:=by
 have hF:=br.Good.fresh 0
 obtain ⟨dL,hdL⟩:=br.Tree.bound hF.1 hF.2
 have h:=linesV_len hF.1 hF.1 hdL hdL (fun n=>allV_ex hF.1 hF.1 n) 202 (rootV fresh fresh 1 1) ⟨#[]⟩
 unfold wN at h
 rw [wtI_fresh,wtI_fresh] at h
 exact List.length_eq_zero_iff.1 (by unfold ofV;omega)
theorem strF_size (n:Nat) (f:Nat→UInt8):(bl.strF n f).size=n:=by
 show ((List.range n).map f).toArray.size=n
 simp
theorem readI_le (S:BS) (i off n:Int):(cb.readI S i off n).2≤n.toNat:=by
 unfold cb.readI
 split
 ·exact Nat.zero_le _
 ·unfold bl.readR
  split
  ·exact Nat.zero_le _
  ·exact Nat.min_le_left _ _
theorem target_le {S:BS} {r:Nat} (hI:Inv S r) (i:Int):(S.targetOf i).1.size≤400:=by
 unfold BS.targetOf
 split
 ·exact (show (⟨#[]⟩:ByteArray).size≤400 by decide)
 ·split
  ·exact (show (⟨#[]⟩:ByteArray).size≤400 by decide)
  ·exact hI.target _
theorem cont_le {U L:BS} {r1 r2:Nat} (hU:Inv U r1) (hL:Inv L r2) (x:Nd):(contV U L x).size≤65536:=by
 unfold contV
 split
 ·rw [strF_size];exact readI_le _ _ _ _
 ·split
  ·unfold targN
   split
   ·exact (show (⟨#[]⟩:ByteArray).size≤65536 by decide)
   ·split
    ·exact Nat.le_trans (target_le hU _) (by decide)
    ·exact Nat.le_trans (target_le hL _) (by decide)
  ·exact (show (⟨#[]⟩:ByteArray).size≤65536 by decide)
theorem lines_data {U L:BS} {r1 r2:Nat} (hU:Inv U r1) (hL:Inv L r2):∀(d:Nat) (n:Nd) (at_:ByteArray),∀x∈linesV U L d n at_,x.data.size≤65536
 | 0,n,at_,x,hx=>nomatch hx
 | d+1,n,at_,x,hx=>by
  unfold linesV at hx
  obtain ⟨s,_,hs⟩:=List.mem_flatMap.1 hx
  rcases List.mem_cons.1 hs with e|e
  ·rw [e];exact cont_le hU hL _
  ·exact lines_data hU hL d _ _ x e
structure LnOk (x:Ln):Prop where
 sl:∃k:Nat,∃h:k<x.path.size,x.path.data[k]'h=47
 path:x.path.size≤30000
 data:x.data.size≤65536
theorem lines_ok {U:BS} {r:Nat} (hU:br.Good U r):∀x∈ofV U fresh 1 1,LnOk x:=fun x hx=>by
 have hF:=br.Good.fresh r
 have h2:=lines_data hU.1 hF.1 _ _ _ x hx
 unfold ofV at hx
 rw [←linesZ_ln] at hx
 obtain ⟨z,hz,rfl⟩:=List.mem_map.1 hx
 obtain ⟨Y,ho⟩:=(top_ok hU.1 hF.1 (rootV U fresh 1 1)).mem hz
 refine ⟨⟨z.q.size,?_⟩,ho.sz,h2⟩
 have hl:z.path.data.toList=z.q.data.toList++[47]++z.s.data.toList:=fl.path_bl z
 have hlen:z.q.size<z.path.data.toList.length:=by rw [hl];simp
 refine ⟨by show z.q.size<z.path.data.size;simpa using hlen,?_⟩
 have h3:z.path.data.toList[z.q.size]'hlen=47:=by
  have:z.path.data.toList[z.q.size]?=some 47:=by
   rw [hl,List.append_assoc,List.getElem?_append_right (by show z.q.data.toList.length≤z.q.data.size;simp)]
   have:z.q.size - z.q.data.toList.length=0:=by show z.q.data.size - _=0;simp
   rw [this];rfl
  exact (List.getElem?_eq_some_iff.1 this).2
 show z.path.data[z.q.size]=47
 simpa using h3
structure Bg (S:BS):Prop where
 k2:(S.ino 2).kind=2
 l2:(S.ino 2).links≠0
 out:Out S 3
 d3:(S.ino 3).dir=[]
 l3:(S.ino 3).links≠0
 one:∀k,(S.ino k).links≤1
section
variable {S S2 L:BS} {room D n:Nat} {s t:ByteArray} {x:Ino} {d kind:Int}
theorem Mk.bg (h:Mk S S2 D n s x) (hD:D≠3) (hx:x.links≤1) (hB:Bg S):Bg S2:=by
 have n2:(2:Nat)≠n:=fun e=>by have:=h.hz;rw [←e,hB.k2] at this;cases this
 have n3:(3:Nat)≠n:=fun e=>by have:=h.hz;rw [←e,hB.out.kind] at this;cases this
 have e:∀k,k≠n→(S2.ino k).kind=(S.ino k).kind∧(S2.ino k).links=(S.ino k).links:=fun k hk=>by
  by_cases e1:k=D
  ·subst e1;rw [h.eD];exact ⟨rfl,rfl⟩
  ·rw [h.oth k e1 hk];exact ⟨rfl,rfl⟩
 refine ⟨(e 2 n2).1.trans hB.k2,(e 2 n2).2▸hB.l2,h.out hB.out,?_,(e 3 n3).2▸hB.l3,fun k=>?_⟩
 ·rw [h.oth 3 (fun e=>hD e.symm) n3];exact hB.d3
 ·by_cases e1:k=n
  ·rw [e1,h.eN];exact hx
  ·rw [(e k e1).2];exact hB.one k
theorem Bg.make (hB:Bg S) (hG:br.Good S room) (hd:d≠3):Bg (S.make d s kind t).2:=by
 by_cases h:(S.make d s kind t).1.2=0
 ·obtain ⟨D,n,e,_,hm,_⟩:=mk_of hG h
  exact hm.bg (fun e2=>hd (by rw [e,e2];rfl)) (by show (1:Int)≤1;decide) hB
 ·rw [(make_no h).1];exact hB
theorem make_ne3 (hB:Bg S) (hG:br.Good S room):(S.make d s kind t).1.1≠3:=by
 by_cases h:(S.make d s kind t).1.2=0
 ·obtain ⟨D,n,_,e,hm,_⟩:=mk_of hG h
  rw [e]
  intro e2
  have e3:n=3:=Int.ofNat_inj.1 e2
  have:=hm.hz
  rw [e3,hB.out.kind] at this;cases this
 ·rw [(make_no h).2];decide
theorem Bg.write {i off:Int} {len p:Nat} {g:Nat→UInt8} {err:Int} (hB:Bg S) (hw:WrI S room i off len g p err S2):Bg S2:=by
 rcases hw with ⟨_,_,_,rfl⟩|⟨_,_,_,_,rfl⟩
 ·exact hB
 ·have e:∀k,((S.wrote i off p g).ino k).kind=(S.ino k).kind∧((S.wrote i off p g).ino k).links=(S.ino k).links∧((S.wrote i off p g).ino k).dir=(S.ino k).dir∧((S.wrote i off p g).ino k).parent=(S.ino k).parent:=fun k=>by
   unfold BS.wrote
   dsimp only
   by_cases e1:k=i.toNat
   ·rw [e1,upd_same];exact ⟨rfl,rfl,rfl,rfl⟩
   ·rw [upd_other _ _ e1];exact ⟨rfl,rfl,rfl,rfl⟩
  exact ⟨(e 2).1.trans hB.k2,(e 2).2.1▸hB.l2,⟨hB.out.w1,hB.out.w2,(e 3).1.trans hB.out.kind,(e 3).2.2.2.trans hB.out.par,hB.out.ne⟩,(e 3).2.2.1.trans hB.d3,(e 3).2.1▸hB.l3,fun k=>(e k).2.1▸hB.one k⟩
def upB:ByteArray:=⟨#[117,112]⟩
def workB:ByteArray:=⟨#[119,111,114,107]⟩
def S0:BS:=((fresh.make 1 upB 2 ⟨#[]⟩).2.make 1 workB 2 ⟨#[]⟩).2
theorem Bg.start:Bg S0 where
 k2:=by decide +kernel
 l2:=by decide +kernel
 out:=⟨by decide,by decide,by decide +kernel,by decide +kernel,by decide⟩
 d3:=by decide +kernel
 l3:=by decide +kernel
 one:=fun k=>by
  have hG:br.Good S0 0:=((br.Good.fresh 0).make _ _ _ _).make _ _ _ _
  by_cases h:(S0.ino k).kind=2
  ·exact hG.1.single k h
  ·by_cases h4:k≤3
   ·have:k=0∨k=1∨k=2∨k=3:=by omega
    rcases this with e|e|e|e <;> subst e <;> decide +kernel
   ·by_cases h5:200<k
    ·rw [hG.1.out k (.inr h5)];decide
    ·have:∀k:Fin 201,(S0.ino k.val).links≤1:=by decide +kernel
     exact this ⟨k,by omega⟩
theorem Bg.kind2 (h:Bg S):S.kindOf 2=2:=by
 unfold BS.kindOf BS.isI
 rw [show S.at (2:Int)=S.ino 2 from rfl,h.k2];decide
theorem Bg.kind3 (h:Bg S):S.kindOf 3=2:=by
 unfold BS.kindOf BS.isI
 rw [show S.at (3:Int)=S.ino 3 from rfl,h.out.kind];decide
end
end cu
end Go.Proofs.YtgoddboicjfkcaaGreat
