/- Part 45 of what is known of the program's functions and of the document's words: contracts, and the mathematics beneath them. -/
import Derived.Test.YtgoddboicjfkcaaGreatProg
import Derived.Test.YtgoddboicjfkcaaGreatZ37
import Derived.Test.YtgoddboicjfkcaaGreatZ44
import Derived.Test.YtgoddboicjfkcaaGreatZ42
import Derived.Deep.LoopGhost
import Derived.StillTailTactics
set_option linter.unusedVariables false
set_option linter.unusedSimpArgs false
set_option maxRecDepth 100000
set_option maxHeartbeats 8000000
namespace Go.Proofs.YtgoddboicjfkcaaGreat.cu
open Go.RowKit Go.Deep
open br (BS Ino Inv at_nat abE fresh)
open cb (BrX RetW RetI No KB KD Res HB Stab NxR Same WrI Wz sF)
open bl (Pq Only AB U8 WR wr wrB IsStop)
open mg (bel_step bel_alloc)
open fl (Ln LR putF treeF fileF makeF placeM splitM goM nch pfx Lv)
open pa (Bs)
section
variable {w0 w w':World} {L:List Res} {X:Nat→Prop} {i D RS room:Nat} {S:BS}
theorem set_same {r:Res} (h:L[i]?=some r):L.set i r=L:=by
 apply List.ext_getElem?
 intro j
 by_cases e:i=j
 ·subst e
  rw [List.getElem?_set_self (List.getElem?_eq_some_iff.1 h).1,h]
 ·rw [List.getElem?_set_ne e]
theorem set_at {r r':Res} (h:L[i]?=some r):(L.set i r')[i]?=some r':=List.getElem?_set_self (List.getElem?_eq_some_iff.1 h).1
theorem ds_make (h:cb.Sys w0 w L X) (hi:L[i]?=some (KD w0 D RS S room)) (hG:br.Good S room) (hr:room≤65536) (hH:HB S 0) (d:Int) (s:ByteArray) (k:Int) (t:ByteArray) (hm:s.size≤9223372036854775807) (hmt:t.size≤9223372036854775807) :
  Calls Tryz.prog 34 #[Pq D,.int .i64 d,.string s,.int .i64 k,.string t] w (fun e w'=>e=.returned (.tuple #[.int .i64 (S.make d s k t).1.1,.int .i64 (S.make d s k t).1.2])∧cb.Sys w0 w' (L.set i (KD w0 D RS (S.make d s k t).2 room)) X∧Same X w w') :=
 cb.Sys.call h hi KD.stab fun O k'=>cb.kd_make k' hG hr (fun k=>by have:=hH k;omega) d s k t hm hmt
theorem ds_get (h:cb.Sys w0 w L X) (hi:L[i]?=some (KD w0 D RS S room)) (hG:br.Good S room) (d:Int) (s:ByteArray) :
  Calls Tryz.prog 76 #[Pq D,.int .i64 d,.string s] w (fun e w'=>e=.returned (.tuple #[.int .i64 (S.get d s).1,.int .i64 (S.get d s).2])∧w'=w) :=
 h.ask hi fun O ⟨pl,tg,k,_⟩=>quiet2 (cb.q_get k hG d s)
theorem ds_kind (h:cb.Sys w0 w L X) (hi:L[i]?=some (KD w0 D RS S room)) (d:Int) :
  Calls Tryz.prog 69 #[Pq D,.int .i64 d] w (fun e w'=>e=.returned (.int .i64 (S.kindOf d))∧w'=w) :=
 h.ask hi fun O ⟨pl,tg,k,_⟩=>quiet2 (cb.q_kind k d)
theorem wri_new {n len p:Nat} {f:Nat→UInt8} {err:Int} (h1:1≤n) (h2:n≤200) (hk:(S.ino n).kind=1) (hb:(S.ino n).body=abE) (hu:S.used≤room) (hw:WR abE S.used room 0 len p err):WrI S room (n:Int) 0 len f p err (S.wrote (n:Int) 0 p f):=by
 refine .inr ⟨cb.fileE_of h1 h2 hk,by rw [at_nat,hb];exact hw,?_,?_,rfl⟩
 ·rw [at_nat,hb,br.abE_n]
  have hp:p≤65536∧S.used+nch p≤room:=by
   rcases hw with ⟨h,_⟩|⟨_,_,rfl,_⟩|⟨h,_⟩|⟨_,_,_,hs,_⟩
   ·omega
   ·exact ⟨by omega,by unfold fl.nch;omega⟩
   ·omega
   ·have hle:=hs.le
    have h0:(0:Int).toNat=0:=rfl
    rw [h0] at hle hs
    refine ⟨by omega,?_⟩
    by_cases e:p=0
    ·subst e;unfold fl.nch;omega
    ·have h2:=hs.ok (16*((p - 1) / 16)) (by omega)
     rw [fl.ok_new (by omega)] at h2
     rcases h2 with h2|h2
     ·omega
     ·unfold fl.nch at h2 ⊢;omega
  rw [fl.wr_new_n hp.1];omega
 ·rw [at_nat,hb]
  have hp:p≤65536:=by
   rcases hw with ⟨h,_⟩|⟨_,_,rfl,_⟩|⟨h,_⟩|⟨_,_,_,hs,_⟩
   ·omega
   ·omega
   ·omega
   ·have hle:=hs.le
    have h0:(0:Int).toNat=0:=rfl
    rw [h0] at hle
    omega
  exact bl.wrB_ok br.abE_ok (by show 0+p≤65536;omega) f
theorem kd_writeE {O:Nat→Prop} (h:KD w0 D RS S room w O) (hG:br.Good S room) (hr:room≤65536) (hX:∀ b,X b→b<w.heap.size∧¬ O b) {n:Nat} (h1:1≤n) (h2:n≤200) (hk:(S.ino n).kind=1) (hb:(S.ino n).body=abE) (A:Option Addr) (len dc:Nat) (f:Nat→UInt8) (hA:∀ j,j<len→∃ b o,A=some ⟨b,o,none⟩∧X b∧w.cell? ⟨b,o+j,none⟩=some (U8 (f j))) (hlc:len≤dc) (hdc:dc≤maxLen) :
  Calls Tryz.prog 40 #[Pq D,.int .i64 (n:Int),.int .i64 0,.slice A len dc] w (fun e w'=>∃ z:Wz,WrI S room (n:Int) 0 len f z.1 z.2.1 z.2.2∧e=.returned (.tuple #[.int .i64 (z.1:Int),.int .i64 z.2.1])∧NxR w w' (KD w0 D RS z.2.2 room) O):=by
 obtain ⟨pl,tg,k1,h6⟩:=h
 refine (cb.q_write k1 hG hr (n:Int) 0 A len dc f (fun j hj=>by
  obtain ⟨b,o,e,hb,hc⟩:=hA j hj
  exact ⟨b,o,e,Classical.byContradiction fun hn=>(hX b hb).2 ((h6 b).2 hn),(hX b hb).1,hc⟩) hlc hdc).mono ?_
 rintro e w' (⟨z1,_⟩|⟨z1,p,err,hw,rfl,pl',tg',k2,k3⟩)
 ·exact absurd (cb.fileE_of h1 h2 hk) z1
 ·rw [at_nat,hb] at hw
  exact ⟨(p,err,S.wrote (n:Int) 0 p f),wri_new h1 h2 hk hb hG.1.room hw,rfl,(KD.next (v:=.int .i64 0) (pl:=pl) h6 ⟨rfl,pl',tg',k2,k3⟩).2⟩
theorem ds_write (h:cb.Sys w0 w L X) (hi:L[i]?=some (KD w0 D RS S room)) (hG:br.Good S room) (hr:room≤65536) {n:Nat} (h1:1≤n) (h2:n≤200) (hk:(S.ino n).kind=1) (hb:(S.ino n).body=abE) (A:Option Addr) (len dc:Nat) (f:Nat→UInt8) (hA:∀ j,j<len→∃ b o,A=some ⟨b,o,none⟩∧X b∧w.cell? ⟨b,o+j,none⟩=some (U8 (f j))) (hlc:len≤dc) (hdc:dc≤maxLen) :
  Calls Tryz.prog 40 #[Pq D,.int .i64 (n:Int),.int .i64 0,.slice A len dc] w (fun e w'=>∃ z:Wz,WrI S room (n:Int) 0 len f z.1 z.2.1 z.2.2∧e=.returned (.tuple #[.int .i64 (z.1:Int),.int .i64 z.2.1])∧cb.Sys w0 w' (L.set i (KD w0 D RS z.2.2 room)) X∧Same X w w') :=
 cb.Sys.callE (q:=fun z:Wz=>KD w0 D RS z.2.2 room) h hi (fun _ _=>KD.stab) fun O k hX=>kd_writeE k hG hr hX h1 h2 hk hb A len dc f hA hlc hdc
end
def RPutE (w0 w:World) (L:List Res) (X:Nat→Prop) (i D RS room:Nat) (res:Option BS) (e:Ending) (w':World):Prop :=
 ∃ (err:Int) (S':BS),e=.returned (.int .i64 err)∧cb.Sys w0 w' (L.set i (KD w0 D RS S' room)) X∧Same X w w'∧br.Good S' room∧HB S' 0∧((err=0∧res=some S')∨(err≠0∧res=none))
end Go.Proofs.YtgoddboicjfkcaaGreat.cu
namespace Go.Proofs.YtgoddboicjfkcaaGreat.cu
open Go.RowKit Go.Deep
open br (BS Ino Inv at_nat abE fresh)
open cb (BrX RetW RetI No KB KD Res HB Stab NxR Same WrI Wz sF)
open bl (Pq Only AB U8 WR wr wrB IsStop)
open mg (bel_step bel_alloc)
open fl (Ln LR putF treeF fileF makeF placeM splitM goM nch pfx Lv goM_drop)
open pa (Bs)
theorem pfx_head {s:ByteArray} (h0:0<s.size):pfx s=decide ((s[0]'h0).toNat=47):=by
 unfold fl.pfx Lib.hasPrefix
 have e:s.data.toList=s[0]::s.data.toList.tail:=by
  have hl:0<s.data.toList.length:=by rw [Array.length_toList];exact h0
  rw [← List.cons_head_tail (l:=s.data.toList) (by intro e;rw [e] at hl;simp at hl)]
  congr 1
  rw [List.head_eq_getElem]
  rfl
 rw [e]
 by_cases h:s[0]=47
 ·rw [h];simp
 ·have h2:(s[0]).toNat≠47:=fun e=>h (UInt8.toNat_inj.1 e)
  rw [decide_eq_false h2,Bool.eq_false_iff]
  intro hh
  simp [List.isPrefixOf] at hh
  exact h hh.symm
theorem perr_pos {s:ByteArray} (h:pa.perr s.data.toList=0):0<s.size:=by
 rcases Nat.eq_zero_or_pos s.size with e|e
 ·exfalso
  have:s.data.toList=[]:=List.eq_nil_of_length_eq_zero (by rw [Array.length_toList];exact e)
  rw [this] at h
  exact absurd h (by decide)
 ·exact e
theorem rput_any {w0 w:World} {L:List Res} {X:Nat→Prop} {i D RS room:Nat} {S:BS} (h:cb.Sys w0 w L X) (hi:L[i]?=some (KD w0 D RS S room)) (hG:br.Good S room) (hr:room≤65536) (hH:HB S 0) (x:Ln) (hd:x.data.size≤1000000) :
  Calls Tryz.prog 170 #[Pq D,Lv x] w (RPutE w0 w L X i D RS room (putF room S x)):=by
 obtain ⟨xp,xk,xd⟩:=x
 obtain ⟨w1,hw1⟩:∃ w1,w.alloc (.cells #[.string xp,.int .i64 xk,.string xd] 104)=w1:=⟨_,rfl⟩
 obtain ⟨g,hg⟩:∃ g,w.heap.size=g:=⟨_,rfl⟩
 have hb1:Below w.heap.size w w1:=by rw [← hw1];exact bel_alloc _ _
 have hz1:w1.heap.size=g+1:=by rw [← hw1,← hg,World.size_alloc]
 have HXG:=Lib.hid (show w1.heap[g]?=some (.cells #[.string xp,.int .i64 xk,.string xd] 104 (0,0)) by rw [← hw1,← hg];exact heap_alloc_new w _)
 have H1:=Lib.hid (h.box (Y:=fun b=>X b∨b=g) hb1 (fun b hb=>hb.imp id fun e=>by rw [e];omega))
 have HLT:=Lib.hid (show ∀ z,X z→z<w1.heap.size from fun z hz=>H1.out.lt (.inl hz))
 have HSX:=Lib.hid (show Same X w w1 from fun b hb=>hb1.block b (h.lt hb))
 have HP:=Lib.hid (pa.rparse_any xp w1)
 unfold pa.ParseE at HP
 have HIX:=Lib.hid (fun (h0:0<xp.size) (W:World)=>show (Instr.index 9 (.string xp) (.int .i64 0)).run Tryz.prog W=.ok (.int .u8 ((xp[0]'h0).toNat:Int)) W from by
  rw [run_index_string W 9 xp .i64 0 Tryz.underlying9,dif_pos ⟨by omega,by omega⟩];rfl)
 have HPH:=Lib.hid (@pfx_head xp)
 have HPP:=Lib.hid (@perr_pos xp)
 have HSN:=Lib.hid (@fl.split_no xp)
 have HSY:=Lib.hid (@fl.split_yes xp)
 have HNL:=Lib.hid (@fl.names_len xp.data.toList)
 have HDZ:=Lib.hid hd
 have HGO:=Lib.hid (And.intro hG (And.intro hr hH))
 have HHI:=Lib.hid hi
 have HPF:=Lib.hid (show putF room S ⟨xp,xk,xd⟩=if (placeM S xp).2≠0 then none
  else if xk=1 then fileF room S (placeM S xp).1.1 (placeM S xp).1.2 xd
  else if xk=2 then makeF S (placeM S xp).1.1 (placeM S xp).1.2 2 ⟨#[]⟩
  else if xk=3 then makeF S (placeM S xp).1.1 (placeM S xp).1.2 3 xd
  else none from rfl)
 have HPL:=Lib.hid (show placeM S xp=match splitM xp with
  | none=>((0,⟨#[]⟩),22)
  | some (ys,x)=>if (goM S 1 ys).2≠0 then ((0,⟨#[]⟩),(goM S 1 ys).2)
   else if S.kindOf (goM S 1 ys).1≠2 then ((0,⟨#[]⟩),20) else (((goM S 1 ys).1,⟨x.toArray⟩),0) from rfl)
 have HE:=Lib.hid (show ∀ (W:World) (err:Int) (S':BS),cb.Sys w0 W (L.set i (KD w0 D RS S' room)) X→Same X w W→br.Good S' room→HB S' 0→((err=0∧putF room S ⟨xp,xk,xd⟩=some S')∨(err≠0∧putF room S ⟨xp,xk,xd⟩=none))→RPutE w0 w L X i D RS room (putF room S ⟨xp,xk,xd⟩) (.returned (.int .i64 err)) W from
  fun W err S' a b c d e=>⟨err,S',rfl,a,b,c,d,e⟩)
 obtain ⟨PQ,hPQ⟩:∃ P,RPutE w0 w L X i D RS room (putF room S ⟨xp,xk,xd⟩)=P:=⟨_,rfl⟩
 rw [hPQ] at HE ⊢
 generalize putF room S ⟨xp,xk,xd⟩=pr at *
 have HN0:=Lib.hid (show ∀ (W:World) (err:Int),Below w1.heap.size w1 W→err≠0→pr=none→PQ (.returned (.int .i64 err)) W from
  fun W err hb he hp=>HE.out W err S (by rw [set_same hi];exact (H1.out.below hb).sub fun b hb=>.inl hb) (fun b hx=>(hb.block b (H1.out.lt (.inl hx))).trans (hb1.block b (h.lt hx))) hG hH (.inr ⟨he,hp⟩))
 clear h hi hG hr hH hd hb1 hPQ hz1
 go_enter Tryz.func170,Tryz.ntmps170
 go_upto_region 1 with fail
 try rw [hw1]
 try rw [hg]
 clear hw1 hg
 have x0:w1.cell? ⟨g,0,none⟩=some (.string xp):=(Lib.cell_of_heap HXG.out 0).trans rfl
 generalize pa.perr xp.data.toList=pe at *
 generalize pa.pnames xp.data.toList=ns at *
 generalize pa.pdirE xp.data.toList=pd at *
 go_wp2_with fail
 refine HP.out.mono ?_
 rintro _ w2 ⟨A,c,rfl,hown,hb2⟩
 obtain ⟨m,hm⟩:∃ m,ns.length=m:=⟨_,rfl⟩
 have HM:=Lib.hid hm
 have HC:=Lib.hid (fl.own_fits hown)
 have HST:=Lib.hid (fun ob=>(hown.strs).keep (w':=w2.alloc ob) (fun p hp=>World.cell?_alloc_lt _ _ _ hp))
 rw [hm] at HC ⊢
 obtain ⟨w3,hw3⟩:∃ w3,w2.alloc (.cells #[.slice A m c,.bool pd] 292)=w3:=⟨_,rfl⟩
 obtain ⟨g3,hg3⟩:∃ x,w2.heap.size=x:=⟨_,rfl⟩
 have HB3:=Lib.hid (show Below w1.heap.size w1 w3 by rw [← hw3];exact bel_step hb2 (bel_alloc _ _))
 have HZ3:=Lib.hid (show w3.heap.size=g3+1 by rw [← hw3,← hg3,World.size_alloc])
 have HS3:=Lib.hid (show pa.Strs w3 g3 A ns by rw [← hw3,← hg3];exact HST.out _)
 have HU3:=Lib.hid (show w3.heap[g3]?=some (.cells #[.slice A m c,.bool pd] 292 (0,0)) by rw [← hw3,← hg3];exact heap_alloc_new w2 _)
 have HX3:=Lib.hid ((HB3.out.block g (by have:=World.block_lt_of_cell? _ _ x0;exact this)).trans HXG.out)
 clear hown hb2 hm HST x0 HP
 go_upto_region 2 with fail
 try rw [hw3]
 try rw [hg3]
 clear hw3 hg3
 by_cases he:pe=0
 case neg =>
  have q0:(pe != 0)=true:=by simpa using he
  have hsn:splitM xp=none:=HSN.out (.inl he)
  rw [hsn] at HPL
  have HF:=Lib.hid (HN0.out w3 22 HB3.out (by decide) (by rw [HPF.out,if_pos (by rw [HPL.out];exact (show (22:Int)≠0 by decide))]))
  clear he
  go_wp2_with fail
  exact HF.out
 subst he
 have hpos:=HPP.out (by first|rfl|trivial)
 have hix:=HIX.out hpos
 have hph:=HPH.out hpos
 generalize (xp[0]).toNat=ch at hix hph
 have x0:w3.cell? ⟨g,0,none⟩=some (.string xp):=(Lib.cell_of_heap HX3.out 0).trans rfl
 by_cases hch:ch=47
 case neg =>
  have hsn:splitM xp=none:=HSN.out (.inr (.inl (by rw [hph];exact decide_eq_false hch)))
  rw [hsn] at HPL
  have HF:=Lib.hid (HN0.out w3 22 HB3.out (by decide) (by rw [HPF.out,if_pos (by rw [HPL.out];exact (show (22:Int)≠0 by decide))]))
  have qc:(((ch:Nat):Int) != 47)=true:=by simp;omega
  clear hch hph hpos hsn
  go_wp2_with fail
  exact HF.out
 subst hch
 have HPX:=Lib.hid (show pfx xp=true by rw [hph];rfl)
 clear hph hpos HIX HPH HPP
 have u0:w3.cell? ⟨g3,0,none⟩=some (.slice A m c):=(Lib.cell_of_heap HU3.out 0).trans rfl
 have u1:w3.cell? ⟨g3,1,none⟩=some (.bool pd):=(Lib.cell_of_heap HU3.out 1).trans rfl
 have HLA:=Lib.hid (pa.rlast_any A m c g3 pd ns w3 HM.out.symm (by have:=HNL.out (by first|rfl|trivial);have:=HM.out;omega) HC.out.1 (by have:=HZ3.out;omega) HS3.out)
 rcases HLA.out with ⟨hl,hc⟩|⟨ys,nx,hys,hnx,hc⟩
 ·have hsn:splitM xp=none:=HSN.out (.inr (.inr hl))
  rw [hsn] at HPL
  have HCC:=Lib.hid hc
  unfold pa.LastNo at HCC
  clear hl hc HLA
  go_wp2_with fail
  refine HCC.out.mono ?_
  rintro _ w4 ⟨rfl,hb4⟩
  have HF:=Lib.hid (fun ob=>HN0.out (w4.alloc ob) 22 (bel_step (bel_step HB3.out hb4) (bel_alloc _ _)) (by decide) (by rw [HPF.out,if_pos (by rw [HPL.out];exact (show (22:Int)≠0 by decide))]))
  clear hb4
  go_wp2_with fail
  exact HF.out _
 have hsy:splitM xp=some (ys,nx):=HSY.out ys nx (by first|rfl|trivial) HPX.out hys hnx
 rw [hsy] at HPL
 dsimp only at HPL
 have HCC:=Lib.hid hc
 have hnm:=HNL.out (by first|rfl|trivial)
 unfold pa.LastYes at HCC
 obtain ⟨k,hk⟩:∃ k,ys.length=k:=⟨_,rfl⟩
 have HK:=Lib.hid hk
 have hk40:k≤40:=by rw [hys] at hnm;simp at hnm;omega
 rw [hk] at HCC
 clear hc HLA hsy hys hnx hnm hk HSN HSY HNL
 go_wp2_with fail
 refine HCC.out.mono ?_
 rintro _ w4 ⟨A4,c4,rfl,hown4,hb4⟩
 have HC4:=Lib.hid (fl.own_fits hown4)
 have HST:=Lib.hid (fun ob=>(hown4.strs).keep (w':=w4.alloc ob) (fun p hp=>World.cell?_alloc_lt _ _ _ hp))
 rw [HK.out] at HC4
 obtain ⟨w5,hw5⟩:∃ w5,w4.alloc (.cells #[.slice A4 k c4,.bool true] 292)=w5:=⟨_,rfl⟩
 obtain ⟨g5,hg5⟩:∃ x,w4.heap.size=x:=⟨_,rfl⟩
 have HB5:=Lib.hid (show Below w1.heap.size w1 w5 by rw [← hw5];exact bel_step (bel_step HB3.out hb4) (bel_alloc _ _))
 have HS5:=Lib.hid (show pa.Strs w5 g5 A4 ys by rw [← hw5,← hg5];exact HST.out _)
 have HU5:=Lib.hid (show w5.heap[g5]?=some (.cells #[.slice A4 k c4,.bool true] 292 (0,0)) by rw [← hw5,← hg5];exact heap_alloc_new w4 _)
 have HX5:=Lib.hid ((HB5.out.block g (by have:=World.block_lt_of_cell? _ _ ((Lib.cell_of_heap HXG.out 0).trans rfl:w1.cell? ⟨g,0,none⟩=some (.string xp));exact this)).trans HXG.out)
 have HZ5:=Lib.hid (H1.out.below HB5.out)
 clear hown4 hb4 HST HCC HB3 HZ3 HS3 HU3 HX3 x0 u0 u1 HC HM H1 HXG
 go_upto_region 9 with fail
 try rw [hw5]
 try rw [hg5]
 clear hw5 hg5
 have HGL:=Lib.hid (show ∀ j,j<k→∃ y,ys[j]?=some y from fun j hj=>⟨ys[j]'(by have:=HK.out;omega),List.getElem?_eq_getElem _⟩)
 go_loopg [10,11] k (fun gh s10 s11 wr=>∃ (j:Nat) (d:Int),gh+j=k∧s10=.int .i64 d∧s11=.int .i64 j∧Hid (goM S 1 ys=goM S d (ys.drop j))∧wr=w5)
 case atStart=>exact ⟨0,1,by omega,rfl,rfl,Lib.hid rfl,rfl⟩
 case round =>
  obtain ⟨j,d,hgj,rfl,rfl,HGM,rfl⟩:=hrel
  have u0:wr.cell? ⟨g5,0,none⟩=some (.slice A4 k c4):=(Lib.cell_of_heap HU5.out 0).trans rfl
  by_cases hj:j<k
  ·obtain ⟨y,hy⟩:=HGL.out j hj
   have HD:=Lib.hid (goM_drop (S:=S) (d:=d) hy)
   obtain ⟨ad,hA,hlt,hcell⟩:=HS5.out (by have:=HK.out;omega)
   have e1:=hcell j y hy
   subst hA
   have HGG:=Lib.hid (ds_get HZ5.out HHI.out HGO.out.1 d ⟨y.toArray⟩)
   obtain ⟨gr,hgr⟩:∃ r,S.get d ⟨y.toArray⟩=r:=⟨_,rfl⟩
   rw [hgr] at HGG HD
   obtain ⟨g1,g2⟩:=gr
   dsimp only at HGG HD
   clear hy hlt hcell hgr
   go_wp2_with fail
   refine HGG.out.mono ?_
   rintro _ w6 ⟨rfl,rfl⟩
   by_cases e0:g2=0
   ·subst e0
    rw [if_neg (fun e=>e rfl)] at HD
    go_wp2_with fail
    go_roundg (gk - 1)
    case measure=>omega
    case rel=>exact ⟨j+1,g1,by omega,rfl,by go_num,Lib.hid (HGM.out.trans HD.out),rfl⟩
   ·have q0:(g2 != 0)=true:=by simpa using e0
    rw [if_pos e0] at HD
    have hgo:=HGM.out.trans HD.out
    rw [hgo,if_pos e0] at HPL
    have HF:=Lib.hid (HN0.out w6 g2 HB5.out e0 (by rw [HPF.out,if_pos (by rw [HPL.out];exact e0)]))
    clear e0 hgo
    go_wp2_with fail
    exact HF.out
  ·obtain rfl:j=k:=by omega
   have hgo:goM S 1 ys=(d,0):=by rw [HGM.out,List.drop_eq_nil_of_le (by have:=HK.out;omega)];rfl
   rw [hgo,if_neg (fun e=>e rfl)] at HPL
   dsimp only at HPL
   have HKK:=Lib.hid (ds_kind HZ5.out HHI.out d)
   obtain ⟨kd,hkd⟩:∃ k,S.kindOf d=k:=⟨_,rfl⟩
   rw [hkd] at HKK HPL
   clear hkd hgo
   go_wp2_with fail
   refine HKK.out.mono ?_
   rintro _ w6 ⟨rfl,rfl⟩
   by_cases e2:kd=2
   case neg =>
    have q2:(kd != 2)=true:=by simpa using e2
    rw [if_pos e2] at HPL
    have HF:=Lib.hid (HN0.out w6 20 HB5.out (by decide) (by rw [HPF.out,if_pos (by rw [HPL.out];exact (show (20:Int)≠0 by decide))]))
    clear e2
    go_wp2_with fail
    exact HF.out
   subst e2
   rw [if_neg (fun e=>e rfl)] at HPL
   rw [HPL.out,if_neg (fun e=>e rfl)] at HPF
   dsimp only at HPF
   have HNX:=Lib.hid (show (⟨nx.toArray⟩:ByteArray).size≤1000000 by
    have h1:=fl.place_size (S:=S) (s:=xp)
    rw [HPL.out] at h1;exact h1)
   clear u0 HU5 HS5 HGL HGM HKK HPL HC4 HK
   have x1:w6.cell? ⟨g,1,none⟩=some (.int .i64 xk):=(Lib.cell_of_heap HX5.out 1).trans rfl
   have x2:w6.cell? ⟨g,2,none⟩=some (.string xd):=(Lib.cell_of_heap HX5.out 2).trans rfl
   by_cases k1:xk=1
   ·subst k1
    rw [if_pos rfl] at HPF
    unfold fl.fileF at HPF
    have HMK:=Lib.hid (ds_make HZ5.out HHI.out HGO.out.1 HGO.out.2.1 HGO.out.2.2 d ⟨nx.toArray⟩ 1 ⟨#[]⟩ (by have:=HNX.out;omega) (by decide))
    have HGM:=Lib.hid (HGO.out.1.make d ⟨nx.toArray⟩ 1 ⟨#[]⟩)
    have HHM:=Lib.hid (HGO.out.2.2.make (by decide) d ⟨nx.toArray⟩ 1 ⟨#[]⟩)
    have HMO:=Lib.hid (fun hh=>cb.made_of HGO.out.1 (d:=d) (s:=⟨nx.toArray⟩) (t:=⟨#[]⟩) (kind:=1) hh)
    obtain ⟨mk,hmk⟩:∃ z,S.make d ⟨nx.toArray⟩ 1 ⟨#[]⟩=z:=⟨_,rfl⟩
    rw [hmk] at HMK HGM HHM HPF HMO
    obtain ⟨⟨m1,m2⟩,S1⟩:=mk
    dsimp only at HMK HGM HHM HPF HMO
    clear hmk
    go_wp2_with fail
    refine HMK.out.mono ?_
    rintro _ w7 ⟨rfl,hz7,hs7⟩
    have HZ7:=Lib.hid hz7
    have HS7:=Lib.hid hs7
    have y1:w7.cell? ⟨g,1,none⟩=some (.int .i64 1):=(World.cell?_of_block (a:=⟨g,1,none⟩) (hs7 g (.inr rfl))).trans x1
    have y2:w7.cell? ⟨g,2,none⟩=some (.string xd):=(World.cell?_of_block (a:=⟨g,2,none⟩) (hs7 g (.inr rfl))).trans x2
    have HSW:=Lib.hid (same_trans HSX.out fun z hz=>(hs7 z (.inl hz)).trans (HB5.out.block z (HLT.out z hz)))
    clear hz7 hs7 x1 x2 HMK
    by_cases e0:m2=0
    case neg =>
     rw [if_pos e0] at HPF
     have HF:=Lib.hid (HE.out w7 m2 S1 (HZ7.out.sub fun _ h=>.inl h) HSW.out HGM.out HHM.out (.inr ⟨e0,HPF.out⟩))
     have qe:(m2 != 0)=true:=by simpa using e0
     clear e0
     go_wp2_with fail
     exact HF.out
    subst e0
    rw [if_neg (fun e=>e rfl)] at HPF
    obtain ⟨Dn,n,hDn,hn,hmd,hbd⟩:=HMO.out (by first|rfl|trivial)
    subst hn
    have HFW:=Lib.hid (fun p err S' hw=>fl.file_write (S:=S1) (S':=S') (room:=room) (len:=xd.size) (p:=p) (f:=sF xd) (err:=err) hmd.n1 hmd.n2 hmd.eN.1 hbd hw)
    obtain ⟨c9,wc9,hcv,hc1,hc2,hbc,hltc,hfc⟩:=cb.conv_bytes w7 xd HDZ.out
    have HW:=Lib.hid (ds_write (HZ7.out.box (Y:=fun b=>(X b∨b=g)∨b=w7.heap.size) hbc fun b hb=>hb.imp id fun e=>by rw [e];exact ⟨Nat.le_refl _,hltc⟩) (set_at HHI.out) HGM.out HGO.out.2.1 hmd.n1 hmd.n2 hmd.eN.1 hbd (some ⟨w7.heap.size,0,none⟩) xd.size c9 (sF xd) (fun j hj=>⟨w7.heap.size,0,rfl,.inr rfl,hfc j hj⟩) hc1 hc2)
    have HBC:=Lib.hid hbc
    have HLT7:=Lib.hid (show ∀ b,X b∨b=g→b<w7.heap.size from fun b hb=>HZ7.out.lt hb)
    have hsz:((xd.size:Nat):Int)≤1000000:=by have:=HDZ.out;omega
    clear hDn hmd hbd hc1 hc2 hbc hltc hfc HMO
    obtain ⟨zs,hzs⟩:∃ z,xd.size=z:=⟨_,rfl⟩
    rw [hzs] at HPF HFW HW hcv hsz
    go_wp2_with fail
    refine HW.out.mono ?_
    rintro _ w8 ⟨⟨p,err,S8⟩,hw8,rfl,hz8,hs8⟩
    dsimp only at hw8 hz8
    have HG8:=Lib.hid (cb.Good_wr HGM.out hw8)
    have HH8:=Lib.hid (show HB S8 0 by
     rcases hw8 with ⟨_,_,_,rfl⟩|⟨_,_,_,_,rfl⟩
     ·exact HHM.out
     ·exact HHM.out.wrote _ _ _ _)
    have hfw:=HFW.out p err S8 hw8
    have HZ8:=Lib.hid (show cb.Sys w0 w8 (L.set i (KD w0 D RS S8 room)) X by rw [List.set_set] at hz8;exact hz8.sub fun b hb=>.inl (.inl hb))
    have HS8:=Lib.hid (same_trans HSW.out fun z hz=>(hs8 z (.inl (.inl hz))).trans (HBC.out.block z (HLT7.out z (.inl hz))))
    have z2:w8.cell? ⟨g,2,none⟩=some (.string xd):=(World.cell?_of_block (a:=⟨g,2,none⟩) ((hs8 g (.inl (.inr rfl))).trans (HBC.out.block g (HLT7.out g (.inr rfl))))).trans y2
    clear hw8 hz8 hs8 y1 y2 hcv HW HZ7 HBC
    have HFE:=Lib.hid (HE.out w8 · S8 HZ8.out HS8.out HG8.out HH8.out ·)
    by_cases hfit:zs≤65536∧S1.used+nch zs≤room
    ·rw [if_pos hfit] at HPF
     obtain ⟨rfl,rfl,hS8⟩:=hfw.1 hfit
     have HF:=Lib.hid (HFE.out 0 (.inl ⟨rfl,by rw [HPF.out,hS8];rfl⟩))
     have hlt:¬ ((p:Int)<(p:Int)):=by omega
     clear hfit hfw hS8
     go_wp2_with fail
     exact HF.out
    ·rw [if_neg hfit] at HPF
     have h2:=hfw.2 hfit
     by_cases e1:err=0
     ·subst e1
      have hlt:(p:Int)<(zs:Int):=by have:=h2.resolve_left (fun e=>e rfl);omega
      have HF:=Lib.hid (HFE.out 28 (.inr ⟨by decide,HPF.out⟩))
      clear hfit hfw h2
      go_wp2_with fail
      exact HF.out
     ·have HF:=Lib.hid (HFE.out err (.inr ⟨e1,HPF.out⟩))
      have qe:(err != 0)=true:=by simpa using e1
      clear hfit hfw h2 e1
      go_wp2_with fail
      exact HF.out
   rw [if_neg k1] at HPF
   have q1:(xk != 1)=true:=by simpa using k1
   by_cases k2:xk=2
   ·subst k2
    rw [if_pos rfl] at HPF
    unfold fl.makeF at HPF
    have HMK:=Lib.hid (ds_make HZ5.out HHI.out HGO.out.1 HGO.out.2.1 HGO.out.2.2 d ⟨nx.toArray⟩ 2 ⟨#[]⟩ (by have:=HNX.out;omega) (by decide))
    have HGM:=Lib.hid (HGO.out.1.make d ⟨nx.toArray⟩ 2 ⟨#[]⟩)
    have HHM:=Lib.hid (HGO.out.2.2.make (by decide) d ⟨nx.toArray⟩ 2 ⟨#[]⟩)
    obtain ⟨mk,hmk⟩:∃ z,S.make d ⟨nx.toArray⟩ 2 ⟨#[]⟩=z:=⟨_,rfl⟩
    rw [hmk] at HMK HGM HHM HPF
    obtain ⟨⟨m1,m2⟩,S1⟩:=mk
    dsimp only at HMK HGM HHM HPF
    have HFF:=Lib.hid (show ∀ W:World,cb.Sys w0 W (L.set i (KD w0 D RS S1 room)) (fun b=>X b∨b=g)→Same (fun b=>X b∨b=g) w6 W→PQ (.returned (.int .i64 m2)) W from
     fun W a b=>HE.out W m2 S1 (a.sub fun _ h=>.inl h) (same_trans HSX.out fun z hz=>(b z (.inl hz)).trans (HB5.out.block z (HLT.out z hz))) HGM.out HHM.out (by
      by_cases e:m2=0
      ·rw [if_neg (by simpa using e)] at HPF;exact .inl ⟨e,HPF.out⟩
      ·rw [if_pos e] at HPF;exact .inr ⟨e,HPF.out⟩))
    clear hmk HPF k1
    go_wp2_with fail
    refine HMK.out.mono ?_
    rintro _ w7 ⟨rfl,hz7,hs7⟩
    have HF:=Lib.hid (HFF.out w7 hz7 hs7)
    have y1:w7.cell? ⟨g,1,none⟩=some (.int .i64 2):=(World.cell?_of_block (a:=⟨g,1,none⟩) (hs7 g (.inr rfl))).trans x1
    clear hz7 hs7 x1 x2
    by_cases e:m2=0
    ·subst e
     go_wp2_with fail
     exact HF.out
    ·have qe:(m2 != 0)=true:=by simpa using e
     go_wp2_with fail
     exact HF.out
   rw [if_neg k2] at HPF
   have q2:(xk != 2)=true:=by simpa using k2
   by_cases k3:xk=3
   ·subst k3
    rw [if_pos rfl] at HPF
    unfold fl.makeF at HPF
    have HMK:=Lib.hid (ds_make HZ5.out HHI.out HGO.out.1 HGO.out.2.1 HGO.out.2.2 d ⟨nx.toArray⟩ 3 xd (by have:=HNX.out;omega) (by have:=HDZ.out;omega))
    have HGM:=Lib.hid (HGO.out.1.make d ⟨nx.toArray⟩ 3 xd)
    have HHM:=Lib.hid (HGO.out.2.2.make (by decide) d ⟨nx.toArray⟩ 3 xd)
    obtain ⟨mk,hmk⟩:∃ z,S.make d ⟨nx.toArray⟩ 3 xd=z:=⟨_,rfl⟩
    rw [hmk] at HMK HGM HHM HPF
    obtain ⟨⟨m1,m2⟩,S1⟩:=mk
    dsimp only at HMK HGM HHM HPF
    have HFF:=Lib.hid (show ∀ W:World,cb.Sys w0 W (L.set i (KD w0 D RS S1 room)) (fun b=>X b∨b=g)→Same (fun b=>X b∨b=g) w6 W→PQ (.returned (.int .i64 m2)) W from
     fun W a b=>HE.out W m2 S1 (a.sub fun _ h=>.inl h) (same_trans HSX.out fun z hz=>(b z (.inl hz)).trans (HB5.out.block z (HLT.out z hz))) HGM.out HHM.out (by
      by_cases e:m2=0
      ·rw [if_neg (by simpa using e)] at HPF;exact .inl ⟨e,HPF.out⟩
      ·rw [if_pos e] at HPF;exact .inr ⟨e,HPF.out⟩))
    clear hmk HPF k1 k2
    go_wp2_with fail
    refine HMK.out.mono ?_
    rintro _ w7 ⟨rfl,hz7,hs7⟩
    have HF:=Lib.hid (HFF.out w7 hz7 hs7)
    have y1:w7.cell? ⟨g,1,none⟩=some (.int .i64 3):=(World.cell?_of_block (a:=⟨g,1,none⟩) (hs7 g (.inr rfl))).trans x1
    clear hz7 hs7 x1 x2
    by_cases e:m2=0
    ·subst e
     go_wp2_with fail
     exact HF.out
    ·have qe:(m2 != 0)=true:=by simpa using e
     go_wp2_with fail
     exact HF.out
   rw [if_neg k3] at HPF
   have q3:(xk != 3)=true:=by simpa using k3
   have HF:=Lib.hid (HN0.out w6 22 HB5.out (by decide) HPF.out)
   clear k1 k2 k3
   go_wp2_with fail
   exact HF.out
end Go.Proofs.YtgoddboicjfkcaaGreat.cu
namespace Go.Proofs.YtgoddboicjfkcaaGreat.cu
open Go.RowKit Go.Deep
open br (BS Ino Inv at_nat abE fresh)
open cb (BrX RetW RetI No KB KD Res HB Stab NxR Same WrI Wz sF)
open bl (Pq Only AB U8 WR wr wrB IsStop)
open mg (bel_step bel_alloc)
open fl (Ln LR putF treeF treeF_drop treeF_stop Lv)
def LX (w:World) (X:Nat→Prop) (A:Option Addr) (l:List Ln):Prop:=∀ (j:Nat) (x:Ln),l[j]?=some x→∃ b off,A=some ⟨b,off,none⟩∧X b ∧
 w.cell? ⟨b,off+j*3,none⟩=some (.string x.path)∧w.cell? ⟨b,off+j*3+1,none⟩=some (.int .i64 x.kind)∧w.cell? ⟨b,off+j*3+2,none⟩=some (.string x.data)
theorem LX.same {w w':World} {X:Nat→Prop} {A:Option Addr} {l:List Ln} (h:LX w X A l) (hs:Same X w w'):LX w' X A l:=fun j x hx=>by
 obtain ⟨b,off,e,hb,c0,c1,c2⟩:=h j x hx
 exact ⟨b,off,e,hb,(World.cell?_of_block (a:=⟨b,off+j*3,none⟩) (hs b hb)).trans c0,(World.cell?_of_block (a:=⟨b,off+j*3+1,none⟩) (hs b hb)).trans c1,(World.cell?_of_block (a:=⟨b,off+j*3+2,none⟩) (hs b hb)).trans c2⟩
theorem LX.sub {w:World} {X Y:Nat→Prop} {A:Option Addr} {l:List Ln} (h:LX w X A l) (hs:∀ b,X b→Y b):LX w Y A l:=fun j x hx=>by
 obtain ⟨b,off,e,hb,c⟩:=h j x hx
 exact ⟨b,off,e,hs b hb,c⟩
theorem LX.of {w:World} {B:Nat} {X:Nat→Prop} {A:Option Addr} {l:List Ln} (h:LR w B A l) (hs:∀ b,b<B→X b):LX w X A l:=fun j x hx=>by
 obtain ⟨b,off,e,hb,c⟩:=h j x hx
 exact ⟨b,off,e,hs b hb,c⟩
theorem LX.lr {w:World} {B:Nat} {X:Nat→Prop} {A:Option Addr} {l:List Ln} (h:LX w X A l) (hs:∀ b,X b→b<B):LR w B A l:=fun j x hx=>by
 obtain ⟨b,off,e,hb,c⟩:=h j x hx
 exact ⟨b,off,e,hs b hb,c⟩
theorem app_at (L:List Res) (r:Res):(L++[r])[L.length]?=some r:=by simp
theorem app_set (L:List Res) (r r':Res):(L++[r]).set L.length r'=L++[r']:=by simp
theorem drop_last {w0 w:World} {L:List Res} {r:Res} {X:Nat→Prop} (h:cb.Sys w0 w (L++[r]) X):cb.Sys w0 w L X :=
 Sys.perm h id (fun _ _ _ _ e=>e) fun i s hi=>by
  show (L++[r])[i]?=some s
  rw [List.getElem?_append_left (List.getElem?_eq_some_iff.1 hi).1];exact hi
def RTreeE (w0 w:World) (L:List Res) (X:Nat→Prop) (l:List Ln) (e:Ending) (w':World):Prop :=
 Same X w w'∧((∃ err:Int,err≠0∧treeF 65536 fresh l=none∧e=.returned (.tuple #[.pointer none,.int .i64 err])∧cb.Sys w0 w' L X) ∨
  ∃ (D RS:Nat) (S:BS),treeF 65536 fresh l=some S∧e=.returned (.tuple #[Pq D,.int .i64 0])∧cb.Sys w0 w' (L++[KD w0 D RS S 65536]) X∧br.Good S 65536∧HB S 0)
theorem rtree_any {w0 w:World} {L:List Res} {X:Nat→Prop} (h:cb.Sys w0 w L X) {A:Option Addr} {l:List Ln} {c:Nat} (hl:LX w X A l) (hn:l.length≤2000000) (hd:∀ x∈l,x.data.size≤1000000) :
  Calls Tryz.prog 114 #[.slice A l.length c,.int .i64 65536] w (RTreeE w0 w L X l):=by
 have HN:=Lib.hid (cb.rb_new 65536 w0.heap.size w (by decide) h.bel.size)
 have HH:=Lib.hid h
 have HL:=Lib.hid hl
 have HDD:=Lib.hid hd
 obtain ⟨m,hm⟩:∃ m,l.length=m:=⟨_,rfl⟩
 have HM:=Lib.hid hm
 rw [hm] at hn ⊢
 have HGL:=Lib.hid (show ∀ j,j<m→∃ x,l[j]?=some x from fun j hj=>⟨l[j]'(by omega),List.getElem?_eq_getElem _⟩)
 have HE1:=Lib.hid (show ∀ (W:World) (err:Int),Same X w W→err≠0→treeF 65536 fresh l=none→cb.Sys w0 W L X→RTreeE w0 w L X l (.returned (.tuple #[.pointer none,.int .i64 err])) W from fun W err a b d e=>⟨a,.inl ⟨err,b,d,rfl,e⟩⟩)
 have HE2:=Lib.hid (show ∀ (W:World) (D RS:Nat) (S:BS),Same X w W→treeF 65536 fresh l=some S→cb.Sys w0 W (L++[KD w0 D RS S 65536]) X→br.Good S 65536→HB S 0→RTreeE w0 w L X l (.returned (.tuple #[Pq D,.int .i64 0])) W from fun W D RS S a b d e f=>⟨a,.inr ⟨D,RS,S,b,rfl,d,e,f⟩⟩)
 obtain ⟨PQ,hPQ⟩:∃ P,RTreeE w0 w L X l=P:=⟨_,rfl⟩
 rw [hPQ] at HE1 HE2 ⊢
 clear h hl hd hm hPQ
 go_enter Tryz.func114,Tryz.ntmps114
 go_wp2_with fail
 refine HN.out.mono ?_
 rintro _ w1 ⟨D,RS,pl,tag,rfl,h1,hb1,ht1⟩
 have H1:=Lib.hid (show cb.Sys w0 w1 (L++[KD w0 D RS fresh 65536]) X from HH.out.add hb1 KD.stab ⟨pl,tag,h1,fun b=>Iff.rfl⟩ ht1)
 have HS1:=Lib.hid (show Same X w w1 from fun b hb=>hb1.block b (HH.out.lt hb))
 clear h1 hb1 ht1 HN HH
 go_upto_region 5 with fail
 go_loopg [7] m (fun gh s7 wr=>∃ (j:Nat) (S:BS),gh+j=m∧s7=.int .i64 j∧Hid (treeF 65536 fresh l=treeF 65536 S (l.drop j))∧Hid (cb.Sys w0 wr (L++[KD w0 D RS S 65536]) X)∧Hid (Same X w wr)∧Hid (br.Good S 65536∧HB S 0))
 case atStart=>exact ⟨0,fresh,by omega,rfl,Lib.hid rfl,H1,HS1,Lib.hid ⟨br.Good.fresh _,HB.fresh⟩⟩
 case round =>
  obtain ⟨j,S,hgj,rfl,HTF,HSJ,HSA,HGS⟩:=hrel
  by_cases hj:j<m
  ·obtain ⟨x,hx⟩:=HGL.out j hj
   have HXX:=Lib.hid hx
   obtain ⟨b,off,hA,hbB,c0,c1,c2⟩:=(HL.out.same HSA.out) j x hx
   subst hA
   have HPU:=Lib.hid (rput_any HSJ.out (app_at L _) HGS.out.1 (by decide) HGS.out.2 x (HDD.out _ (List.mem_of_getElem? hx)))
   unfold RPutE at HPU
   obtain ⟨xp,xk,xd⟩:=x
   dsimp only at c0 c1 c2
   obtain ⟨pr,hpr⟩:∃ r,putF 65536 S ⟨xp,xk,xd⟩=r:=⟨_,rfl⟩
   have HPR:=Lib.hid hpr
   rw [hpr] at HPU
   clear hx hpr hbB
   go_wp2_with fail
   refine HPU.out.mono ?_
   rintro _ w3 ⟨err,S',rfl,h3,hs3,hg3,hh3,hc⟩
   rw [app_set] at h3
   have H3:=Lib.hid h3
   have HS3:=Lib.hid (same_trans HSA.out hs3)
   have HG3:=Lib.hid (And.intro hg3 hh3)
   clear h3 hs3 hg3 hh3 HPU c0 c1 c2
   rcases hc with ⟨rfl,rfl⟩|⟨e9,rfl⟩
   ·have HT2:=Lib.hid (HTF.out.trans (treeF_drop HXX.out HPR.out))
    go_wp2_with fail
    go_roundg (gk - 1)
    case measure=>omega
    case rel=>exact ⟨j+1,S',by omega,by go_num,HT2,H3,HS3,HG3⟩
   ·have q9:(err != 0)=true:=by simpa using e9
    have HT2:=Lib.hid (HTF.out.trans (treeF_stop HXX.out HPR.out))
    have HF:=Lib.hid (HE1.out w3 err HS3.out e9 HT2.out (drop_last H3.out))
    clear e9
    go_wp2_with fail
    exact HF.out
  ·obtain rfl:j=m:=by omega
   have HT2:=Lib.hid (show treeF 65536 fresh l=some S by rw [HTF.out,List.drop_eq_nil_of_le (by rw [HM.out];exact Nat.le_refl _)];rfl)
   have HF:=Lib.hid (HE2.out wr D RS S HSA.out HT2.out HSJ.out HGS.out.1 HGS.out.2)
   go_wp2_with fail
   exact HF.out
end Go.Proofs.YtgoddboicjfkcaaGreat.cu
