/- Part 49 of what is known of the program's functions and of the document's words: contracts, and the mathematics beneath them. -/
import Derived.Test.YtgoddboicjfkcaaGreatProg
import Derived.Test.YtgoddboicjfkcaaGreatZ02
import Derived.Test.YtgoddboicjfkcaaGreatZ48
set_option linter.unusedVariables false
set_option linter.unusedSimpArgs false
set_option maxRecDepth 100000
set_option maxHeartbeats 8000000
namespace Go.Proofs.YtgoddboicjfkcaaGreat.cu
open Go.RowKit Go.Deep
open br (BS Ino Inv at_nat abE fresh)
open cb (BrX RetW RetI No KB KD Res HB Stab NxR Same WrI Wz sF)
open bl (Pq Only AB U8 WR wr wrB IsStop)
open mg (bel_step bel_alloc Vd Rv)
open fl (Ln LR treeF Zn bl8 path_bl noSl LO ofV OkAll OkZ linesZ linesZ_ln)
structure Begn (w w':World) (G:Nat) (c:Cp) (R D1 R1 D2 R2:Nat) (S Sd L:BS) (r T:Nat):Prop where
 z:Zs w w' c S L r T [KD w D1 R1 Sd r,KD w D2 R2 L 65536] (fun b=>b<w.heap.size∨b=G∨b=c.C∨b=c.V∨b=R)
 rx:Rx w' R D1 D2 2 1 3
 bx:w'.heap[G]?=some (.cells #[Pq c.P1,Pq c.P2,Pq D1,Pq D2,Pq c.C,Pq R] 83 (0,0))
 u:c.u=2
 l:c.l=1
 wk:c.wk=3
 bg:Bg S
 bd:Bg Sd
 T:T≤10000
def BegE (w:World) (upper lower:List Ln) (r:Nat) (e:Ending) (w':World):Prop :=
 (e=.returned (.tuple #[.pointer none,.bool false])∧Below w.heap.size w w'∧(upper=[]→treeF 65536 fresh lower=none)) ∨
 ∃ (G:Nat) (c:Cp) (R D1 R1 D2 R2:Nat) (S Sd L:BS) (T:Nat),e=.returned (.tuple #[Pq G,.bool true])∧Begn w w' G c R D1 R1 D2 R2 S Sd L r T∧treeF 65536 fresh lower=some L∧(upper=[]→S=S0)
def upJ (j:Nat):BS:=if j=0 then fresh else if j=1 then (fresh.make 1 upB 2 ⟨#[]⟩).2 else S0
def nmJ (j:Nat):ByteArray:=if j=0 then upB else workB
theorem upJ_succ {j:Nat} (h:j<2):((upJ j).make 1 (nmJ j) 2 ⟨#[]⟩).2=upJ (j+1):=by
 have:j=0∨j=1:=by omega
 rcases this with rfl|rfl <;> rfl
theorem upJ_good (r j:Nat):br.Good (upJ j) r:=by
 unfold upJ
 split
 ·exact br.Good.fresh r
 ·split
  ·exact (br.Good.fresh r).make _ _ _ _
  ·exact ((br.Good.fresh r).make _ _ _ _).make _ _ _ _
theorem upJ_hb (j:Nat):HB (upJ j) 0:=by
 unfold upJ
 split
 ·exact HB.fresh
 ·split
  ·exact HB.fresh.make (by decide) _ _ _ _
  ·exact (HB.fresh.make (by decide) _ _ _ _).make (by decide) _ _ _ _
theorem zput_ne {f:ByteArray→Option Int} {b:ByteArray} {u:Int} (h:∀ a v,f a=some v→v≠3) (hu:u≠3):∀ a v,zput f b u a=some v→v≠3:=fun a v hv=>by
 unfold zput at hv
 split at hv
 ·injection hv with hv;rw [← hv];exact hu
 ·exact h a v hv
theorem getD_ne {f:ByteArray→Option Int} (h:∀ a v,f a=some v→v≠3) (a:ByteArray):(f a).getD 0≠3:=by
 cases e:f a with
 | none=>decide
 | some v=>exact h a v e
theorem nmJ_le (j:Nat):(nmJ j).size≤9223372036854775807:=by unfold nmJ;split <;> decide
theorem begin_any {w:World} {A B:Option Addr} {upper lower:List Ln} {c1 c2:Nat} (hu:LR w w.heap.size A upper) (hl:LR w w.heap.size B lower) (hnu:upper.length≤400) (hnl:lower.length≤400) (hdu:∀ x∈upper,x.data.size≤1000000) (hdl:∀ x∈lower,x.data.size≤1000000) {r:Nat} (hr:r≤65536) :
    Calls Tryz.prog 46 #[.slice A upper.length c1,.slice B lower.length c2,.int .i64 (r:Int)] w (BegE w upper lower r):=by
  have HN:=Lib.hid (fun (L:List Res) (X:Nat→Prop) (W:World) (h:cb.Sys w W L X)=>bnew_any h hr)
  have HM:=Lib.hid (fun (L:List Res) (X:Nat→Prop) (W:World) (h:cb.Sys w W L X)=>dnew_any h hr)
  have HM0:=Lib.hid (fun (L:List Res) (X:Nat→Prop) (W:World) (h:cb.Sys w W L X)=>dnew_any h (r:=0) (by decide))
  have HCT:=Lib.hid (fun (L:List Res) (X:Nat→Prop) (W:World) (h:cb.Sys w W L X) (k:LX W X B lower)=>ctree_any (c:=c2) h k hnl hdl)
  have HRT:=Lib.hid (fun (L:List Res) (X:Nat→Prop) (W:World) (h:cb.Sys w W L X) (k:LX W X B lower)=>rtree_any (c:=c2) h k (by omega) hdl)
  have HRU:=Lib.hid (fun (L:List Res) (X:Nat→Prop) (W:World) (h:cb.Sys w W L X) (k:LX W X A upper)=>rtree_any (c:=c1) h k (by omega) hdu)
  have HLU:=Lib.hid (show ∀ (W:World) (Y:Nat→Prop),Below w.heap.size w W→(∀ b,b<w.heap.size→Y b)→LX W Y A upper from fun W Y hb hy=>((LX.of (X:=fun b=>b<w.heap.size) hu fun b hb=>hb).same fun b h=>hb.block b h).sub hy)
  have HLL:=Lib.hid (show ∀ (W:World) (Y:Nat→Prop),Below w.heap.size w W→(∀ b,b<w.heap.size→Y b)→LX W Y B lower from fun W Y hb hy=>((LX.of (X:=fun b=>b<w.heap.size) hl fun b hb=>hb).same fun b h=>hb.block b h).sub hy)
  have HFA:=Lib.hid (show ∀ W:World,Below w.heap.size w W→(upper=[]→treeF 65536 fresh lower=none)→BegE w upper lower r (.returned (.tuple #[.pointer none,.bool false])) W from fun W a b=>.inl ⟨rfl,a,b⟩)
  have HTR:=Lib.hid (show ∀ (W:World) (G:Nat) (c:Cp) (R D1 R1 D2 R2:Nat) (S Sd L:BS) (T:Nat),Begn w W G c R D1 R1 D2 R2 S Sd L r T→treeF 65536 fresh lower=some L→(upper=[]→S=S0)→BegE w upper lower r (.returned (.tuple #[Pq G,.bool true])) W from
    fun W G c R D1 R1 D2 R2 S Sd L T a b d=>.inr ⟨G,c,R,D1,R1,D2,R2,S,Sd,L,T,rfl,a,b,d⟩)
  obtain ⟨PQ,hPQ⟩:∃ P,BegE w upper lower r=P:=⟨_,rfl⟩
  rw [hPQ] at HFA HTR ⊢
  obtain ⟨nu,hnu2⟩:∃ n,upper.length=n:=⟨_,rfl⟩
  obtain ⟨nl,hnl2⟩:∃ n,lower.length=n:=⟨_,rfl⟩
  rw [hnu2] at HRU hnu ⊢
  rw [hnl2] at HCT HRT hnl ⊢
  have HRR:=Lib.hid hr
  have HNU:=Lib.hid hnu
  have HNL:=Lib.hid hnl
  unfold CTreeE at HCT
  unfold RTreeE at HRT HRU
  clear hu hl hdu hdl hPQ hnu2 hnl2 hr hnu hnl
  go_enter Tryz.func46,Tryz.ntmps46
  go_wp2_with fail
  refine (HN.out _ _ w (cb.Sys.nil (Below.refl w.heap.size w))).mono ?_
  rintro _ w1 ⟨P1,rfl,h1,b1⟩
  have H1:=Lib.hid h1
  have HB1:=Lib.hid b1
  clear h1 b1 HN
  go_wp2_with fail
  refine (HM.out _ _ w1 H1.out).mono ?_
  rintro _ w2 ⟨D1,R1,rfl,h2,b2⟩
  have H2:=Lib.hid h2
  have HB2:=Lib.hid (bel_step HB1.out b2)
  clear h2 b2 HM H1 HB1
  obtain ⟨G,hG⟩:∃ g,w2.heap.size=g:=⟨_,rfl⟩
  obtain ⟨w3,hw3⟩:∃ w3,w2.alloc (.cells #[Pq P1,.pointer none,Pq D1,.pointer none,.pointer none,.pointer none] 83)=w3:=⟨_,rfl⟩
  have hb3:Below w2.heap.size w2 w3:=by rw [← hw3];exact bel_alloc _ _
  have HG3:=Lib.hid (show w3.heap[G]?=some (.cells #[Pq P1,.pointer none,Pq D1,.pointer none,.pointer none,.pointer none] 83 (0,0)) by rw [← hw3,← hG];exact heap_alloc_new w2 _)
  have H3:=Lib.hid (show cb.Sys w w3 [KB w P1 fresh r 0,KD w D1 R1 fresh r] (fun b=>b<w.heap.size∨b=G) from H2.out.box hb3 (fun b hb=>hb.imp id fun e=>by rw [e,← hG,← hw3,World.size_alloc];omega))
  have HB3:=Lib.hid (bel_step HB2.out hb3)
  have HLO:=Lib.hid (show w.heap.size≤G by rw [← hG];exact HB2.out.size)
  clear hb3 H2 HB2
  go_upto_region 2 with fail
  try rw [hw3]
  try rw [hG]
  clear hw3 hG
  go_wp2_with fail
  refine (HCT.out _ _ w3 H3.out (HLL.out w3 _ HB3.out fun b hb=>.inl hb)).mono ?_
  rintro e w4 ⟨hb4,hc⟩
  have HB4:=Lib.hid (bel_step HB3.out hb4)
  have HG4:=Lib.hid ((hb4.block G (H3.out.lt (.inr rfl))).trans HG3.out)
  clear hb4 HCT HG3
  rcases hc with ⟨err,e0,ht,rfl,h4⟩|⟨P2,L,ht,rfl,h4⟩
  · have H4:=Lib.hid h4
    clear h4 H3
    go_wp2_with fail
    refine (HRT.out _ _ w4 H4.out (HLL.out w4 _ HB4.out fun b hb=>.inl hb)).mono ?_
    rintro e w5 ⟨hs5,⟨err2,e02,ht2,rfl,h5⟩|⟨D,RS,S,ht2,_⟩⟩
    · have HG5:=Lib.hid ((hs5 G (.inr rfl)).trans HG4.out)
      have g0:w5.cell? ⟨G,0,none⟩=some (Pq P1):=(Lib.cell_of_heap HG5.out 0).trans rfl
      have g2:w5.cell? ⟨G,2,none⟩=some (Pq D1):=(Lib.cell_of_heap HG5.out 2).trans rfl
      have q1:(err != 0)=true:=by simpa using e0
      have HF:=Lib.hid (HFA.out w5 h5.bel fun _=>ht)
      clear e0 e02 ht ht2 h5
      go_wp2_with fail
      exact HF.out
    · rw [ht] at ht2;cases ht2
  have HTL:=Lib.hid ht
  have H4:=Lib.hid h4
  clear ht h4 H3
  go_wp2_with fail
  refine (HRT.out _ _ w4 H4.out (HLL.out w4 _ HB4.out fun b hb=>.inl hb)).mono ?_
  rintro e w5 ⟨hs5,⟨err2,e02,ht2,rfl,h5⟩|⟨D2,R2,L2,ht2,rfl,h5,hg5,hh5⟩⟩
  · rw [HTL.out] at ht2;cases ht2
  rw [HTL.out] at ht2
  injection ht2 with ht2
  subst ht2
  have HG5:=Lib.hid ((hs5 G (.inr rfl)).trans HG4.out)
  have H5:=Lib.hid (show cb.Sys w w5 [KB w P1 fresh r 0,KD w D1 R1 fresh r,KB w P2 L 65536 1000,KD w D2 R2 L 65536] (fun b=>b<w.heap.size∨b=G) from h5)
  have HGL:=Lib.hid hg5
  clear hs5 h5 hg5 hh5 HG4 H4 HRT HB4 HB3
  have g0:w5.cell? ⟨G,0,none⟩=some (Pq P1):=(Lib.cell_of_heap HG5.out 0).trans rfl
  have g2:w5.cell? ⟨G,2,none⟩=some (Pq D1):=(Lib.cell_of_heap HG5.out 2).trans rfl
  have g1:w5.cell? ⟨G,1,none⟩=some (.pointer none):=(Lib.cell_of_heap HG5.out 1).trans rfl
  have g3:w5.cell? ⟨G,3,none⟩=some (.pointer none):=(Lib.cell_of_heap HG5.out 3).trans rfl
  have f1:w5.frozen? ⟨G,1,none⟩=false:=Lib.frozen_of_heap HG5.out 1
  have f3:w5.frozen? ⟨G,3,none⟩=false:=Lib.frozen_of_heap HG5.out 3
  obtain ⟨w6,hw6⟩:∃ w6,(w5.setCell ⟨G,1,none⟩ (Pq P2)).setCell ⟨G,3,none⟩ (Pq D2)=w6:=⟨_,rfl⟩
  have HG6:=Lib.hid (show w6.heap[G]?=some (.cells #[Pq P1,Pq P2,Pq D1,Pq D2,.pointer none,.pointer none] 83 (0,0)) by
    rw [← hw6]
    exact Lib.heap_setCell_same (i:=3) (Lib.heap_setCell_same (i:=1) HG5.out (Pq P2)) (Pq D2))
  have H6:=Lib.hid (show cb.Sys w w6 [KB w P1 fresh r 0,KD w D1 R1 fresh r,KB w P2 L 65536 1000,KD w D2 R2 L 65536] (fun b=>b<w.heap.size∨b=G) by
    rw [← hw6]
    have ho:∀ (W:World) (i:Nat) (v:Value),Only (fun b=>b=G) W (W.setCell ⟨G,i,none⟩ v):=fun W i v=>only_set W G i v
    refine H5.out.turn ((ho w5 1 _).trans (ho _ 3 _)) (fun b hb=>by cases hb;exact ⟨.inr rfl,HLO.out⟩) (fun b hb=>.inl hb))
  obtain ⟨gs,hgs⟩:∃ g,w6.heap.size=g:=⟨_,rfl⟩
  obtain ⟨w7,hw7⟩:∃ w7,w6.alloc (.cells #[.string upB,.string workB] 9)=w7:=⟨_,rfl⟩
  have hb7:Below w6.heap.size w6 w7:=by rw [← hw7];exact bel_alloc _ _
  have HRW:=Lib.hid (show w7.heap[gs]?=some (.cells #[.string upB,.string workB] 9 (0,0)) by rw [← hw7,← hgs];exact heap_alloc_new w6 _)
  have HG7:=Lib.hid ((hb7.block G (H6.out.lt (.inr rfl))).trans HG6.out)
  have H7:=Lib.hid (show cb.Sys w w7 [KB w P1 (upJ 0) r 0,KD w D1 R1 (upJ 0) r,KB w P2 L 65536 1000,KD w D2 R2 L 65536] (fun b=>(b<w.heap.size∨b=G)∨b=gs) from
    H6.out.box hb7 (fun b hb=>hb.imp id fun e=>by rw [e,← hgs,← hw7,World.size_alloc];omega))
  unfold upB workB at hw7
  clear hb7 H5 HG5 H6 HG6
  go_upto_region 8 with fail
  try rw [hw6]
  try rw [hw7]
  try rw [hgs]
  clear hw6 hw7 hgs g0 g1 g2 g3 f1 f3
  go_loopg [73] 2 (fun gh s73 wr=>∃ (j:Nat),gh+j=2∧s73=.int .i64 j∧Hid (cb.Sys w wr [KB w P1 (upJ j) r j,KD w D1 R1 (upJ j) r,KB w P2 L 65536 1000,KD w D2 R2 L 65536] (fun b=>(b<w.heap.size∨b=G)∨b=gs))∧Hid (Same (fun b=>(b<w.heap.size∨b=G)∨b=gs) w7 wr))
  case atStart=>exact ⟨0,by omega,rfl,H7,Lib.hid fun _ _=>rfl⟩
  case round =>
    obtain ⟨j,hgj,rfl,HJ,HS⟩:=hrel
    have HGJ:=Lib.hid ((HS.out G (.inl (.inr rfl))).trans HG7.out)
    have g0:wr.cell? ⟨G,0,none⟩=some (Pq P1):=(Lib.cell_of_heap HGJ.out 0).trans rfl
    have g2:wr.cell? ⟨G,2,none⟩=some (Pq D1):=(Lib.cell_of_heap HGJ.out 2).trans rfl
    by_cases hj:j<2
    · have hsj:wr.cell? ⟨gs,j,none⟩=some (.string (nmJ j)):=by
        refine (World.cell?_of_block (a:=⟨gs,j,none⟩) (HS.out gs (.inr rfl))).trans ((Lib.cell_of_heap HRW.out j).trans ?_)
        have:j=0∨j=1:=by omega
        rcases this with rfl|rfl <;> rfl
      have HMK:=Lib.hid (cs_make (i:=0) HJ.out rfl (by omega) 1 (nmJ j) 2 ⟨#[]⟩ (nmJ_le j) (by decide))
      rw [upJ_succ hj] at HMK
      generalize hnm:nmJ j=nm at *
      go_wp2_with fail
      refine HMK.out.mono ?_
      rintro _ w8 ⟨rfl,h8,hs8⟩
      have HGJ8:=Lib.hid ((hs8 G (.inl (.inr rfl))).trans HGJ.out)
      have g0:w8.cell? ⟨G,0,none⟩=some (Pq P1):=(Lib.cell_of_heap HGJ8.out 0).trans rfl
      have g2:w8.cell? ⟨G,2,none⟩=some (Pq D1):=(Lib.cell_of_heap HGJ8.out 2).trans rfl
      have HMD:=Lib.hid (ds_make (i:=1) h8 rfl (upJ_good r j) HRR.out (upJ_hb j) 1 (nmJ j) 2 ⟨#[]⟩ (nmJ_le j) (by decide))
      rw [upJ_succ hj,hnm] at HMD
      have HS8:=Lib.hid (same_trans HS.out hs8)
      clear h8 hs8 HMK hsj
      go_wp2_with fail
      refine HMD.out.mono ?_
      rintro _ w9 ⟨rfl,h9,hs9⟩
      have H9:=Lib.hid h9
      have HS9:=Lib.hid (same_trans HS8.out hs9)
      clear h9 hs9 HMD g0 g2
      go_wp2_with fail
      go_roundg (gk - 1)
      case measure=>omega
      case rel=>exact ⟨j+1,by omega,by go_num,H9,HS9⟩
    · obtain rfl:j=2:=by omega
      clear hgj hj
      have HJJ:=Lib.hid (show cb.Sys w wr [KB w P1 S0 r 2,KD w D1 R1 S0 r,KB w P2 L 65536 1000,KD w D2 R2 L 65536] (fun b=>b<w.heap.size∨b=G) from HJ.out.sub fun b hb=>.inl hb)
      clear HS HJ g0 g2 H7 HRW
      have HGW:=HGJ
      clear HGJ
      go_wp2_with fail
      refine (HRU.out _ _ wr HJJ.out (HLU.out wr _ HJJ.out.bel fun b hb=>.inl hb)).mono ?_
      rintro e w10 ⟨hs10,⟨err,e0,ht,rfl,h10⟩|⟨D3,R3,OV,ht,rfl,h10,hg10,hh10⟩⟩
      · have HF:=Lib.hid (HFA.out w10 h10.bel fun e=>by rw [e] at ht;exact nomatch ht)
        have q1:(err != 0)=true:=by simpa using e0
        clear e0 ht h10
        go_wp2_with fail
        exact HF.out
      have H10:=Lib.hid (show cb.Sys w w10 [KB w P1 S0 r 2,KD w D1 R1 S0 r,KB w P2 L 65536 1000,KD w D2 R2 L 65536,KD w D3 R3 OV 65536] (fun b=>b<w.heap.size∨b=G) from h10)
      have HGV:=Lib.hid hg10
      have HNO:=Lib.hid (show upper=[]→OV=fresh from fun e=>by rw [e] at ht;exact (Option.some.inj ht).symm)
      have HGA:=Lib.hid ((hs10 G (.inr rfl)).trans HGW.out)
      clear h10 hg10 hh10 hs10 ht HRU HJJ HLU HGW
      go_wp2_with fail
      refine (HM0.out _ _ w10 H10.out).mono ?_
      rintro _ w11 ⟨D4,R4,rfl,h11,b11⟩
      have H11:=Lib.hid (show cb.Sys w w11 [KB w P1 S0 r 2,KD w D1 R1 S0 r,KB w P2 L 65536 1000,KD w D2 R2 L 65536,KD w D3 R3 OV 65536,KD w D4 R4 fresh 0] (fun b=>b<w.heap.size∨b=G) from h11)
      have HGB:=Lib.hid ((b11.block G (H10.out.lt (.inr rfl))).trans HGA.out)
      have HVD:=Lib.hid (show Vd w11 D3 D4 OV fresh from ⟨cb.Sys.ask H11.out (i:=4) rfl fun O k=>by obtain ⟨pl,tg,hd,_⟩:=k;exact ⟨_,_,pl,tg,65536,hd,HGV.out⟩,cb.Sys.ask H11.out (i:=5) rfl fun O k=>by obtain ⟨pl,tg,hd,_⟩:=k;exact ⟨_,_,pl,tg,0,hd,br.Good.fresh 0⟩⟩)
      have HOF:=Lib.hid (fl.rof_any (u:=1) (l:=1) HVD.out HGV.out (br.Good.fresh 0) fun n=>fl.allV_ex HGV.out.1 (br.Good.fresh 0).1 n)
      unfold fl.BelE at HOF
      clear h11 b11 HM0 H10 HGA HVD
      go_wp2_with fail
      refine HOF.out.mono ?_
      rintro _ w12 ⟨A',cc,rfl,hlo,hb12⟩
      obtain ⟨A2,c3,he3,hlx,hc1,hc2⟩:=LO.lx hlo
      injection he3 with ea eb ec
      subst ea ec
      obtain ⟨ra,hra⟩:∃ g,w11.heap.size=g:=⟨_,rfl⟩
      obtain ⟨M,hM⟩:∃ g,w12.heap.size=g:=⟨_,rfl⟩
      have HGC:=Lib.hid ((hb12.block G (H11.out.lt (.inr rfl))).trans HGB.out)
      have H12:=Lib.hid (show cb.Sys w w12 [KB w P1 S0 r 2,KB w P2 L 65536 1000,KD w D1 R1 S0 r,KD w D2 R2 L 65536] (fun b=>(b<w.heap.size∨b=G)∨(ra≤b∧b<M)) from
        Sys.perm (H11.out.box hb12 fun b hb=>hb.imp id fun e=>by rw [hra,hM];exact e) (fun i=>if i=1 then 2 else if i=2 then 1 else i) (fun i j hi hj e=>by revert e;split <;> split <;> (try split) <;> (try split) <;> omega)
          fun i s hi=>by
            match i,hi with
            | 0,hi=>exact hi
            | 1,hi=>exact hi
            | 2,hi=>exact hi
            | 3,hi=>exact hi)
      have HGM:=Lib.hid (show G<ra by rw [← hra];exact H11.out.lt (.inr rfl))
      have HWR:=Lib.hid (show w.heap.size≤ra by rw [← hra];exact H11.out.bel.size)
      rw [hra,hM] at hlx
      have HRM:=Lib.hid (show ra≤M by rw [← hra,← hM];exact hb12.size)
      obtain ⟨Z,hZ⟩:∃ Z,linesZ OV fresh 202 (mg.rootV OV fresh 1 1) ⟨#[]⟩=Z:=⟨_,rfl⟩
      have HZO:=Lib.hid (show OkAll [] Z by rw [← hZ];exact fl.top_ok HGV.out.1 (br.Good.fresh 65536).1 _)
      have HZD:=Lib.hid (lines_ok HGV.out)
      have HZN:=Lib.hid (lines_many HGV.out)
      have HXN:=Lib.hid (show upper=[]→ofV OV fresh 1 1=[] from fun e=>by rw [HNO.out e];exact lines_none)
      have hXZ:Z.map Zn.ln=ofV OV fresh 1 1:=by rw [← hZ,linesZ_ln];rfl
      generalize ofV OV fresh 1 1=X at *
      have HZX:=Lib.hid hXZ
      obtain ⟨m,hm⟩:∃ m,X.length=m:=⟨_,rfl⟩
      rw [hm] at hc1 HZN ⊢
      have HMX:=Lib.hid hm
      have HZL:=Lib.hid (show Z.length=m by rw [← hm,← hXZ,List.length_map])
      have HLX:=Lib.hid hlx
      -- the map
      obtain ⟨w13,hw13⟩:∃ w13,w12.alloc (.map #[] 0)=w13:=⟨_,rfl⟩
      have hk1:(Instr.makeMap 179 none).run Tryz.prog w12=.ok (.map (some M)) w13:=by rw [← hw13,← hM];rfl
      have ma13:MapZ w13 M 0 (fun _=>none):=by rw [← hw13,← hM];exact MapZ.made w12
      have b13:Below w12.heap.size w12 w13:=by rw [← hw13];exact bel_alloc _ _
      have hz13:w13.heap.size=M+1:=by rw [← hw13,← hM,World.size_alloc]
      obtain ⟨w14,hi14,ma14,g14⟩:=ma13.put (by decide) (a:=⟨#[]⟩) (by decide) 2
      obtain ⟨Y,hY⟩:∃ Y:Nat→Prop,(fun b=>((b<w.heap.size∨b=G)∨(ra≤b∧b<M))∨b=M)=Y:=⟨_,rfl⟩
      have HYG:=Lib.hid (show Y G∧Y M∧(∀ b,ra≤b→b<M→Y b)∧(∀ b,Y b→b≤M)∧(∀ b,b<w.heap.size→Y b) by
        rw [← hY]
        exact ⟨.inl (.inl (.inr rfl)),.inr rfl,fun b h1 h2=>.inl (.inr ⟨h1,h2⟩),fun b hb=>by have:=HGM.out;have:=HRM.out;have:=HWR.out;rcases hb with ((h|h)|h)|h <;> omega,fun b hb=>.inl (.inl (.inl hb))⟩)
      have H14:=Lib.hid (show cb.Sys w w14 [KB w P1 S0 r 2,KB w P2 L 65536 1000,KD w D1 R1 S0 r,KD w D2 R2 L 65536] Y from
        (H12.out.box (Y:=Y) b13 fun b hb=>by rw [← hY] at hb;exact hb.imp id fun e=>by rw [hM,hz13];omega).turn (only_grown g14) (fun b hb=>by cases hb;exact ⟨HYG.out.2.1,by have:=HRM.out;have:=HWR.out;omega⟩) fun b hb=>.inl hb)
      have HG14:=Lib.hid (show w14.heap[G]?=some (.cells #[Pq P1,Pq P2,Pq D1,Pq D2,.pointer none,.pointer none] 83 (0,0)) from
        (g14.block G (by have:=HGM.out;have:=HRM.out;omega) (by intro e;injection e with e;have:=HGM.out;have:=HRM.out;omega)).trans ((b13.block G (by rw [hM];have:=HGM.out;have:=HRM.out;omega)).trans HGC.out))
      have HLX14:=Lib.hid (show LX w14 (fun b=>Y b∧b≠M) A' X from
        (LX.same (HLX.out.sub (Y:=fun b=>Y b∧b≠M) fun b hb=>⟨HYG.out.2.2.1 b hb.1 hb.2,by omega⟩) fun b hb=>by
          have hlt:=HYG.out.2.2.2.1 b hb.1
          exact (g14.block b (by omega) (by intro e;injection e with e;exact hb.2 e)).trans (b13.block b (by have:=hb.2;omega))))
      have HMZ:=Lib.hid (show MapZ w14 M (0+1) (zput (fun _=>none) ⟨#[]⟩ 2) from ma14)
      clear hlo hb12 hlx HOF HGB H11 HGC H12 ma13 b13 g14 ma14 hZ hXZ hm HLX hY hra HGV HNO
      go_upto_region 19 with fail
      clear hw13 hk1 hi14
      go_loopg [105] m (fun gh s105 wr=>∃ (j:Nat) (S Sd:BS) (T Sz:Nat) (f:ByteArray→Option Int),gh+j=m∧s105=.int .i64 j∧Hid (cb.Sys w wr [KB w P1 S r T,KB w P2 L 65536 1000,KD w D1 R1 Sd r,KD w D2 R2 L 65536] Y)∧Hid (Same (fun b=>Y b∧b≠M) w14 wr)∧Hid (MapZ wr M Sz f) ∧
        Hid (Sz≤1+j∧T≤2+2*j)∧Hid (∀ a v,f a=some v→v≠3)∧Hid (Bg S∧Bg Sd)∧Hid (HB Sd 0∧br.Good Sd r)∧Hid (j=0→S=S0))
      case atStart=>exact ⟨0,S0,S0,2,0+1,_,by omega,rfl,H14,Lib.hid fun _ _=>rfl,HMZ,Lib.hid ⟨by omega,by omega⟩,Lib.hid (zput_ne (fun a v h=>nomatch h) (by decide)),Lib.hid ⟨Bg.start,Bg.start⟩,Lib.hid ⟨upJ_hb 2,upJ_good r 2⟩,Lib.hid fun _=>rfl⟩
      case round =>
        obtain ⟨j,S,Sd,T,Sz,f,hgj,rfl,HQ,HS,HMP,HT2,HF3,HBG,HGD,HZ0⟩:=hrel
        have HGJ:=Lib.hid ((HS.out G ⟨HYG.out.1,by have:=HGM.out;have:=HRM.out;omega⟩).trans HG14.out)
        by_cases hj:j<m
        · have HHI:=Lib.hid hj
          obtain ⟨z,hz⟩:∃ z,Z[j]?=some z:=⟨Z[j]'(by rw [HZL.out];exact hj),List.getElem?_eq_getElem _⟩
          have hx:X[j]?=some z.ln:=by rw [← HZX.out,List.getElem?_map,hz];rfl
          have HFX:=Lib.hid (show upper=[]→treeF 65536 fresh lower=none from fun e=>by
            have h0:=HXN.out e
            rw [h0] at hx;cases hx)
          obtain ⟨bb,off,hA,hbY,k0,k1,k2⟩:=(HLX14.out.same HS.out) j _ hx
          subst hA
          have HOZ:=Lib.hid (HZO.out j z hz)
          have HDA:=Lib.hid ((HZD.out z.ln (List.mem_of_getElem? hx)).data)
          clear hx hz hbY
          dsimp only [Zn.ln] at k0 k1 k2 HDA
          obtain ⟨pt,hpt⟩:∃ b,z.path=b:=⟨_,rfl⟩
          obtain ⟨zk,hzk⟩:∃ b,z.kind=b:=⟨_,rfl⟩
          obtain ⟨zd,hzd⟩:∃ b,z.data=b:=⟨_,rfl⟩
          rw [hpt] at k0
          rw [hzk] at k1
          rw [hzd] at k2 HDA
          obtain ⟨qn,hqn⟩:∃ b,z.q.size=b:=⟨_,rfl⟩
          obtain ⟨sn,hsn⟩:∃ b,z.s.size=b:=⟨_,rfl⟩
          have hsz:pt.size=qn+1+sn:=by rw [← hpt,← hqn,← hsn];exact fl.size3 _ _
          have hs3:qn+1+sn≤30000:=by rw [← hsz,← hpt];exact HOZ.out.sz
          have HPA:=Lib.hid (fun (g:Nat) (h:qn+g<pt.size)=>show ((((pt[qn+g]'h).toNat:Nat):Int) != 47)=decide (g≠0) by subst hpt;exact path_at HOZ.out.ns hqn h)
          have hs1:=cut_q hpt hqn hsz
          have hs2:=cut_s hpt hqn hsz
          obtain ⟨zq,hzq⟩:∃ b,z.q=b:=⟨_,rfl⟩
          obtain ⟨zs,hzs⟩:∃ b,z.s=b:=⟨_,rfl⟩
          rw [hzq] at hs1 hqn
          rw [hzs] at hs2 hsn
          have HSN:=Lib.hid (And.intro hqn hsn)
          clear hpt hzk hzd hzq hzs HOZ hqn hsn
          -- the line's own box
          obtain ⟨gx,hgx⟩:∃ g,wr.heap.size=g:=⟨_,rfl⟩
          obtain ⟨w15,hw15⟩:∃ w15,wr.alloc (.cells #[.string pt,.int .i64 zk,.string zd] 104)=w15:=⟨_,rfl⟩
          have hb15:Below wr.heap.size wr w15:=by rw [← hw15];exact bel_alloc _ _
          have HX15:=Lib.hid (show w15.heap[gx]?=some (.cells #[.string pt,.int .i64 zk,.string zd] 104 (0,0)) by rw [← hw15,← hgx];exact heap_alloc_new wr _)
          have H15:=Lib.hid (HQ.out.box (Y:=fun b=>Y b∨b=gx) hb15 fun b hb=>hb.imp id fun e=>by rw [e,← hgx,← hw15,World.size_alloc];omega)
          have HLT:=Lib.hid (show ∀ b,Y b→b<gx from fun b hb=>by rw [← hgx];exact HQ.out.lt hb)
          have HS15:=Lib.hid (show Same (fun b=>Y b∧b≠M) w14 w15 from same_trans HS.out fun b hb=>hb15.block b (HQ.out.lt hb.1))
          have HMP15:=Lib.hid (HMP.out.below hb15)
          have HG15:=Lib.hid ((hb15.block G (HQ.out.lt HYG.out.1)).trans HGJ.out)
          have m0:w15.cell? ⟨gx,0,none⟩=some (.string pt):=(Lib.cell_of_heap HX15.out 0).trans rfl
          have m1:w15.cell? ⟨gx,1,none⟩=some (.int .i64 zk):=(Lib.cell_of_heap HX15.out 1).trans rfl
          have m2:w15.cell? ⟨gx,2,none⟩=some (.string zd):=(Lib.cell_of_heap HX15.out 2).trans rfl
          clear hb15 HQ HS HMP HGJ
          go_upto_region 22 with fail
          try rw [hw15]
          try rw [hgx]
          clear hw15 hgx k0 k1 k2
          have hq0:((pt.size:Nat):Int) - 1=((qn+sn:Nat):Int):=by omega
          go_loopg [21] sn (fun gh s21 wq=>wq=w15∧gh≤sn∧s21=.int .i64 (qn+gh))
          case atStart=>exact ⟨rfl,Nat.le_refl _,by go_num⟩
          case round =>
            obtain ⟨hwq,hg,rfl⟩:=hrel
            replace hwq:=hwq.symm
            subst hwq
            by_cases g0:gk=0
            case neg =>
              have hpb:=HPA.out gk (by omega)
              rw [decide_eq_true g0] at hpb
              go_wp2_with fail
              go_roundg (gk - 1)
              case measure=>omega
              case rel=>exact ⟨rfl,by omega,by go_num⟩
            subst g0
            have hpb:((((pt[qn]'(by omega)).toNat:Nat):Int) != 47)=false:=(HPA.out 0 (by omega)).trans (by simp)
            have hsz2:zs.size≤9223372036854775807:=by have:=HSN.out;omega
            have hszq:zq.size≤maxLen:=by have:=HSN.out;unfold maxLen;omega
            have hm64:pt.size≤maxLen:=by unfold maxLen;omega
            have hwr:IntKind.i64.wrap ((qn:Int)+1)=(qn:Int)+1:=IntWalk.i64_in _ (by omega)
            have hng:¬ (qn:Int)<0:=by omega
            obtain ⟨dv,hdv⟩:∃ d,(f zq).getD 0=d:=⟨_,rfl⟩
            have hd3:dv≠3:=by rw [← hdv];exact getD_ne HF3.out zq
            have HCM:=Lib.hid (show ∀ W,Same (fun b=>Y b∨b=gx) w15 W→MapZ W M Sz f from fun W hs=>HMP15.out.of_block (hs M (.inl HYG.out.2.1)))
            have HCE:=Lib.hid (show ∀ W,Same (fun b=>Y b∨b=gx) w15 W→(W.cell? ⟨G,0,none⟩=some (Pq P1)∧W.cell? ⟨gx,0,none⟩=some (.string pt)∧W.cell? ⟨gx,1,none⟩=some (.int .i64 zk)∧(Instr.lookup 179 (.map (some M)) (.string zq) false).run Tryz.prog W=.ok (.int .i64 dv) W) ∧
                (W.cell? ⟨G,2,none⟩=some (Pq D1)∧W.cell? ⟨gx,0,none⟩=some (.string pt)∧W.cell? ⟨gx,1,none⟩=some (.int .i64 zk)∧(Instr.lookup 179 (.map (some M)) (.string zq) false).run Tryz.prog W=.ok (.int .i64 dv) W) from fun W hs=>by
              have hg:=(hs G (.inl HYG.out.1)).trans HG15.out
              have hx:=(hs gx (.inr rfl)).trans HX15.out
              have hl:=(HCM.out W hs).look hszq
              rw [hdv] at hl
              exact ⟨⟨(Lib.cell_of_heap hg 0).trans rfl,(Lib.cell_of_heap hx 0).trans rfl,(Lib.cell_of_heap hx 1).trans rfl,hl⟩,⟨(Lib.cell_of_heap hg 2).trans rfl,(Lib.cell_of_heap hx 0).trans rfl,(Lib.cell_of_heap hx 1).trans rfl,hl⟩⟩)
            have HXC:=Lib.hid (show ∀ W,Same (fun b=>Y b∨b=gx) w15 W→W.cell? ⟨gx,0,none⟩=some (.string pt)∧W.cell? ⟨gx,1,none⟩=some (.int .i64 zk)∧W.cell? ⟨gx,2,none⟩=some (.string zd)∧W.cell? ⟨G,0,none⟩=some (Pq P1)∧W.cell? ⟨G,2,none⟩=some (Pq D1) from fun W hs=>by
              have hg:=(hs G (.inl HYG.out.1)).trans HG15.out
              have hx:=(hs gx (.inr rfl)).trans HX15.out
              exact ⟨(Lib.cell_of_heap hx 0).trans rfl,(Lib.cell_of_heap hx 1).trans rfl,(Lib.cell_of_heap hx 2).trans rfl,(Lib.cell_of_heap hg 0).trans rfl,(Lib.cell_of_heap hg 2).trans rfl⟩)
            have htt:∃ tg:ByteArray,tg.size≤65536∧((zk=3∧tg=zd)∨(zk≠3∧tg=⟨#[]⟩)):=by
              by_cases e:zk=3
              · exact ⟨zd,HDA.out,.inl ⟨e,rfl⟩⟩
              · exact ⟨⟨#[]⟩,by decide,.inr ⟨e,rfl⟩⟩
            obtain ⟨tg,htl,htc⟩:=htt
            have htl2:tg.size≤9223372036854775807:=by omega
            have HG1:=Lib.hid (cb.Sys.ask H15.out (i:=0) rfl fun O k=>KB.good k)
            have HMK:=Lib.hid (cs_make (i:=0) (H15.out.below (Below.refl w15.heap.size w15).drew) rfl (by have:=HT2.out;have:=HZN.out;omega) dv zs zk tg hsz2 htl2)
            have HBS:=Lib.hid (And.intro (HBG.out.1.make (s:=zs) (kind:=zk) (t:=tg) HG1.out hd3) (make_ne3 (d:=dv) (s:=zs) (kind:=zk) (t:=tg) HBG.out.1 HG1.out))
            have HBD:=Lib.hid (And.intro (HBG.out.2.make (s:=zs) (kind:=zk) (t:=tg) HGD.out.2 hd3) (And.intro (HGD.out.1.make (by decide) dv zs zk tg) (HGD.out.2.make dv zs zk tg)))
            have HMOD:=Lib.hid (fun (e1:zk=1)=>show (Sd.make dv zs zk tg).1.1=0∨∃ N:Nat,(Sd.make dv zs zk tg).1.1=(N:Int)∧1≤N∧N≤200∧((Sd.make dv zs zk tg).2.ino N).kind=1∧((Sd.make dv zs zk tg).2.ino N).body=abE by
              by_cases e:(Sd.make dv zs zk tg).1.2=0
              · obtain ⟨D,n,_,e2,hm,_⟩:=mk_of HGD.out.2 e
                exact .inr ⟨n,e2,hm.n1,hm.n2,by rw [hm.eN];exact e1,by rw [hm.eN];rfl⟩
              · exact .inl (make_no e).2)
            have HMDD:=Lib.hid (fun (W:World) (T':Nat) (S':BS) (h:cb.Sys w W [KB w P1 S' r T',KB w P2 L 65536 1000,KD w D1 R1 Sd r,KD w D2 R2 L 65536] (fun b=>Y b∨b=gx))=>ds_make (i:=2) (h.below (Below.refl W.heap.size W).drew) rfl HGD.out.2 HRR.out HGD.out.1 dv zs zk tg hsz2 htl2)
            obtain ⟨mk,hmk⟩:∃ x,S.make dv zs zk tg=x:=⟨_,rfl⟩
            obtain ⟨md,hmd⟩:∃ x,Sd.make dv zs zk tg=x:=⟨_,rfl⟩
            rw [hmk] at HMK HBS
            simp only [hmd] at HBD HMOD HMDD
            obtain ⟨⟨n,hh⟩,S1⟩:=mk
            obtain ⟨⟨n',hh'⟩,Sd1⟩:=md
            dsimp only at HMK HBS HBD HMOD HMDD
            have HMM:=Lib.hid hm64
            clear hmk hmd hdv hd3 htl htl2 hsz2 hszq hm64 HMP15 HG1
            rcases htc with ⟨hk3,htg⟩|⟨hk3,htg⟩
            case' inl=>have q3:(zk == 3)=true:=by simpa using hk3
            case' inr=>have q3:(zk == 3)=false:=by simpa using hk3
            all_goals
              rw [htg] at HMK
              simp only [htg] at HMDD
              clear htg hk3
              go_upto_region 27 with fail
              clear m0 m1 m2 hpb
              have S0:=(HCE.out w15.drew (fun _ _=>rfl)).1
              go_region_held3 (fun W=>W.cell? ⟨G,0,none⟩=some (Pq P1)∧W.cell? ⟨gx,0,none⟩=some (.string pt)∧W.cell? ⟨gx,1,none⟩=some (.int .i64 zk)∧(Instr.lookup 179 (.map (some M)) (.string zq) false).run Tryz.prog W=.ok (.int .i64 dv) W)
                (first|with_reducible exact S0|with_reducible exact S5|assumption|go_keep)
                (first
                  | (go_at_call 33;((with_reducible refine HMK.out.mono ?_);rintro _ w16 ⟨rfl,h16,hs16⟩;have H16:=Lib.hid (show cb.Sys w w16 [KB w P1 S1 r (T+1),KB w P2 L 65536 1000,KD w D1 R1 Sd r,KD w D2 R2 L 65536] (fun b=>Y b∨b=gx) from h16);have HS16:=Lib.hid (show Same (fun b=>Y b∨b=gx) w15 w16 from fun b hb=>hs16 b hb);have S5:=(HCE.out w16 HS16.out).1;clear h16 hs16)))
              clear S0 S5 HMK
              have S0:=(HCE.out w16.drew (fun b hb=>HS16.out b hb)).2
              have HMD:=Lib.hid (HMDD.out w16 (T+1) S1 H16.out)
              clear HMDD
              go_wp2_with fail
              go_region_held3 (fun W=>W.cell? ⟨G,2,none⟩=some (Pq D1)∧W.cell? ⟨gx,0,none⟩=some (.string pt)∧W.cell? ⟨gx,1,none⟩=some (.int .i64 zk)∧(Instr.lookup 179 (.map (some M)) (.string zq) false).run Tryz.prog W=.ok (.int .i64 dv) W)
                (first|with_reducible exact S0|with_reducible exact S5|assumption|go_keep)
                (first
                  | (go_at_call 34;((with_reducible refine HMD.out.mono ?_);rintro _ w17 ⟨rfl,h17,hs17⟩;have H17:=Lib.hid (show cb.Sys w w17 [KB w P1 S1 r (T+1),KB w P2 L 65536 1000,KD w D1 R1 Sd1 r,KD w D2 R2 L 65536] (fun b=>Y b∨b=gx) from h17);have HS17:=Lib.hid (show Same (fun b=>Y b∨b=gx) w15 w17 from fun b hb=>(hs17 b hb).trans (HS16.out b hb));have S5:=(HCE.out w17 HS17.out).2;clear h17 hs17)))
              clear S0 S5 HMD H16 HS16 HCE hs1 hs2
              by_cases hne:n=n'∧hh=hh'
              case neg =>
                have HF:=Lib.hid (HFA.out w17 H17.out.bel HFX.out)
                by_cases hn1:n=n'
                · have qn1:(n != n')=false:=by simpa using hn1
                  have qh1:(hh != hh')=true:=by simpa using fun e=>hne ⟨hn1,e⟩
                  clear hne hn1
                  go_wp2_with fail
                  exact HF.out
                · have qn1:(n != n')=true:=by simpa using hn1
                  clear hne hn1
                  go_wp2_with fail
                  exact HF.out
              obtain ⟨rfl,rfl⟩:=hne
              obtain ⟨x0,x1,x2,-,-⟩:=HXC.out w17 HS17.out
              obtain ⟨w18,hu18,mz18,g18⟩:=(HCM.out w17 HS17.out).put (by have:=HT2.out;have:=HZN.out;omega) HMM.out n
              have HGXM:=Lib.hid (show gx≠M from fun e=>by have:=HLT.out M HYG.out.2.1;omega)
              have H18:=Lib.hid (H17.out.turn (Y:=fun b=>Y b∨b=gx) (only_grown g18) (fun b hb=>by cases hb;exact ⟨.inl HYG.out.2.1,by have:=HRM.out;have:=HWR.out;omega⟩) fun b hb=>.inl hb)
              have HS18:=Lib.hid (show ∀ b,(Y b∨b=gx)→b≠M→w18.heap[b]?=w15.heap[b]? from fun b hb hn=>(g18.block b (H17.out.lt hb) (by intro e;injection e with e;exact hn e)).trans (HS17.out b hb))
              have HMP18:=Lib.hid (show MapZ w18 M (Sz+1) (zput f pt n) from mz18)
              clear mz18 g18
              go_upto_region 32 with fail
              clear x0 x1 x2 hu18
              have HXD:=Lib.hid (show ∀ W:World,(∀ b,(Y b∨b=gx)→b≠M→W.heap[b]?=w15.heap[b]?)→W.cell? ⟨gx,1,none⟩=some (.int .i64 zk)∧(W.cell? ⟨G,0,none⟩=some (Pq P1)∧W.cell? ⟨gx,2,none⟩=some (.string zd))∧(W.cell? ⟨G,2,none⟩=some (Pq D1)∧W.cell? ⟨gx,2,none⟩=some (.string zd)) from fun W hs=>by
                have hg:=(hs G (.inl HYG.out.1) (by have:=HGM.out;have:=HRM.out;omega)).trans HG15.out
                have hx:=(hs gx (.inr rfl) HGXM.out).trans HX15.out
                exact ⟨(Lib.cell_of_heap hx 1).trans rfl,⟨(Lib.cell_of_heap hg 0).trans rfl,(Lib.cell_of_heap hx 2).trans rfl⟩,⟨(Lib.cell_of_heap hg 2).trans rfl,(Lib.cell_of_heap hx 2).trans rfl⟩⟩)
              have x1:=(HXD.out w18 HS18.out).1
              have HRE:=Lib.hid (show ∀ (W:World) (S2 Sd2:BS) (T2:Nat),T2≤T+2→cb.Sys w W [KB w P1 S2 r T2,KB w P2 L 65536 1000,KD w D1 R1 Sd2 r,KD w D2 R2 L 65536] (fun b=>Y b∨b=gx)→(∀ b,(Y b∨b=gx)→b≠M→W.heap[b]?=w15.heap[b]?)→MapZ W M (Sz+1) (zput f pt n)→Bg S2→Bg Sd2→HB Sd2 0→br.Good Sd2 r →
                  Hid (cb.Sys w W [KB w P1 S2 r T2,KB w P2 L 65536 1000,KD w D1 R1 Sd2 r,KD w D2 R2 L 65536] Y)∧Hid (Same (fun b=>Y b∧b≠M) w14 W)∧Hid (MapZ W M (Sz+1) (zput f pt n)) ∧
        Hid (Sz+1≤1+(j+1)∧T2≤2+2*(j+1))∧Hid (∀ a v,zput f pt n a=some v→v≠3)∧Hid (Bg S2∧Bg Sd2)∧Hid (HB Sd2 0∧br.Good Sd2 r)∧Hid (j+1=0→S2=S0) from fun W S2 Sd2 T2 h1 h2 h3 h4 h5 h6 h7 h8 =>
                ⟨Lib.hid (h2.sub fun b hb=>.inl hb),Lib.hid fun b hb=>(h3 b (.inl hb.1) hb.2).trans (HS15.out b hb),Lib.hid h4,Lib.hid (by have:=HT2.out;omega),Lib.hid (zput_ne HF3.out HBS.out.2),Lib.hid ⟨h5,h6⟩,Lib.hid ⟨h7,h8⟩,Lib.hid fun e=>by omega⟩)
              by_cases e1:zk=1
              case neg =>
                have q1:(zk == 1)=false:=by simpa using e1
                have hj4:j≤4000:=by have:=HHI.out;have:=HZN.out;omega
                go_wp2_with fail
                go_roundg (m - (j+1))
                case measure=>have:=HHI.out;omega
                case rel=>exact ⟨j+1,S1,Sd1,T+1,Sz+1,zput f pt n,by have:=HHI.out;omega,by go_num,HRE.out w18 S1 Sd1 (T+1) (by omega) H18.out HS18.out HMP18.out HBS.out.1 HBD.out.1 HBD.out.2.1 HBD.out.2.2⟩
              have HK1:=Lib.hid e1
              have q1:(zk == 1)=true:=by simpa using e1
              clear e1
              go_wp2_with fail
              clear x1
              obtain ⟨c9,wc9,hcv,hd1,hd2,hbc,hltc,hfc⟩:=cb.conv_bytes w18.drew zd (by have:=HDA.out;omega)
              replace hcv:(convert 9 53 (.string zd)).run Tryz.prog w18.drew=.ok (.slice (some ⟨w18.heap.size,0,none⟩) zd.size c9) wc9:=hcv
              have HQc:=Lib.hid (show cb.Sys w wc9 [KB w P1 S1 r (T+1),KB w P2 L 65536 1000,KD w D1 R1 Sd1 r,KD w D2 R2 L 65536] (fun b=>(Y b∨b=gx)∨b=w18.heap.size) from (H18.out.below (Below.refl w18.heap.size w18).drew).box hbc fun b hb=>hb.imp id fun e=>by rw [e];exact ⟨Nat.le_refl _,hltc⟩)
              have HM:=Lib.hid (cs_write (i:=0) HQc.out rfl n 0 (some ⟨w18.heap.size,0,none⟩) zd.size c9 (sF zd) (fun j hj=>⟨w18.heap.size,0,rfl,.inr rfl,hfc j hj⟩) hd1 hd2)
              have HSc:=Lib.hid (show ∀ b,(Y b∨b=gx)→wc9.heap[b]?=w18.heap[b]? from fun b hb=>hbc.block b (H18.out.lt hb))
              have S0:=(HXD.out w18.drew (fun b hb hn=>HS18.out b hb hn)).2.1
              have S7:=(HXD.out wc9 (fun b hb hn=>(HSc.out b hb).trans (HS18.out b hb hn))).2.1
              clear hd1 hd2 hfc hltc hbc
              refine rh.region_T (S:=(fun W=>W.cell? ⟨G,0,none⟩=some (Pq P1)∧W.cell? ⟨gx,2,none⟩=some (.string zd))) (z:=9) (by kernel_rfl) ?_
              simp only [List.size_toArray,List.length_cons,List.length_nil,Nat.zero_add,Nat.reduceAdd]
              rw [show Array.replicate 9 false=#[false,false,false,false,false,false,false,false,false] from rfl]
              refine rh.take_T (i:=0) (Pq G) rfl (by kernel_rfl) (by kernel_rfl) (by kernel_rfl) (by kernel_rfl) (fun _ _ _ h=>h) (Or.inl ⟨by rfl,by intro w' hSw;(try dsimp only at hSw);go_simp⟩) S0 ?_
              simp only [Act.put,List.setIfInBounds_toArray,List.set_cons_zero,List.set_cons_succ]
              refine rh.take_T (i:=1) (.pointer (some ⟨G,0,none⟩)) rfl (by kernel_rfl) (by kernel_rfl) (by kernel_rfl) (by kernel_rfl) (fun _ _ _ h=>h) (Or.inl ⟨by rfl,by intro w' hSw;(try dsimp only at hSw);go_simp⟩) S0 ?_
              simp only [Act.put,List.setIfInBounds_toArray,List.set_cons_zero,List.set_cons_succ]
              refine rh.take_T (i:=2) (.pointer (some ⟨G,0,none⟩)) rfl (by kernel_rfl) (by kernel_rfl) (by kernel_rfl) (by kernel_rfl) (fun _ _ _ h=>h) (Or.inl ⟨by rfl,by intro w' hSw;(try dsimp only at hSw);go_simp⟩) S0 ?_
              simp only [Act.put,List.setIfInBounds_toArray,List.set_cons_zero,List.set_cons_succ]
              refine rh.take_T (i:=3) (Pq P1) rfl (by kernel_rfl) (by kernel_rfl) (by kernel_rfl) (by kernel_rfl) (fun _ _ _ h=>h) (Or.inl ⟨by rfl,by intro w' hSw;(try dsimp only at hSw);go_simp⟩) S0 ?_
              simp only [Act.put,List.setIfInBounds_toArray,List.set_cons_zero,List.set_cons_succ]
              refine rh.take_T (i:=4) (.int .i64 n) rfl (by kernel_rfl) (by kernel_rfl) (by kernel_rfl) (by kernel_rfl) (fun _ _ _ h=>h) (Or.inl ⟨by rfl,by intro w' hSw;(try dsimp only at hSw);go_simp⟩) S0 ?_
              simp only [Act.put,List.setIfInBounds_toArray,List.set_cons_zero,List.set_cons_succ]
              refine rh.take_T (i:=5) (.pointer (some ⟨gx,2,none⟩)) rfl (by kernel_rfl) (by kernel_rfl) (by kernel_rfl) (by kernel_rfl) (fun _ _ _ h=>h) (Or.inl ⟨by rfl,by intro w' hSw;(try dsimp only at hSw);go_simp⟩) S0 ?_
              simp only [Act.put,List.setIfInBounds_toArray,List.set_cons_zero,List.set_cons_succ]
              refine rh.take_T (i:=6) (.string zd) rfl (by kernel_rfl) (by kernel_rfl) (by kernel_rfl) (by kernel_rfl) (fun _ _ _ h=>h) (Or.inl ⟨by rfl,by intro w' hSw;(try dsimp only at hSw);go_simp⟩) S0 ?_
              simp only [Act.put,List.setIfInBounds_toArray,List.set_cons_zero,List.set_cons_succ]
              refine rh.step_T (i:=7) (by kernel_rfl) rfl fun K hK=>?_
              go_simp
              refine hK.out _ _ (.inr S7) ?_
              clear hK K
              simp only [Act.put,List.setIfInBounds_toArray,List.set_cons_zero,List.set_cons_succ]
              refine rh.step_T (i:=8) (by kernel_rfl) rfl fun K hK=>?_
              go_simp
              go_at_call 39
              with_reducible refine HM.out.mono ?_
              rintro _ w19 ⟨⟨zp,ze,S2⟩,hw,rfl,h19,hs19⟩
              dsimp only at hw h19
              have HW1:=Lib.hid hw
              have H19:=Lib.hid (show cb.Sys w w19 [KB w P1 S2 r (T+2),KB w P2 L 65536 1000,KD w D1 R1 Sd1 r,KD w D2 R2 L 65536] (fun b=>Y b∨b=gx) from h19.sub fun b hb=>.inl hb)
              have HS19:=Lib.hid (show ∀ b,(Y b∨b=gx)→b≠M→w19.heap[b]?=w15.heap[b]? from fun b hb hn=>(hs19 b (.inl hb)).trans ((HSc.out b hb).trans (HS18.out b hb hn)))
              have HMP19:=Lib.hid (HMP18.out.of_block ((hs19 M (.inl (.inl HYG.out.2.1))).trans (HSc.out M (.inl HYG.out.2.1))))
              have S9:=(HXD.out w19 HS19.out).2.1
              clear hw h19 hs19
              go_wp2_with fail
              refine hK.out _ _ (.inr S9) ?_
              clear hK K
              refine rh.done_T (by kernel_rfl) ?_
              clear S0 S7 S9 HM hcv HQc HSc
              obtain ⟨c8,wc8,hcv,hd1,hd2,hbc,hltc,hfc⟩:=cb.conv_bytes w19.drew zd (by have:=HDA.out;omega)
              replace hcv:(convert 9 53 (.string zd)).run Tryz.prog w19.drew=.ok (.slice (some ⟨w19.heap.size,0,none⟩) zd.size c8) wc8:=hcv
              have HQc:=Lib.hid (show cb.Sys w wc8 [KB w P1 S2 r (T+2),KB w P2 L 65536 1000,KD w D1 R1 Sd1 r,KD w D2 R2 L 65536] (fun b=>(Y b∨b=gx)∨b=w19.heap.size) from (H19.out.below (Below.refl w19.heap.size w19).drew).box hbc fun b hb=>hb.imp id fun e=>by rw [e];exact ⟨Nat.le_refl _,hltc⟩)
              have HM:=Lib.hid (ds_writeM (i:=2) HQc.out rfl HBD.out.2.2 HRR.out (HMOD.out HK1.out) (some ⟨w19.heap.size,0,none⟩) zd.size c8 (sF zd) (fun j hj=>⟨w19.heap.size,0,rfl,.inr rfl,hfc j hj⟩) hd1 hd2)
              have HSc:=Lib.hid (show ∀ b,(Y b∨b=gx)→wc8.heap[b]?=w19.heap[b]? from fun b hb=>hbc.block b (H19.out.lt hb))
              have S0:=(HXD.out w19.drew (fun b hb hn=>HS19.out b hb hn)).2.2
              have S7:=(HXD.out wc8 (fun b hb hn=>(HSc.out b hb).trans (HS19.out b hb hn))).2.2
              clear hd1 hd2 hfc hltc hbc
              go_wp2_with fail
              refine rh.region_T (S:=(fun W=>W.cell? ⟨G,2,none⟩=some (Pq D1)∧W.cell? ⟨gx,2,none⟩=some (.string zd))) (z:=9) (by kernel_rfl) ?_
              simp only [List.size_toArray,List.length_cons,List.length_nil,Nat.zero_add,Nat.reduceAdd]
              rw [show Array.replicate 9 false=#[false,false,false,false,false,false,false,false,false] from rfl]
              refine rh.take_T (i:=0) (Pq G) rfl (by kernel_rfl) (by kernel_rfl) (by kernel_rfl) (by kernel_rfl) (fun _ _ _ h=>h) (Or.inl ⟨by rfl,by intro w' hSw;(try dsimp only at hSw);go_simp⟩) S0 ?_
              simp only [Act.put,List.setIfInBounds_toArray,List.set_cons_zero,List.set_cons_succ]
              refine rh.take_T (i:=1) (.pointer (some ⟨G,0,none⟩)) rfl (by kernel_rfl) (by kernel_rfl) (by kernel_rfl) (by kernel_rfl) (fun _ _ _ h=>h) (Or.inl ⟨by rfl,by intro w' hSw;(try dsimp only at hSw);go_simp⟩) S0 ?_
              simp only [Act.put,List.setIfInBounds_toArray,List.set_cons_zero,List.set_cons_succ]
              refine rh.take_T (i:=2) (.pointer (some ⟨G,2,none⟩)) rfl (by kernel_rfl) (by kernel_rfl) (by kernel_rfl) (by kernel_rfl) (fun _ _ _ h=>h) (Or.inl ⟨by rfl,by intro w' hSw;(try dsimp only at hSw);go_simp⟩) S0 ?_
              simp only [Act.put,List.setIfInBounds_toArray,List.set_cons_zero,List.set_cons_succ]
              refine rh.take_T (i:=3) (Pq D1) rfl (by kernel_rfl) (by kernel_rfl) (by kernel_rfl) (by kernel_rfl) (fun _ _ _ h=>h) (Or.inl ⟨by rfl,by intro w' hSw;(try dsimp only at hSw);go_simp⟩) S0 ?_
              simp only [Act.put,List.setIfInBounds_toArray,List.set_cons_zero,List.set_cons_succ]
              refine rh.take_T (i:=4) (.int .i64 n) rfl (by kernel_rfl) (by kernel_rfl) (by kernel_rfl) (by kernel_rfl) (fun _ _ _ h=>h) (Or.inl ⟨by rfl,by intro w' hSw;(try dsimp only at hSw);go_simp⟩) S0 ?_
              simp only [Act.put,List.setIfInBounds_toArray,List.set_cons_zero,List.set_cons_succ]
              refine rh.take_T (i:=5) (.pointer (some ⟨gx,2,none⟩)) rfl (by kernel_rfl) (by kernel_rfl) (by kernel_rfl) (by kernel_rfl) (fun _ _ _ h=>h) (Or.inl ⟨by rfl,by intro w' hSw;(try dsimp only at hSw);go_simp⟩) S0 ?_
              simp only [Act.put,List.setIfInBounds_toArray,List.set_cons_zero,List.set_cons_succ]
              refine rh.take_T (i:=6) (.string zd) rfl (by kernel_rfl) (by kernel_rfl) (by kernel_rfl) (by kernel_rfl) (fun _ _ _ h=>h) (Or.inl ⟨by rfl,by intro w' hSw;(try dsimp only at hSw);go_simp⟩) S0 ?_
              simp only [Act.put,List.setIfInBounds_toArray,List.set_cons_zero,List.set_cons_succ]
              refine rh.step_T (i:=7) (by kernel_rfl) rfl fun K hK=>?_
              go_simp
              refine hK.out _ _ (.inr S7) ?_
              clear hK K
              simp only [Act.put,List.setIfInBounds_toArray,List.set_cons_zero,List.set_cons_succ]
              refine rh.step_T (i:=8) (by kernel_rfl) rfl fun K hK=>?_
              go_simp
              go_at_call 40
              with_reducible refine HM.out.mono ?_
              rintro _ w20 ⟨⟨yp,ye,Sd2⟩,hw,rfl,h20,hs20⟩
              dsimp only at hw h20
              have HW2:=Lib.hid hw
              have H20:=Lib.hid (show cb.Sys w w20 [KB w P1 S2 r (T+2),KB w P2 L 65536 1000,KD w D1 R1 Sd2 r,KD w D2 R2 L 65536] (fun b=>Y b∨b=gx) from h20.sub fun b hb=>.inl hb)
              have HS20:=Lib.hid (show ∀ b,(Y b∨b=gx)→b≠M→w20.heap[b]?=w15.heap[b]? from fun b hb hn=>(hs20 b (.inl hb)).trans ((HSc.out b hb).trans (HS19.out b hb hn)))
              have HMP20:=Lib.hid (HMP19.out.of_block ((hs20 M (.inl (.inl HYG.out.2.1))).trans (HSc.out M (.inl HYG.out.2.1))))
              have S9:=(HXD.out w20 HS20.out).2.2
              clear hw h20 hs20
              go_wp2_with fail
              refine hK.out _ _ (.inr S9) ?_
              clear hK K
              refine rh.done_T (by kernel_rfl) ?_
              clear S0 S7 S9 HM hcv HQc HSc
              have hj4:j≤4000:=by have:=HHI.out;have:=HZN.out;omega
              go_wp2_with fail
              go_roundg (m - (j+1))
              case measure=>have:=HHI.out;omega
              case rel=>exact ⟨j+1,S2,Sd2,T+2,Sz+1,zput f pt n,by have:=HHI.out;omega,by go_num,HRE.out w20 S2 Sd2 (T+2) (by omega) H20.out HS20.out HMP20.out (HBS.out.1.write HW1.out) (HBD.out.1.write HW2.out) (by
                rcases HW2.out with ⟨_,_,_,e⟩|⟨_,_,_,_,e⟩
                · rw [e];exact HBD.out.2.1
                · rw [e];exact HBD.out.2.1.wrote _ _ _ _) (cb.Good_wr HBD.out.2.2 HW2.out)⟩
        · obtain rfl:j=m:=by omega
          have HQX:=Lib.hid (HQ.out)
          have HVD:=Lib.hid (show Vd wr D1 D2 Sd L from ⟨cb.Sys.ask HQ.out (i:=2) rfl fun O k=>by obtain ⟨pl,tg,hd,_⟩:=k;exact ⟨_,_,pl,tg,r,hd,HGD.out.2⟩,cb.Sys.ask HQ.out (i:=3) rfl fun O k=>by obtain ⟨pl,tg,hd,_⟩:=k;exact ⟨_,_,pl,tg,65536,hd,HGL.out⟩⟩)
          have HB1:=Lib.hid (cb.Sys.ask HQ.out (i:=0) rfl fun O k=>(KB.brx k HQ.out.bel).forget)
          have HN1:=Lib.hid (cnew_any (P2:=P2) (L:=L) (r2:=0) (T2:=0) (X2:=No) (HB1.out.below (Below.refl wr.heap.size wr).drew) 2 1 3 (by decide) HBG.out.1.kind2 HBG.out.1.kind3)
          have E0:wr.drew.cell? ⟨G,0,none⟩=some (Pq P1)∧wr.drew.cell? ⟨G,1,none⟩=some (Pq P2):=⟨(Lib.cell_of_heap HGJ.out 0).trans rfl,(Lib.cell_of_heap HGJ.out 1).trans rfl⟩
          have HGS:=Lib.hid (HQ.out.lt HYG.out.1)
          have HSU:=Lib.hid (show upper=[]→S=S0 from fun e=>HZ0.out (by have h0:=HXN.out e;rw [← HMX.out,h0];rfl))
          clear hgj HQ HS HMP HF3 HZ0 HMZ HG14 HLX14 HZD HZO HZX HXN HMX H14
          go_wp2_with fail
          go_region_held3 (fun W=>W.cell? ⟨G,0,none⟩=some (Pq P1)∧W.cell? ⟨G,1,none⟩=some (Pq P2))
            (first|with_reducible exact E0|with_reducible exact E5|with_reducible exact ET|assumption|go_keep)
            (first
              | (go_at_call 113;((with_reducible refine HN1.out.mono ?_);rintro _ w16 ⟨C,V,rfl,hb16,hV1,hV2,hC1,hC2,hCV,hcx,hch⟩;have HG16:=Lib.hid ((hb16.block G HGS.out).trans HGJ.out);have HB16:=Lib.hid (show Below wr.heap.size wr w16 from (Below.refl wr.heap.size wr).drew.trans hb16);have HCX:=Lib.hid hcx;have HCC:=Lib.hid (show wr.heap.size≤V∧V<w16.heap.size∧wr.heap.size≤C∧C<w16.heap.size∧C≠V from ⟨hV1,hV2,hC1,hC2,hCV⟩);have E5:w16.cell? ⟨G,0,none⟩=some (Pq P1)∧w16.cell? ⟨G,1,none⟩=some (Pq P2):=⟨(Lib.cell_of_heap HG16.out 0).trans rfl,(Lib.cell_of_heap HG16.out 1).trans rfl⟩;have t4:w16.cell? ⟨G,4,none⟩=some (.pointer none):=(Lib.cell_of_heap HG16.out 4).trans rfl;have f4:w16.frozen? ⟨G,4,none⟩=false:=Lib.frozen_of_heap HG16.out 4;have HG17:=Lib.hid (show (w16.setCell ⟨G,4,none⟩ (Pq C)).heap[G]?=some (.cells #[Pq P1,Pq P2,Pq D1,Pq D2,Pq C,.pointer none] 83 (0,0)) from Lib.heap_setCell_same (i:=4) HG16.out (Pq C));have ET:(w16.setCell ⟨G,4,none⟩ (Pq C)).cell? ⟨G,0,none⟩=some (Pq P1)∧(w16.setCell ⟨G,4,none⟩ (Pq C)).cell? ⟨G,1,none⟩=some (Pq P2):=⟨(Lib.cell_of_heap HG17.out 0).trans rfl,(Lib.cell_of_heap HG17.out 1).trans rfl⟩;clear hb16 hV1 hV2 hC1 hC2 hCV hcx hch)))
          have HNB:=Lib.hid (show ∀ b,Y b→b<wr.heap.size from fun b hb=>HQX.out.lt hb)
          have HC17:=Lib.hid (show Cx (w16.setCell ⟨G,4,none⟩ (Pq C)) ⟨C,V,P1,P2,2,1,3⟩ from HCX.out.same (Below.heap_setCell _ _ _ _ (show C≠G from fun e=>by have:=HCC.out;have:=HGS.out;omega)) (Below.heap_setCell _ _ _ _ (show V≠G from fun e=>by have:=HCC.out;have:=HGS.out;omega)))
          have HQ17:=Lib.hid (show cb.Sys w (w16.setCell ⟨G,4,none⟩ (Pq C)) [KB w P1 S r T,KB w P2 L 65536 1000,KD w D1 R1 Sd r,KD w D2 R2 L 65536] (fun b=>(b<w.heap.size∨b=G)∨b=C∨b=V) from
            (HQX.out.box (Y:=fun b=>(b<w.heap.size∨b=G)∨b=C∨b=V) HB16.out fun b hb=>by
              rcases hb with (h|h)|h|h
              · exact .inl (HYG.out.2.2.2.2 b h)
              · exact .inl (h▸HYG.out.1)
              · exact .inr (by rw [h];exact ⟨HCC.out.2.2.1,HCC.out.2.2.2.1⟩)
              · exact .inr (by rw [h];exact ⟨HCC.out.1,HCC.out.2.1⟩)).turn (only_set w16 G 4 _) (fun b hb=>by cases hb;exact ⟨.inl (.inr rfl),HLO.out⟩) fun b hb=>.inl hb)
          clear E0 E5 ET t4 f4 HN1 HB1 HCX HG16 HQX HGJ
          have HSZ:=Lib.hid (show wr.heap.size≤w16.heap.size∧(w16.setCell ⟨G,4,none⟩ (Pq C)).heap.size=w16.heap.size from ⟨HB16.out.size,by simp⟩)
          generalize w16.setCell ⟨G,4,none⟩ (Pq C)=w17 at *
          have HVD17:=Lib.hid (show Vd w17 D1 D2 Sd L from ⟨cb.Sys.ask HQ17.out (i:=2) rfl fun O k=>by obtain ⟨pl,tg,hd,_⟩:=k;exact ⟨_,_,pl,tg,r,hd,HGD.out.2⟩,cb.Sys.ask HQ17.out (i:=3) rfl fun O k=>by obtain ⟨pl,tg,hd,_⟩:=k;exact ⟨_,_,pl,tg,65536,hd,HGL.out⟩⟩)
          have HRN:=Lib.hid (rnew_any (HVD17.out.below (Below.refl w17.heap.size w17).drew) 2 1 3 (by decide) HBG.out.2.kind2 HBG.out.2.kind3)
          have E0:w17.drew.cell? ⟨G,2,none⟩=some (Pq D1)∧w17.drew.cell? ⟨G,3,none⟩=some (Pq D2):=⟨(Lib.cell_of_heap HG17.out 2).trans rfl,(Lib.cell_of_heap HG17.out 3).trans rfl⟩
          go_wp2_with fail
          go_region_held3 (fun W=>W.cell? ⟨G,2,none⟩=some (Pq D1)∧W.cell? ⟨G,3,none⟩=some (Pq D2))
            (first|with_reducible exact E0|with_reducible exact E5|with_reducible exact ET|assumption|go_keep)
            (first
              | (go_at_call 115;((with_reducible refine HRN.out.mono ?_);rintro _ w18 ⟨R,rfl,hb18,hR1,hR2,hrx⟩;have HG18:=Lib.hid ((hb18.block G (HQ17.out.lt (.inl (.inr rfl)))).trans HG17.out);have HB18:=Lib.hid (show Below w17.heap.size w17 w18 from (Below.refl w17.heap.size w17).drew.trans hb18);have HRX:=Lib.hid hrx;have HR12:=Lib.hid (And.intro (show w17.heap.size≤R from hR1) hR2);have E5:w18.cell? ⟨G,2,none⟩=some (Pq D1)∧w18.cell? ⟨G,3,none⟩=some (Pq D2):=⟨(Lib.cell_of_heap HG18.out 2).trans rfl,(Lib.cell_of_heap HG18.out 3).trans rfl⟩;have t4:w18.cell? ⟨G,5,none⟩=some (.pointer none):=(Lib.cell_of_heap HG18.out 5).trans rfl;have f4:w18.frozen? ⟨G,5,none⟩=false:=Lib.frozen_of_heap HG18.out 5;have HG19:=Lib.hid (show (w18.setCell ⟨G,5,none⟩ (Pq R)).heap[G]?=some (.cells #[Pq P1,Pq P2,Pq D1,Pq D2,Pq C,Pq R] 83 (0,0)) from Lib.heap_setCell_same (i:=5) HG18.out (Pq R));have ET:(w18.setCell ⟨G,5,none⟩ (Pq R)).cell? ⟨G,2,none⟩=some (Pq D1)∧(w18.setCell ⟨G,5,none⟩ (Pq R)).cell? ⟨G,3,none⟩=some (Pq D2):=⟨(Lib.cell_of_heap HG19.out 2).trans rfl,(Lib.cell_of_heap HG19.out 3).trans rfl⟩;clear hb18 hR1 hR2 hrx)))
          have HCL:=Lib.hid (show C<w17.heap.size∧V<w17.heap.size∧G<w17.heap.size from ⟨HQ17.out.lt (.inr (.inl rfl)),HQ17.out.lt (.inr (.inr rfl)),HQ17.out.lt (.inl (.inr rfl))⟩)
          have HC19:=Lib.hid (show Cx (w18.setCell ⟨G,5,none⟩ (Pq R)) ⟨C,V,P1,P2,2,1,3⟩ from HC17.out.same ((Below.heap_setCell _ _ _ _ (show C≠G from fun e=>by have:=HCC.out;have:=HGS.out;omega)).trans (HB18.out.block C HCL.out.1)) ((Below.heap_setCell _ _ _ _ (show V≠G from fun e=>by have:=HCC.out;have:=HGS.out;omega)).trans (HB18.out.block V HCL.out.2.1)))
          have HX19:=Lib.hid (show Rx (w18.setCell ⟨G,5,none⟩ (Pq R)) R D1 D2 2 1 3 by
            have e:∀ i,(w18.setCell ⟨G,5,none⟩ (Pq R)).cell? ⟨R,i,none⟩=w18.cell? ⟨R,i,none⟩:=fun i=>World.cell?_of_block (a:=⟨R,i,none⟩) (Below.heap_setCell _ _ _ _ (show R≠G from fun e=>by have:=HR12.out;have:=HCL.out;omega))
            exact ⟨(e 0).trans HRX.out.c0,(e 1).trans HRX.out.c1,(e 2).trans HRX.out.c2,(e 3).trans HRX.out.c3,(e 4).trans HRX.out.c4⟩)
          have HQ19:=Lib.hid (show cb.Sys w (w18.setCell ⟨G,5,none⟩ (Pq R)) [KB w P1 S r T,KB w P2 L 65536 1000,KD w D1 R1 Sd r,KD w D2 R2 L 65536] (fun b=>b<w.heap.size∨b=G∨b=C∨b=V∨b=R) from
            (HQ17.out.box (Y:=fun b=>b<w.heap.size∨b=G∨b=C∨b=V∨b=R) HB18.out fun b hb=>by
              rcases hb with h|h|h|h|h
              · exact .inl (.inl (.inl h))
              · exact .inl (.inl (.inr h))
              · exact .inl (.inr (.inl h))
              · exact .inl (.inr (.inr h))
              · exact .inr (by rw [h];exact HR12.out)).turn (only_set w18 G 5 _) (fun b hb=>by cases hb;exact ⟨.inr (.inl rfl),HLO.out⟩) fun b hb=>.inl hb)
          clear E0 E5 ET t4 f4 HRN HVD17 HQ17 HC17 HG17 HG18 HRX
          generalize w18.setCell ⟨G,5,none⟩ (Pq R)=w19 at *
          have g4:w19.cell? ⟨G,4,none⟩=some (Pq C):=(Lib.cell_of_heap HG19.out 4).trans rfl
          have g5:w19.cell? ⟨G,5,none⟩=some (Pq R):=(Lib.cell_of_heap HG19.out 5).trans rfl
          go_upto_region 38 with fail
          have HF:=Lib.hid (fun (k:Nat)=>HTR.out (w19.drewN k) G ⟨C,V,P1,P2,2,1,3⟩ R D1 R1 D2 R2 S Sd L T
            ⟨⟨HQ19.out.below (mg.bel_drewN w19 k),HC19.out.same rfl rfl,.inr (.inr (.inl rfl)),.inr (.inr (.inr (.inl rfl)))⟩,⟨HX19.out.c0,HX19.out.c1,HX19.out.c2,HX19.out.c3,HX19.out.c4⟩,HG19.out,rfl,rfl,rfl,HBG.out.1,HBG.out.2,by have:=HT2.out;have:=HZN.out;omega⟩ HTL.out HSU.out)
          go_quiet (fail)
          go_wp2_with fail
          exact HF.out _
end Go.Proofs.YtgoddboicjfkcaaGreat.cu
