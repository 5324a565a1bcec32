/- Contracts and mathematics, part 29. -/
import Derived.Test.YtgoddboicjfkcaaGreatZ28
set_option linter.unusedVariables false
set_option linter.unusedSimpArgs false
set_option maxRecDepth 100000
set_option maxHeartbeats 8000000
namespace Go.Proofs.YtgoddboicjfkcaaGreat
namespace cu
open Go.RowKit Go.Deep
open br (BS Ino Inv at_nat abE fresh)
open cb (BrX RetW RetI No KB KD Res HB Stab NxR Same WrI Wz sF)
open bl (Pq Only AB U8 WR wr wrB IsStop)
open mg (bel_step bel_alloc Vd Rv)
open fl (Ln LR treeF Zn bl8 path_bl noSl LO ofV OkAll OkZ linesZ linesZ_ln)
structure Begn (w w':World) (G:Nat) (c:Cp) (R D1 R1 D2 R2:Nat) (S Sd L:BS) (r T:Nat):Prop where
 z:Zs w w' c S L r T [KD w D1 R1 Sd r,KD w D2 R2 L 65536] (fun b=>b<w.heap.size∨b=G∨b=c.C∨b=c.V∨b=R)
 rx:Rx w' R D1 D2 2 1 3
 bx:w'.heap[G]?=some (.cells #[Pq c.P1,Pq c.P2,Pq D1,Pq D2,Pq c.C,Pq R] 83 (0,0))
 u:c.u=2
 l:c.l=1
 wk:c.wk=3
 bg:Bg S
 bd:Bg Sd
 T:T≤10000
def BegE (w:World) (upper lower:List Ln) (r:Nat) (e:Ending) (w':World):Prop :=
 (e=.returned (.tuple #[.pointer none,.bool false])∧Below w.heap.size w w'∧(upper=[]→treeF 65536 fresh lower=none)) ∨
 ∃(G:Nat) (c:Cp) (R D1 R1 D2 R2:Nat) (S Sd L:BS) (T:Nat),e=.returned (.tuple #[Pq G,.bool true])∧Begn w w' G c R D1 R1 D2 R2 S Sd L r T∧treeF 65536 fresh lower=some L∧(upper=[]→S=S0)
def upJ (j:Nat):BS:=if j=0 then fresh else if j=1 then (fresh.make 1 upB 2 ⟨#[]⟩).2 else S0
def nmJ (j:Nat):ByteArray:=if j=0 then upB else workB
theorem upJ_succ {j:Nat} (h:j<2):((upJ j).make 1 (nmJ j) 2 ⟨#[]⟩).2=upJ (j+1):=by
 have:j=0∨j=1:=by omega
 rcases this with rfl|rfl <;> rfl
theorem upJ_good (r j:Nat):br.Good (upJ j) r:=by
 unfold upJ
 split
 ·exact br.Good.fresh r
 ·split
  ·exact (br.Good.fresh r).make _ _ _ _
  ·exact ((br.Good.fresh r).make _ _ _ _).make _ _ _ _
theorem upJ_hb (j:Nat):HB (upJ j) 0:=by
 unfold upJ
 split
 ·exact HB.fresh
 ·split
  ·exact HB.fresh.make (by decide) _ _ _ _
  ·exact (HB.fresh.make (by decide) _ _ _ _).make (by decide) _ _ _ _
theorem zput_ne {f:ByteArray→Option Int} {b:ByteArray} {u:Int} (h:∀a v,f a=some v→v≠3) (hu:u≠3):∀a v,zput f b u a=some v→v≠3:=fun a v hv=>by
 unfold zput at hv
 split at hv
 ·injection hv with hv;rw [←hv];exact hu
 ·exact h a v hv
theorem getD_ne {f:ByteArray→Option Int} (h:∀a v,f a=some v→v≠3) (a:ByteArray):(f a).getD 0≠3:=by
 cases e:f a with
 | none=>decide
 | some v=>exact h a v e
theorem nmJ_le (j:Nat):(nmJ j).size≤9223372036854775807:=by unfold nmJ;split <;> decide
theorem begin_any {w:World} {A B:Option Addr} {upper lower:List Ln} {c1 c2:Nat} (hu:LR w w.heap.size A upper) (hl:LR w w.heap.size B lower) (hnu:upper.length≤400) (hnl:lower.length≤400) (hdu:∀x∈upper,x.data.size≤1000000) (hdl:∀x∈lower,x.data.size≤1000000) {r:Nat} (hr:r≤65536) :
    Calls Tryz.prog 46 #[.slice A upper.length c1,.slice B lower.length c2,.int .i64 (r:Int)] w (BegE w upper lower r):=by
  have HN:=Qa (fun (L:List Res) (X:Nat→Prop) (W:World) (h:cb.Sys w W L X)=>bnew_any h hr)
  have HM:=Qa (fun (L:List Res) (X:Nat→Prop) (W:World) (h:cb.Sys w W L X)=>dnew_any h hr)
  have Ys:=Qa (fun (L:List Res) (X:Nat→Prop) (W:World) (h:cb.Sys w W L X)=>dnew_any h (r:=0) (by decide))
  have Xu:=Qa (fun (L:List Res) (X:Nat→Prop) (W:World) (h:cb.Sys w W L X) (k:LX W X B lower)=>ctree_any (c:=c2) h k hnl hdl)
  have Xf:=Qa (fun (L:List Res) (X:Nat→Prop) (W:World) (h:cb.Sys w W L X) (k:LX W X B lower)=>rtree_any (c:=c2) h k (by omega) hdl)
  have Xv:=Qa (fun (L:List Res) (X:Nat→Prop) (W:World) (h:cb.Sys w W L X) (k:LX W X A upper)=>rtree_any (c:=c1) h k (by omega) hdu)
  have Yt:=Qa (show ∀(W:World) (Y:Nat→Prop),Below w.heap.size w W→(∀b,b<w.heap.size→Y b)→LX W Y A upper from fun W Y hb hy=>((LX.of (X:=fun b=>b<w.heap.size) hu fun b hb=>hb).same fun b h=>hb.block b h).sub hy)
  have Xy:=Qa (show ∀(W:World) (Y:Nat→Prop),Below w.heap.size w W→(∀b,b<w.heap.size→Y b)→LX W Y B lower from fun W Y hb hy=>((LX.of (X:=fun b=>b<w.heap.size) hl fun b hb=>hb).same fun b h=>hb.block b h).sub hy)
  have Xw:=Qa (show ∀W:World,Below w.heap.size w W→(upper=[]→treeF 65536 fresh lower=none)→BegE w upper lower r (.returned (.tuple #[.pointer none,.bool false])) W from fun W a b=>.inl ⟨rfl,a,b⟩)
  have Yu:=Qa (show ∀(W:World) (G:Nat) (c:Cp) (R D1 R1 D2 R2:Nat) (S Sd L:BS) (T:Nat),Begn w W G c R D1 R1 D2 R2 S Sd L r T→treeF 65536 fresh lower=some L→(upper=[]→S=S0)→BegE w upper lower r (.returned (.tuple #[Pq G,.bool true])) W from
    fun W G c R D1 R1 D2 R2 S Sd L T a b d=>.inr ⟨G,c,R,D1,R1,D2,R2,S,Sd,L,T,rfl,a,b,d⟩)
  obtain ⟨PQ,hPQ⟩:∃P,BegE w upper lower r=P:=⟨_,rfl⟩
  rw [hPQ] at Xw Yu ⊢
  obtain ⟨nu,hnu2⟩:∃n,upper.length=n:=⟨_,rfl⟩
  obtain ⟨nl,hnl2⟩:∃n,lower.length=n:=⟨_,rfl⟩
  rw [hnu2] at Xv hnu ⊢
  rw [hnl2] at Xu Xf hnl ⊢
  have Xz:=Qa hr
  have Z3:=Qa hnu
  have Z4:=Qa hnl
  unfold CTreeE at Xu
  unfold RTreeE at Xf Xv
  clear hu hl hdu hdl hPQ hnu2 hnl2 hr hnu hnl
  go_enter Tryz.func46,Tryz.ntmps46
  go_wp2_with fail
  refine (HN.out _ _ w (cb.Sys.nil (Below.refl w.heap.size w))).mono ?_
  rintro _ w1 ⟨P1,rfl,h1,b1⟩
  have H1:=Qa h1
  have Xg:=Qa b1
  clear h1 b1 HN
  go_wp2_with fail
  refine (HM.out _ _ w1 H1.out).mono ?_
  rintro _ w2 ⟨D1,R1,rfl,h2,b2⟩
  have H2:=Qa h2
  have X0:=Qa (bel_step Xg.out b2)
  clear h2 b2 HM H1 Xg
  obtain ⟨G,hG⟩:∃g,w2.heap.size=g:=⟨_,rfl⟩
  obtain ⟨w3,hw3⟩:∃w3,w2.alloc (.cells #[Pq P1,.pointer none,Pq D1,.pointer none,.pointer none,.pointer none] 83)=w3:=⟨_,rfl⟩
  have fa:Below w2.heap.size w2 w3:=by rw [←hw3];exact bel_alloc _ _
  have Yv:=Qa (show w3.heap[G]?=some (.cells #[Pq P1,.pointer none,Pq D1,.pointer none,.pointer none,.pointer none] 83 (0,0)) by rw [←hw3,←hG];exact heap_alloc_new w2 _)
  have H3:=Qa (show cb.Sys w w3 [KB w P1 fresh r 0,KD w D1 R1 fresh r] (fun b=>b<w.heap.size∨b=G) from H2.out.box fa (fun b hb=>hb.imp id fun e=>by rw [e,←hG,←hw3,World.size_alloc];omega))
  have X3:=Qa (bel_step X0.out fa)
  have X4:=Qa (show w.heap.size≤G by rw [←hG];exact X0.out.size)
  clear fa H2 X0
  go_upto_region 2 with fail
  try rw [hw3]
  try rw [hG]
  clear hw3 hG
  go_wp2_with fail
  refine (Xu.out _ _ w3 H3.out (Xy.out w3 _ X3.out fun b hb=>.inl hb)).mono ?_
  rintro e w4 ⟨kb,hc⟩
  have X5:=Qa (bel_step X3.out kb)
  have X6:=Qa ((kb.block G (H3.out.lt (.inr rfl))).trans Yv.out)
  clear kb Xu Yv
  rcases hc with ⟨err,e0,ht,rfl,h4⟩|⟨P2,L,ht,rfl,h4⟩
  · have H4:=Qa h4
    clear h4 H3
    go_wp2_with fail
    refine (Xf.out _ _ w4 H4.out (Xy.out w4 _ X5.out fun b hb=>.inl hb)).mono ?_
    rintro e w5 ⟨la,⟨err2,e02,ht2,rfl,h5⟩|⟨D,RS,S,ht2,_⟩⟩
    · have Qi:=Qa ((la G (.inr rfl)).trans X6.out)
      have g0:w5.cell? ⟨G,0,none⟩=some (Pq P1):=(Lib.cell_of_heap Qi.out 0).trans rfl
      have g2:w5.cell? ⟨G,2,none⟩=some (Pq D1):=(Lib.cell_of_heap Qi.out 2).trans rfl
      have q1:(err != 0)=true:=by simpa using e0
      have HF:=Qa (Xw.out w5 h5.bel fun _=>ht)
      clear e0 e02 ht ht2 h5
      go_wp2_with fail
      exact HF.out
    · rw [ht] at ht2;cases ht2
  have X7:=Qa ht
  have H4:=Qa h4
  clear ht h4 H3
  go_wp2_with fail
  refine (Xf.out _ _ w4 H4.out (Xy.out w4 _ X5.out fun b hb=>.inl hb)).mono ?_
  rintro e w5 ⟨la,⟨err2,e02,ht2,rfl,h5⟩|⟨D2,R2,L2,ht2,rfl,h5,hg5,hh5⟩⟩
  · rw [X7.out] at ht2;cases ht2
  rw [X7.out] at ht2
  injection ht2 with ht2
  subst ht2
  have Qi:=Qa ((la G (.inr rfl)).trans X6.out)
  have H5:=Qa (show cb.Sys w w5 [KB w P1 fresh r 0,KD w D1 R1 fresh r,KB w P2 L 65536 1000,KD w D2 R2 L 65536] (fun b=>b<w.heap.size∨b=G) from h5)
  have Yw:=Qa hg5
  clear la h5 hg5 hh5 X6 H4 Xf X5 X3
  have g0:w5.cell? ⟨G,0,none⟩=some (Pq P1):=(Lib.cell_of_heap Qi.out 0).trans rfl
  have g2:w5.cell? ⟨G,2,none⟩=some (Pq D1):=(Lib.cell_of_heap Qi.out 2).trans rfl
  have g1:w5.cell? ⟨G,1,none⟩=some (.pointer none):=(Lib.cell_of_heap Qi.out 1).trans rfl
  have g3:w5.cell? ⟨G,3,none⟩=some (.pointer none):=(Lib.cell_of_heap Qi.out 3).trans rfl
  have f1:w5.frozen? ⟨G,1,none⟩=false:=Lib.frozen_of_heap Qi.out 1
  have f3:w5.frozen? ⟨G,3,none⟩=false:=Lib.frozen_of_heap Qi.out 3
  obtain ⟨w6,hw6⟩:∃w6,(w5.setCell ⟨G,1,none⟩ (Pq P2)).setCell ⟨G,3,none⟩ (Pq D2)=w6:=⟨_,rfl⟩
  have Yx:=Qa (show w6.heap[G]?=some (.cells #[Pq P1,Pq P2,Pq D1,Pq D2,.pointer none,.pointer none] 83 (0,0)) by
    rw [←hw6]
    exact Lib.heap_setCell_same (i:=3) (Lib.heap_setCell_same (i:=1) Qi.out (Pq P2)) (Pq D2))
  have H6:=Qa (show cb.Sys w w6 [KB w P1 fresh r 0,KD w D1 R1 fresh r,KB w P2 L 65536 1000,KD w D2 R2 L 65536] (fun b=>b<w.heap.size∨b=G) by
    rw [←hw6]
    have ho:∀(W:World) (i:Nat) (v:Value),Only (fun b=>b=G) W (W.setCell ⟨G,i,none⟩ v):=fun W i v=>only_set W G i v
    refine H5.out.turn ((ho w5 1 _).trans (ho _ 3 _)) (fun b hb=>by cases hb;exact ⟨.inr rfl,X4.out⟩) (fun b hb=>.inl hb))
  obtain ⟨gs,hgs⟩:∃g,w6.heap.size=g:=⟨_,rfl⟩
  obtain ⟨w7,hw7⟩:∃w7,w6.alloc (.cells #[.string upB,.string workB] 9)=w7:=⟨_,rfl⟩
  have mb:Below w6.heap.size w6 w7:=by rw [←hw7];exact bel_alloc _ _
  have Yy:=Qa (show w7.heap[gs]?=some (.cells #[.string upB,.string workB] 9 (0,0)) by rw [←hw7,←hgs];exact heap_alloc_new w6 _)
  have Zp:=Qa ((mb.block G (H6.out.lt (.inr rfl))).trans Yx.out)
  have H7:=Qa (show cb.Sys w w7 [KB w P1 (upJ 0) r 0,KD w D1 R1 (upJ 0) r,KB w P2 L 65536 1000,KD w D2 R2 L 65536] (fun b=>(b<w.heap.size∨b=G)∨b=gs) from
    H6.out.box mb (fun b hb=>hb.imp id fun e=>by rw [e,←hgs,←hw7,World.size_alloc];omega))
  unfold upB workB at hw7
  clear mb H5 Qi H6 Yx
  go_upto_region 8 with fail
  try rw [hw6]
  try rw [hw7]
  try rw [hgs]
  clear hw6 hw7 hgs g0 g1 g2 g3 f1 f3
  go_loopg [73] 2 (fun gh s73 wr=>∃(j:Nat),gh+j=2∧s73=.int .i64 j∧Hid (cb.Sys w wr [KB w P1 (upJ j) r j,KD w D1 R1 (upJ j) r,KB w P2 L 65536 1000,KD w D2 R2 L 65536] (fun b=>(b<w.heap.size∨b=G)∨b=gs))∧Hid (Same (fun b=>(b<w.heap.size∨b=G)∨b=gs) w7 wr))
  case atStart=>exact ⟨0,by omega,rfl,H7,Qa fun _ _=>rfl⟩
  case round =>
    obtain ⟨j,hgj,rfl,HJ,HS⟩:=hrel
    have Qh:=Qa ((HS.out G (.inl (.inr rfl))).trans Zp.out)
    have g0:wr.cell? ⟨G,0,none⟩=some (Pq P1):=(Lib.cell_of_heap Qh.out 0).trans rfl
    have g2:wr.cell? ⟨G,2,none⟩=some (Pq D1):=(Lib.cell_of_heap Qh.out 2).trans rfl
    by_cases hj:j<2
    · have pc:wr.cell? ⟨gs,j,none⟩=some (.string (nmJ j)):=by
        refine (World.cell?_of_block (a:=⟨gs,j,none⟩) (HS.out gs (.inr rfl))).trans ((Lib.cell_of_heap Yy.out j).trans ?_)
        have:j=0∨j=1:=by omega
        rcases this with rfl|rfl <;> rfl
      have Qo:=Qa (cs_make (i:=0) HJ.out rfl (by omega) 1 (nmJ j) 2 ⟨#[]⟩ (nmJ_le j) (by decide))
      rw [upJ_succ hj] at Qo
      generalize hnm:nmJ j=nm at *
      go_wp2_with fail
      refine Qo.out.mono ?_
      rintro _ w8 ⟨rfl,h8,hs8⟩
      have Xh:=Qa ((hs8 G (.inl (.inr rfl))).trans Qh.out)
      have g0:w8.cell? ⟨G,0,none⟩=some (Pq P1):=(Lib.cell_of_heap Xh.out 0).trans rfl
      have g2:w8.cell? ⟨G,2,none⟩=some (Pq D1):=(Lib.cell_of_heap Xh.out 2).trans rfl
      have Xa:=Qa (ds_make (i:=1) h8 rfl (upJ_good r j) Xz.out (upJ_hb j) 1 (nmJ j) 2 ⟨#[]⟩ (nmJ_le j) (by decide))
      rw [upJ_succ hj,hnm] at Xa
      have Zq:=Qa (same_trans HS.out hs8)
      clear h8 hs8 Qo pc
      go_wp2_with fail
      refine Xa.out.mono ?_
      rintro _ w9 ⟨rfl,h9,hs9⟩
      have H9:=Qa h9
      have Zr:=Qa (same_trans Zq.out hs9)
      clear h9 hs9 Xa g0 g2
      go_wp2_with fail
      go_roundg (gk - 1)
      case measure=>omega
      case rel=>exact ⟨j+1,by omega,by go_num,H9,Zr⟩
    · obtain rfl:j=2:=by omega
      clear hgj hj
      have X8:=Qa (show cb.Sys w wr [KB w P1 S0 r 2,KD w D1 R1 S0 r,KB w P2 L 65536 1000,KD w D2 R2 L 65536] (fun b=>b<w.heap.size∨b=G) from HJ.out.sub fun b hb=>.inl hb)
      clear HS HJ g0 g2 H7 Yy
      have Yz:=Qh
      clear Qh
      go_wp2_with fail
      refine (Xv.out _ _ wr X8.out (Yt.out wr _ X8.out.bel fun b hb=>.inl hb)).mono ?_
      rintro e w10 ⟨ya,⟨err,e0,ht,rfl,h10⟩|⟨D3,R3,OV,ht,rfl,h10,hg10,hh10⟩⟩
      · have HF:=Qa (Xw.out w10 h10.bel fun e=>by rw [e] at ht;exact nomatch ht)
        have q1:(err != 0)=true:=by simpa using e0
        clear e0 ht h10
        go_wp2_with fail
        exact HF.out
      have X9:=Qa (show cb.Sys w w10 [KB w P1 S0 r 2,KD w D1 R1 S0 r,KB w P2 L 65536 1000,KD w D2 R2 L 65536,KD w D3 R3 OV 65536] (fun b=>b<w.heap.size∨b=G) from h10)
      have Q4:=Qa hg10
      have Y0:=Qa (show upper=[]→OV=fresh from fun e=>by rw [e] at ht;exact (Option.some.inj ht).symm)
      have Y1:=Qa ((ya G (.inr rfl)).trans Yz.out)
      clear h10 hg10 hh10 ya ht Xv X8 Yt Yz
      go_wp2_with fail
      refine (Ys.out _ _ w10 X9.out).mono ?_
      rintro _ w11 ⟨D4,R4,rfl,h11,b11⟩
      have Q5:=Qa (show cb.Sys w w11 [KB w P1 S0 r 2,KD w D1 R1 S0 r,KB w P2 L 65536 1000,KD w D2 R2 L 65536,KD w D3 R3 OV 65536,KD w D4 R4 fresh 0] (fun b=>b<w.heap.size∨b=G) from h11)
      have Y2:=Qa ((b11.block G (X9.out.lt (.inr rfl))).trans Y1.out)
      have Ya:=Qa (show Vd w11 D3 D4 OV fresh from ⟨cb.Sys.ask Q5.out (i:=4) rfl fun O k=>by obtain ⟨pl,tg,hd,_⟩:=k;exact ⟨_,_,pl,tg,65536,hd,Q4.out⟩,cb.Sys.ask Q5.out (i:=5) rfl fun O k=>by obtain ⟨pl,tg,hd,_⟩:=k;exact ⟨_,_,pl,tg,0,hd,br.Good.fresh 0⟩⟩)
      have Yb:=Qa (fl.rof_any (u:=1) (l:=1) Ya.out Q4.out (br.Good.fresh 0) fun n=>fl.allV_ex Q4.out.1 (br.Good.fresh 0).1 n)
      unfold fl.BelE at Yb
      clear h11 b11 Ys X9 Y1 Ya
      go_wp2_with fail
      refine Yb.out.mono ?_
      rintro _ w12 ⟨A',cc,rfl,hlo,hb12⟩
      obtain ⟨A2,c3,he3,hlx,hc1,hc2⟩:=LO.lx hlo
      injection he3 with ea eb ec
      subst ea ec
      obtain ⟨ra,hra⟩:∃g,w11.heap.size=g:=⟨_,rfl⟩
      obtain ⟨M,hM⟩:∃g,w12.heap.size=g:=⟨_,rfl⟩
      have Y3:=Qa ((hb12.block G (Q5.out.lt (.inr rfl))).trans Y2.out)
      have Y4:=Qa (show cb.Sys w w12 [KB w P1 S0 r 2,KB w P2 L 65536 1000,KD w D1 R1 S0 r,KD w D2 R2 L 65536] (fun b=>(b<w.heap.size∨b=G)∨(ra≤b∧b<M)) from
        Sys.perm (Q5.out.box hb12 fun b hb=>hb.imp id fun e=>by rw [hra,hM];exact e) (fun i=>if i=1 then 2 else if i=2 then 1 else i) (fun i j hi hj e=>by revert e;split <;> split <;> (try split) <;> (try split) <;> omega)
          fun i s hi=>by
            match i,hi with
            | 0,hi=>exact hi
            | 1,hi=>exact hi
            | 2,hi=>exact hi
            | 3,hi=>exact hi)
      have Xb:=Qa (show G<ra by rw [←hra];exact Q5.out.lt (.inr rfl))
      have Yc:=Qa (show w.heap.size≤ra by rw [←hra];exact Q5.out.bel.size)
      rw [hra,hM] at hlx
      have Qv:=Qa (show ra≤M by rw [←hra,←hM];exact hb12.size)
      obtain ⟨Z,hZ⟩:∃Z,linesZ OV fresh 202 (mg.rootV OV fresh 1 1) ⟨#[]⟩=Z:=⟨_,rfl⟩
      have Y6:=Qa (show OkAll [] Z by rw [←hZ];exact fl.top_ok Q4.out.1 (br.Good.fresh 65536).1 _)
      have Y7:=Qa (lines_ok Q4.out)
      have Xc:=Qa (lines_many Q4.out)
      have Yd:=Qa (show upper=[]→ofV OV fresh 1 1=[] from fun e=>by rw [Y0.out e];exact lines_none)
      have jb:Z.map Zn.ln=ofV OV fresh 1 1:=by rw [←hZ,linesZ_ln];rfl
      generalize ofV OV fresh 1 1=X at *
      have Y8:=Qa jb
      obtain ⟨m,hm⟩:∃m,X.length=m:=⟨_,rfl⟩
      rw [hm] at hc1 Xc ⊢
      have Y9:=Qa hm
      have Zt:=Qa (show Z.length=m by rw [←hm,←jb,List.length_map])
      have Za:=Qa hlx
      -- the map
      obtain ⟨w13,hw13⟩:∃w13,w12.alloc (.map #[] 0)=w13:=⟨_,rfl⟩
      have xc:(Instr.makeMap 179 none).run Tryz.prog w12=.ok (.map (some M)) w13:=by rw [←hw13,←hM];rfl
      have ma13:MapZ w13 M 0 (fun _=>none):=by rw [←hw13,←hM];exact MapZ.made w12
      have b13:Below w12.heap.size w12 w13:=by rw [←hw13];exact bel_alloc _ _
      have pb:w13.heap.size=M+1:=by rw [←hw13,←hM,World.size_alloc]
      obtain ⟨w14,hi14,ma14,g14⟩:=ma13.put (by decide) (a:=⟨#[]⟩) (by decide) 2
      obtain ⟨Y,hY⟩:∃Y:Nat→Prop,(fun b=>((b<w.heap.size∨b=G)∨(ra≤b∧b<M))∨b=M)=Y:=⟨_,rfl⟩
      have Qb:=Qa (show Y G∧Y M∧(∀b,ra≤b→b<M→Y b)∧(∀b,Y b→b≤M)∧(∀b,b<w.heap.size→Y b) by
        rw [←hY]
        exact ⟨.inl (.inl (.inr rfl)),.inr rfl,fun b h1 h2=>.inl (.inr ⟨h1,h2⟩),fun b hb=>by have:=Xb.out;have:=Qv.out;have:=Yc.out;rcases hb with ((h|h)|h)|h <;> omega,fun b hb=>.inl (.inl (.inl hb))⟩)
      have Zb:=Qa (show cb.Sys w w14 [KB w P1 S0 r 2,KB w P2 L 65536 1000,KD w D1 R1 S0 r,KD w D2 R2 L 65536] Y from
        (Y4.out.box (Y:=Y) b13 fun b hb=>by rw [←hY] at hb;exact hb.imp id fun e=>by rw [hM,pb];omega).turn (only_grown g14) (fun b hb=>by cases hb;exact ⟨Qb.out.2.1,by have:=Qv.out;have:=Yc.out;omega⟩) fun b hb=>.inl hb)
      have Xi:=Qa (show w14.heap[G]?=some (.cells #[Pq P1,Pq P2,Pq D1,Pq D2,.pointer none,.pointer none] 83 (0,0)) from
        (g14.block G (by have:=Xb.out;have:=Qv.out;omega) (by intro e;injection e with e;have:=Xb.out;have:=Qv.out;omega)).trans ((b13.block G (by rw [hM];have:=Xb.out;have:=Qv.out;omega)).trans Y3.out))
      have Qw:=Qa (show LX w14 (fun b=>Y b∧b≠M) A' X from
        (LX.same (Za.out.sub (Y:=fun b=>Y b∧b≠M) fun b hb=>⟨Qb.out.2.2.1 b hb.1 hb.2,by omega⟩) fun b hb=>by
          have hlt:=Qb.out.2.2.2.1 b hb.1
          exact (g14.block b (by omega) (by intro e;injection e with e;exact hb.2 e)).trans (b13.block b (by have:=hb.2;omega))))
      have Zc:=Qa (show MapZ w14 M (0+1) (zput (fun _=>none) ⟨#[]⟩ 2) from ma14)
      clear hlo hb12 hlx Yb Y2 Q5 Y3 Y4 ma13 b13 g14 ma14 hZ jb hm Za hY hra Q4 Y0
      go_upto_region 19 with fail
      clear hw13 xc hi14
      go_loopg [105] m (fun gh s105 wr=>∃(j:Nat) (S Sd:BS) (T Sz:Nat) (f:ByteArray→Option Int),gh+j=m∧s105=.int .i64 j∧Hid (cb.Sys w wr [KB w P1 S r T,KB w P2 L 65536 1000,KD w D1 R1 Sd r,KD w D2 R2 L 65536] Y)∧Hid (Same (fun b=>Y b∧b≠M) w14 wr)∧Hid (MapZ wr M Sz f) ∧
        Hid (Sz≤1+j∧T≤2+2*j)∧Hid (∀a v,f a=some v→v≠3)∧Hid (Bg S∧Bg Sd)∧Hid (HB Sd 0∧br.Good Sd r)∧Hid (j=0→S=S0))
      case atStart=>exact ⟨0,S0,S0,2,0+1,_,by omega,rfl,Zb,Qa fun _ _=>rfl,Zc,Qa ⟨by omega,by omega⟩,Qa (zput_ne (fun a v h=>nomatch h) (by decide)),Qa ⟨Bg.start,Bg.start⟩,Qa ⟨upJ_hb 2,upJ_good r 2⟩,Qa fun _=>rfl⟩
      case round =>
        obtain ⟨j,S,Sd,T,Sz,f,hgj,rfl,HQ,HS,Ye,Xx,Yf,Qp,Qx,Zd⟩:=hrel
        have Qh:=Qa ((HS.out G ⟨Qb.out.1,by have:=Xb.out;have:=Qv.out;omega⟩).trans Xi.out)
        by_cases hj:j<m
        · have Xd:=Qa hj
          obtain ⟨z,hz⟩:∃z,Z[j]?=some z:=⟨Z[j]'(by rw [Zt.out];exact hj),List.getElem?_eq_getElem _⟩
          have hx:X[j]?=some z.ln:=by rw [←Y8.out,List.getElem?_map,hz];rfl
          have Zu:=Qa (show upper=[]→treeF 65536 fresh lower=none from fun e=>by
            have h0:=Yd.out e
            rw [h0] at hx;cases hx)
          obtain ⟨bb,off,hA,hbY,k0,k1,k2⟩:=(Qw.out.same HS.out) j _ hx
          subst hA
          have Yg:=Qa (Y6.out j z hz)
          have Xj:=Qa ((Y7.out z.ln (List.mem_of_getElem? hx)).data)
          clear hx hz hbY
          dsimp only [Zn.ln] at k0 k1 k2 Xj
          obtain ⟨pt,hpt⟩:∃b,z.path=b:=⟨_,rfl⟩
          obtain ⟨zk,hzk⟩:∃b,z.kind=b:=⟨_,rfl⟩
          obtain ⟨zd,hzd⟩:∃b,z.data=b:=⟨_,rfl⟩
          rw [hpt] at k0
          rw [hzk] at k1
          rw [hzd] at k2 Xj
          obtain ⟨qn,qa⟩:∃b,z.q.size=b:=⟨_,rfl⟩
          obtain ⟨sn,hsn⟩:∃b,z.s.size=b:=⟨_,rfl⟩
          have xb:pt.size=qn+1+sn:=by rw [←hpt,←qa,←hsn];exact fl.size3 _ _
          have fc:qn+1+sn≤30000:=by rw [←xb,←hpt];exact Yg.out.sz
          have Ze:=Qa (fun (g:Nat) (h:qn+g<pt.size)=>show ((((pt[qn+g]'h).toNat:Nat):Int) != 47)=decide (g≠0) by subst hpt;exact path_at Yg.out.ns qa h)
          have kc:=cut_q hpt qa xb
          have mc:=cut_s hpt qa xb
          obtain ⟨zq,hzq⟩:∃b,z.q=b:=⟨_,rfl⟩
          obtain ⟨zs,hzs⟩:∃b,z.s=b:=⟨_,rfl⟩
          rw [hzq] at kc qa
          rw [hzs] at mc hsn
          have Zf:=Qa (And.intro qa hsn)
          clear hpt hzk hzd hzq hzs Yg qa hsn
          -- the line's own box
          obtain ⟨gx,hgx⟩:∃g,wr.heap.size=g:=⟨_,rfl⟩
          obtain ⟨w15,hw15⟩:∃w15,wr.alloc (.cells #[.string pt,.int .i64 zk,.string zd] 104)=w15:=⟨_,rfl⟩
          have ma:Below wr.heap.size wr w15:=by rw [←hw15];exact bel_alloc _ _
          have Qd:=Qa (show w15.heap[gx]?=some (.cells #[.string pt,.int .i64 zk,.string zd] 104 (0,0)) by rw [←hw15,←hgx];exact heap_alloc_new wr _)
          have Zg:=Qa (HQ.out.box (Y:=fun b=>Y b∨b=gx) ma fun b hb=>hb.imp id fun e=>by rw [e,←hgx,←hw15,World.size_alloc];omega)
          have Zw:=Qa (show ∀b,Y b→b<gx from fun b hb=>by rw [←hgx];exact HQ.out.lt hb)
          have Yh:=Qa (show Same (fun b=>Y b∧b≠M) w14 w15 from same_trans HS.out fun b hb=>ma.block b (HQ.out.lt hb.1))
          have Qy:=Qa (Ye.out.below ma)
          have Q6:=Qa ((ma.block G (HQ.out.lt Qb.out.1)).trans Qh.out)
          have m0:w15.cell? ⟨gx,0,none⟩=some (.string pt):=(Lib.cell_of_heap Qd.out 0).trans rfl
          have m1:w15.cell? ⟨gx,1,none⟩=some (.int .i64 zk):=(Lib.cell_of_heap Qd.out 1).trans rfl
          have m2:w15.cell? ⟨gx,2,none⟩=some (.string zd):=(Lib.cell_of_heap Qd.out 2).trans rfl
          clear ma HQ HS Ye Qh
          go_upto_region 22 with fail
          try rw [hw15]
          try rw [hgx]
          clear hw15 hgx k0 k1 k2
          have qd:((pt.size:Nat):Int) - 1=((qn+sn:Nat):Int):=by omega
          go_loopg [21] sn (fun gh s21 wq=>wq=w15∧gh≤sn∧s21=.int .i64 (qn+gh))
          case atStart=>exact ⟨rfl,Nat.le_refl _,by go_num⟩
          case round =>
            obtain ⟨yb,hg,rfl⟩:=hrel
            replace yb:=yb.symm
            subst yb
            by_cases g0:gk=0
            case neg =>
              have rb:=Ze.out gk (by omega)
              rw [decide_eq_true g0] at rb
              go_wp2_with fail
              go_roundg (gk - 1)
              case measure=>omega
              case rel=>exact ⟨rfl,by omega,by go_num⟩
            subst g0
            have rb:((((pt[qn]'(by omega)).toNat:Nat):Int) != 47)=false:=(Ze.out 0 (by omega)).trans (by simp)
            have ja:zs.size≤9223372036854775807:=by have:=Zf.out;omega
            have da:zq.size≤maxLen:=by have:=Zf.out;unfold maxLen;omega
            have ga:pt.size≤maxLen:=by unfold maxLen;omega
            have jd:IntKind.i64.wrap ((qn:Int)+1)=(qn:Int)+1:=IntWalk.i64_in _ (by omega)
            have yd:¬(qn:Int)<0:=by omega
            obtain ⟨dv,hdv⟩:∃d,(f zq).getD 0=d:=⟨_,rfl⟩
            have fb:dv≠3:=by rw [←hdv];exact getD_ne Yf.out zq
            have Zh:=Qa (show ∀W,Same (fun b=>Y b∨b=gx) w15 W→MapZ W M Sz f from fun W hs=>Qy.out.of_block (hs M (.inl Qb.out.2.1)))
            have Xk:=Qa (show ∀W,Same (fun b=>Y b∨b=gx) w15 W→(W.cell? ⟨G,0,none⟩=some (Pq P1)∧W.cell? ⟨gx,0,none⟩=some (.string pt)∧W.cell? ⟨gx,1,none⟩=some (.int .i64 zk)∧(Instr.lookup 179 (.map (some M)) (.string zq) false).run Tryz.prog W=.ok (.int .i64 dv) W) ∧
                (W.cell? ⟨G,2,none⟩=some (Pq D1)∧W.cell? ⟨gx,0,none⟩=some (.string pt)∧W.cell? ⟨gx,1,none⟩=some (.int .i64 zk)∧(Instr.lookup 179 (.map (some M)) (.string zq) false).run Tryz.prog W=.ok (.int .i64 dv) W) from fun W hs=>by
              have hg:=(hs G (.inl Qb.out.1)).trans Q6.out
              have hx:=(hs gx (.inr rfl)).trans Qd.out
              have hl:=(Zh.out W hs).look da
              rw [hdv] at hl
              exact ⟨⟨(Lib.cell_of_heap hg 0).trans rfl,(Lib.cell_of_heap hx 0).trans rfl,(Lib.cell_of_heap hx 1).trans rfl,hl⟩,⟨(Lib.cell_of_heap hg 2).trans rfl,(Lib.cell_of_heap hx 0).trans rfl,(Lib.cell_of_heap hx 1).trans rfl,hl⟩⟩)
            have Zx:=Qa (show ∀W,Same (fun b=>Y b∨b=gx) w15 W→W.cell? ⟨gx,0,none⟩=some (.string pt)∧W.cell? ⟨gx,1,none⟩=some (.int .i64 zk)∧W.cell? ⟨gx,2,none⟩=some (.string zd)∧W.cell? ⟨G,0,none⟩=some (Pq P1)∧W.cell? ⟨G,2,none⟩=some (Pq D1) from fun W hs=>by
              have hg:=(hs G (.inl Qb.out.1)).trans Q6.out
              have hx:=(hs gx (.inr rfl)).trans Qd.out
              exact ⟨(Lib.cell_of_heap hx 0).trans rfl,(Lib.cell_of_heap hx 1).trans rfl,(Lib.cell_of_heap hx 2).trans rfl,(Lib.cell_of_heap hg 0).trans rfl,(Lib.cell_of_heap hg 2).trans rfl⟩)
            have yc:∃tg:ByteArray,tg.size≤65536∧((zk=3∧tg=zd)∨(zk≠3∧tg=⟨#[]⟩)):=by
              by_cases e:zk=3
              · exact ⟨zd,Xj.out,.inl ⟨e,rfl⟩⟩
              · exact ⟨⟨#[]⟩,by decide,.inr ⟨e,rfl⟩⟩
            obtain ⟨tg,htl,htc⟩:=yc
            have xa:tg.size≤9223372036854775807:=by omega
            have Yi:=Qa (cb.Sys.ask Zg.out (i:=0) rfl fun O k=>KB.good k)
            have Qo:=Qa (cs_make (i:=0) (Zg.out.below (Below.refl w15.heap.size w15).drew) rfl (by have:=Xx.out;have:=Xc.out;omega) dv zs zk tg ja xa)
            have Xl:=Qa (And.intro (Qp.out.1.make (s:=zs) (kind:=zk) (t:=tg) Yi.out fb) (make_ne3 (d:=dv) (s:=zs) (kind:=zk) (t:=tg) Qp.out.1 Yi.out))
            have Qn:=Qa (And.intro (Qp.out.2.make (s:=zs) (kind:=zk) (t:=tg) Qx.out.2 fb) (And.intro (Qx.out.1.make (by decide) dv zs zk tg) (Qx.out.2.make dv zs zk tg)))
            have Q7:=Qa (fun (e1:zk=1)=>show (Sd.make dv zs zk tg).1.1=0∨∃N:Nat,(Sd.make dv zs zk tg).1.1=(N:Int)∧1≤N∧N≤200∧((Sd.make dv zs zk tg).2.ino N).kind=1∧((Sd.make dv zs zk tg).2.ino N).body=abE by
              by_cases e:(Sd.make dv zs zk tg).1.2=0
              · obtain ⟨D,n,_,e2,hm,_⟩:=mk_of Qx.out.2 e
                exact .inr ⟨n,e2,hm.n1,hm.n2,by rw [hm.eN];exact e1,by rw [hm.eN];rfl⟩
              · exact .inl (make_no e).2)
            have Qj:=Qa (fun (W:World) (T':Nat) (S':BS) (h:cb.Sys w W [KB w P1 S' r T',KB w P2 L 65536 1000,KD w D1 R1 Sd r,KD w D2 R2 L 65536] (fun b=>Y b∨b=gx))=>ds_make (i:=2) (h.below (Below.refl W.heap.size W).drew) rfl Qx.out.2 Xz.out Qx.out.1 dv zs zk tg ja xa)
            obtain ⟨mk,hmk⟩:∃x,S.make dv zs zk tg=x:=⟨_,rfl⟩
            obtain ⟨md,hmd⟩:∃x,Sd.make dv zs zk tg=x:=⟨_,rfl⟩
            rw [hmk] at Qo Xl
            simp only [hmd] at Qn Q7 Qj
            obtain ⟨⟨n,hh⟩,S1⟩:=mk
            obtain ⟨⟨n',hh'⟩,Sd1⟩:=md
            dsimp only at Qo Xl Qn Q7 Qj
            have Zy:=Qa ga
            clear hmk hmd hdv fb htl xa ja da ga Qy Yi
            rcases htc with ⟨ba,htg⟩|⟨ba,htg⟩
            case' inl=>have q3:(zk == 3)=true:=by simpa using ba
            case' inr=>have q3:(zk == 3)=false:=by simpa using ba
            all_goals
              rw [htg] at Qo
              simp only [htg] at Qj
              clear htg ba
              go_upto_region 27 with fail
              clear m0 m1 m2 rb
              have S0:=(Xk.out w15.drew (fun _ _=>rfl)).1
              go_region_held3 (fun W=>W.cell? ⟨G,0,none⟩=some (Pq P1)∧W.cell? ⟨gx,0,none⟩=some (.string pt)∧W.cell? ⟨gx,1,none⟩=some (.int .i64 zk)∧(Instr.lookup 179 (.map (some M)) (.string zq) false).run Tryz.prog W=.ok (.int .i64 dv) W)
                (first|with_reducible exact S0|with_reducible exact S5|assumption|go_keep)
                (first
                  | (go_at_call 33;((with_reducible refine Qo.out.mono ?_);rintro _ w16 ⟨rfl,h16,hs16⟩;have Zi:=Qa (show cb.Sys w w16 [KB w P1 S1 r (T+1),KB w P2 L 65536 1000,KD w D1 R1 Sd r,KD w D2 R2 L 65536] (fun b=>Y b∨b=gx) from h16);have Qq:=Qa (show Same (fun b=>Y b∨b=gx) w15 w16 from fun b hb=>hs16 b hb);have S5:=(Xk.out w16 Qq.out).1;clear h16 hs16)))
              clear S0 S5 Qo
              have S0:=(Xk.out w16.drew (fun b hb=>Qq.out b hb)).2
              have Xa:=Qa (Qj.out w16 (T+1) S1 Zi.out)
              clear Qj
              go_wp2_with fail
              go_region_held3 (fun W=>W.cell? ⟨G,2,none⟩=some (Pq D1)∧W.cell? ⟨gx,0,none⟩=some (.string pt)∧W.cell? ⟨gx,1,none⟩=some (.int .i64 zk)∧(Instr.lookup 179 (.map (some M)) (.string zq) false).run Tryz.prog W=.ok (.int .i64 dv) W)
                (first|with_reducible exact S0|with_reducible exact S5|assumption|go_keep)
                (first
                  | (go_at_call 34;((with_reducible refine Xa.out.mono ?_);rintro _ w17 ⟨rfl,h17,hs17⟩;have Yj:=Qa (show cb.Sys w w17 [KB w P1 S1 r (T+1),KB w P2 L 65536 1000,KD w D1 R1 Sd1 r,KD w D2 R2 L 65536] (fun b=>Y b∨b=gx) from h17);have Qr:=Qa (show Same (fun b=>Y b∨b=gx) w15 w17 from fun b hb=>(hs17 b hb).trans (Qq.out b hb));have S5:=(Xk.out w17 Qr.out).2;clear h17 hs17)))
              clear S0 S5 Xa Zi Qq Xk kc mc
              by_cases hne:n=n'∧hh=hh'
              case neg =>
                have HF:=Qa (Xw.out w17 Yj.out.bel Zu.out)
                by_cases sa:n=n'
                · have qn1:(n != n')=false:=by simpa using sa
                  have qh1:(hh != hh')=true:=by simpa using fun e=>hne ⟨sa,e⟩
                  clear hne sa
                  go_wp2_with fail
                  exact HF.out
                · have qn1:(n != n')=true:=by simpa using sa
                  clear hne sa
                  go_wp2_with fail
                  exact HF.out
              obtain ⟨rfl,rfl⟩:=hne
              obtain ⟨x0,x1,x2,-,-⟩:=Zx.out w17 Qr.out
              obtain ⟨w18,hu18,mz18,g18⟩:=(Zh.out w17 Qr.out).put (by have:=Xx.out;have:=Xc.out;omega) Zy.out n
              have Yk:=Qa (show gx≠M from fun e=>by have:=Zw.out M Qb.out.2.1;omega)
              have Yl:=Qa (Yj.out.turn (Y:=fun b=>Y b∨b=gx) (only_grown g18) (fun b hb=>by cases hb;exact ⟨.inl Qb.out.2.1,by have:=Qv.out;have:=Yc.out;omega⟩) fun b hb=>.inl hb)
              have Qk:=Qa (show ∀b,(Y b∨b=gx)→b≠M→w18.heap[b]?=w15.heap[b]? from fun b hb hn=>(g18.block b (Yj.out.lt hb) (by intro e;injection e with e;exact hn e)).trans (Qr.out b hb))
              have Qz:=Qa (show MapZ w18 M (Sz+1) (zput f pt n) from mz18)
              clear mz18 g18
              go_upto_region 32 with fail
              clear x0 x1 x2 hu18
              have Q8:=Qa (show ∀W:World,(∀b,(Y b∨b=gx)→b≠M→W.heap[b]?=w15.heap[b]?)→W.cell? ⟨gx,1,none⟩=some (.int .i64 zk)∧(W.cell? ⟨G,0,none⟩=some (Pq P1)∧W.cell? ⟨gx,2,none⟩=some (.string zd))∧(W.cell? ⟨G,2,none⟩=some (Pq D1)∧W.cell? ⟨gx,2,none⟩=some (.string zd)) from fun W hs=>by
                have hg:=(hs G (.inl Qb.out.1) (by have:=Xb.out;have:=Qv.out;omega)).trans Q6.out
                have hx:=(hs gx (.inr rfl) Yk.out).trans Qd.out
                exact ⟨(Lib.cell_of_heap hx 1).trans rfl,⟨(Lib.cell_of_heap hg 0).trans rfl,(Lib.cell_of_heap hx 2).trans rfl⟩,⟨(Lib.cell_of_heap hg 2).trans rfl,(Lib.cell_of_heap hx 2).trans rfl⟩⟩)
              have x1:=(Q8.out w18 Qk.out).1
              have Zj:=Qa (show ∀(W:World) (S2 Sd2:BS) (T2:Nat),T2≤T+2→cb.Sys w W [KB w P1 S2 r T2,KB w P2 L 65536 1000,KD w D1 R1 Sd2 r,KD w D2 R2 L 65536] (fun b=>Y b∨b=gx)→(∀b,(Y b∨b=gx)→b≠M→W.heap[b]?=w15.heap[b]?)→MapZ W M (Sz+1) (zput f pt n)→Bg S2→Bg Sd2→HB Sd2 0→br.Good Sd2 r →
                  Hid (cb.Sys w W [KB w P1 S2 r T2,KB w P2 L 65536 1000,KD w D1 R1 Sd2 r,KD w D2 R2 L 65536] Y)∧Hid (Same (fun b=>Y b∧b≠M) w14 W)∧Hid (MapZ W M (Sz+1) (zput f pt n)) ∧
        Hid (Sz+1≤1+(j+1)∧T2≤2+2*(j+1))∧Hid (∀a v,zput f pt n a=some v→v≠3)∧Hid (Bg S2∧Bg Sd2)∧Hid (HB Sd2 0∧br.Good Sd2 r)∧Hid (j+1=0→S2=S0) from fun W S2 Sd2 T2 h1 h2 h3 h4 h5 h6 h7 h8 =>
                ⟨Qa (h2.sub fun b hb=>.inl hb),Qa fun b hb=>(h3 b (.inl hb.1) hb.2).trans (Yh.out b hb),Qa h4,Qa (by have:=Xx.out;omega),Qa (zput_ne Yf.out Xl.out.2),Qa ⟨h5,h6⟩,Qa ⟨h7,h8⟩,Qa fun e=>by omega⟩)
              by_cases e1:zk=1
              case neg =>
                have q1:(zk == 1)=false:=by simpa using e1
                have bc:j≤4000:=by have:=Xd.out;have:=Xc.out;omega
                go_wp2_with fail
                go_roundg (m - (j+1))
                case measure=>have:=Xd.out;omega
                case rel=>exact ⟨j+1,S1,Sd1,T+1,Sz+1,zput f pt n,by have:=Xd.out;omega,by go_num,Zj.out w18 S1 Sd1 (T+1) (by omega) Yl.out Qk.out Qz.out Xl.out.1 Qn.out.1 Qn.out.2.1 Qn.out.2.2⟩
              have Zz:=Qa e1
              have q1:(zk == 1)=true:=by simpa using e1
              clear e1
              go_wp2_with fail
              clear x1
              obtain ⟨c9,wc9,hcv,hd1,hd2,hbc,hltc,hfc⟩:=cb.conv_bytes w18.drew zd (by have:=Xj.out;omega)
              replace hcv:(convert 9 53 (.string zd)).run Tryz.prog w18.drew=.ok (.slice (some ⟨w18.heap.size,0,none⟩) zd.size c9) wc9:=hcv
              have Xm:=Qa (show cb.Sys w wc9 [KB w P1 S1 r (T+1),KB w P2 L 65536 1000,KD w D1 R1 Sd1 r,KD w D2 R2 L 65536] (fun b=>(Y b∨b=gx)∨b=w18.heap.size) from (Yl.out.below (Below.refl w18.heap.size w18).drew).box hbc fun b hb=>hb.imp id fun e=>by rw [e];exact ⟨Nat.le_refl _,hltc⟩)
              have HM:=Qa (cs_write (i:=0) Xm.out rfl n 0 (some ⟨w18.heap.size,0,none⟩) zd.size c9 (sF zd) (fun j hj=>⟨w18.heap.size,0,rfl,.inr rfl,hfc j hj⟩) hd1 hd2)
              have Qs:=Qa (show ∀b,(Y b∨b=gx)→wc9.heap[b]?=w18.heap[b]? from fun b hb=>hbc.block b (Yl.out.lt hb))
              have S0:=(Q8.out w18.drew (fun b hb hn=>Qk.out b hb hn)).2.1
              have S7:=(Q8.out wc9 (fun b hb hn=>(Qs.out b hb).trans (Qk.out b hb hn))).2.1
              clear hd1 hd2 hfc hltc hbc
              refine rh.region_T (S:=(fun W=>W.cell? ⟨G,0,none⟩=some (Pq P1)∧W.cell? ⟨gx,2,none⟩=some (.string zd))) (z:=9) (by kernel_rfl) ?_
              simp only [List.size_toArray,List.length_cons,List.length_nil,Nat.zero_add,Nat.reduceAdd]
              rw [show Array.replicate 9 false=#[false,false,false,false,false,false,false,false,false] from rfl]
              refine rh.take_T (i:=0) (Pq G) rfl (by kernel_rfl) (by kernel_rfl) (by kernel_rfl) (by kernel_rfl) (fun _ _ _ h=>h) (Or.inl ⟨by rfl,by intro w' hSw;(try dsimp only at hSw);go_simp⟩) S0 ?_
              simp only [Act.put,List.setIfInBounds_toArray,List.set_cons_zero,List.set_cons_succ]
              refine rh.take_T (i:=1) (.pointer (some ⟨G,0,none⟩)) rfl (by kernel_rfl) (by kernel_rfl) (by kernel_rfl) (by kernel_rfl) (fun _ _ _ h=>h) (Or.inl ⟨by rfl,by intro w' hSw;(try dsimp only at hSw);go_simp⟩) S0 ?_
              simp only [Act.put,List.setIfInBounds_toArray,List.set_cons_zero,List.set_cons_succ]
              refine rh.take_T (i:=2) (.pointer (some ⟨G,0,none⟩)) rfl (by kernel_rfl) (by kernel_rfl) (by kernel_rfl) (by kernel_rfl) (fun _ _ _ h=>h) (Or.inl ⟨by rfl,by intro w' hSw;(try dsimp only at hSw);go_simp⟩) S0 ?_
              simp only [Act.put,List.setIfInBounds_toArray,List.set_cons_zero,List.set_cons_succ]
              refine rh.take_T (i:=3) (Pq P1) rfl (by kernel_rfl) (by kernel_rfl) (by kernel_rfl) (by kernel_rfl) (fun _ _ _ h=>h) (Or.inl ⟨by rfl,by intro w' hSw;(try dsimp only at hSw);go_simp⟩) S0 ?_
              simp only [Act.put,List.setIfInBounds_toArray,List.set_cons_zero,List.set_cons_succ]
              refine rh.take_T (i:=4) (.int .i64 n) rfl (by kernel_rfl) (by kernel_rfl) (by kernel_rfl) (by kernel_rfl) (fun _ _ _ h=>h) (Or.inl ⟨by rfl,by intro w' hSw;(try dsimp only at hSw);go_simp⟩) S0 ?_
              simp only [Act.put,List.setIfInBounds_toArray,List.set_cons_zero,List.set_cons_succ]
              refine rh.take_T (i:=5) (.pointer (some ⟨gx,2,none⟩)) rfl (by kernel_rfl) (by kernel_rfl) (by kernel_rfl) (by kernel_rfl) (fun _ _ _ h=>h) (Or.inl ⟨by rfl,by intro w' hSw;(try dsimp only at hSw);go_simp⟩) S0 ?_
              simp only [Act.put,List.setIfInBounds_toArray,List.set_cons_zero,List.set_cons_succ]
              refine rh.take_T (i:=6) (.string zd) rfl (by kernel_rfl) (by kernel_rfl) (by kernel_rfl) (by kernel_rfl) (fun _ _ _ h=>h) (Or.inl ⟨by rfl,by intro w' hSw;(try dsimp only at hSw);go_simp⟩) S0 ?_
              simp only [Act.put,List.setIfInBounds_toArray,List.set_cons_zero,List.set_cons_succ]
              refine rh.step_T (i:=7) (by kernel_rfl) rfl fun K hK=>?_
              go_simp
              refine hK.out _ _ (.inr S7) ?_
              clear hK K
              simp only [Act.put,List.setIfInBounds_toArray,List.set_cons_zero,List.set_cons_succ]
              refine rh.step_T (i:=8) (by kernel_rfl) rfl fun K hK=>?_
              go_simp
              go_at_call 39
              with_reducible refine HM.out.mono ?_
              rintro _ w19 ⟨⟨zp,ze,S2⟩,hw,rfl,h19,hs19⟩
              dsimp only at hw h19
              have Z0:=Qa hw
              have Zk:=Qa (show cb.Sys w w19 [KB w P1 S2 r (T+2),KB w P2 L 65536 1000,KD w D1 R1 Sd1 r,KD w D2 R2 L 65536] (fun b=>Y b∨b=gx) from h19.sub fun b hb=>.inl hb)
              have Qt:=Qa (show ∀b,(Y b∨b=gx)→b≠M→w19.heap[b]?=w15.heap[b]? from fun b hb hn=>(hs19 b (.inl hb)).trans ((Qs.out b hb).trans (Qk.out b hb hn)))
              have Xn:=Qa (Qz.out.of_block ((hs19 M (.inl (.inl Qb.out.2.1))).trans (Qs.out M (.inl Qb.out.2.1))))
              have S9:=(Q8.out w19 Qt.out).2.1
              clear hw h19 hs19
              go_wp2_with fail
              refine hK.out _ _ (.inr S9) ?_
              clear hK K
              refine rh.done_T (by kernel_rfl) ?_
              clear S0 S7 S9 HM hcv Xm Qs
              obtain ⟨c8,wc8,hcv,hd1,hd2,hbc,hltc,hfc⟩:=cb.conv_bytes w19.drew zd (by have:=Xj.out;omega)
              replace hcv:(convert 9 53 (.string zd)).run Tryz.prog w19.drew=.ok (.slice (some ⟨w19.heap.size,0,none⟩) zd.size c8) wc8:=hcv
              have Xm:=Qa (show cb.Sys w wc8 [KB w P1 S2 r (T+2),KB w P2 L 65536 1000,KD w D1 R1 Sd1 r,KD w D2 R2 L 65536] (fun b=>(Y b∨b=gx)∨b=w19.heap.size) from (Zk.out.below (Below.refl w19.heap.size w19).drew).box hbc fun b hb=>hb.imp id fun e=>by rw [e];exact ⟨Nat.le_refl _,hltc⟩)
              have HM:=Qa (ds_writeM (i:=2) Xm.out rfl Qn.out.2.2 Xz.out (Q7.out Zz.out) (some ⟨w19.heap.size,0,none⟩) zd.size c8 (sF zd) (fun j hj=>⟨w19.heap.size,0,rfl,.inr rfl,hfc j hj⟩) hd1 hd2)
              have Qs:=Qa (show ∀b,(Y b∨b=gx)→wc8.heap[b]?=w19.heap[b]? from fun b hb=>hbc.block b (Zk.out.lt hb))
              have S0:=(Q8.out w19.drew (fun b hb hn=>Qt.out b hb hn)).2.2
              have S7:=(Q8.out wc8 (fun b hb hn=>(Qs.out b hb).trans (Qt.out b hb hn))).2.2
              clear hd1 hd2 hfc hltc hbc
              go_wp2_with fail
              refine rh.region_T (S:=(fun W=>W.cell? ⟨G,2,none⟩=some (Pq D1)∧W.cell? ⟨gx,2,none⟩=some (.string zd))) (z:=9) (by kernel_rfl) ?_
              simp only [List.size_toArray,List.length_cons,List.length_nil,Nat.zero_add,Nat.reduceAdd]
              rw [show Array.replicate 9 false=#[false,false,false,false,false,false,false,false,false] from rfl]
              refine rh.take_T (i:=0) (Pq G) rfl (by kernel_rfl) (by kernel_rfl) (by kernel_rfl) (by kernel_rfl) (fun _ _ _ h=>h) (Or.inl ⟨by rfl,by intro w' hSw;(try dsimp only at hSw);go_simp⟩) S0 ?_
              simp only [Act.put,List.setIfInBounds_toArray,List.set_cons_zero,List.set_cons_succ]
              refine rh.take_T (i:=1) (.pointer (some ⟨G,0,none⟩)) rfl (by kernel_rfl) (by kernel_rfl) (by kernel_rfl) (by kernel_rfl) (fun _ _ _ h=>h) (Or.inl ⟨by rfl,by intro w' hSw;(try dsimp only at hSw);go_simp⟩) S0 ?_
              simp only [Act.put,List.setIfInBounds_toArray,List.set_cons_zero,List.set_cons_succ]
              refine rh.take_T (i:=2) (.pointer (some ⟨G,2,none⟩)) rfl (by kernel_rfl) (by kernel_rfl) (by kernel_rfl) (by kernel_rfl) (fun _ _ _ h=>h) (Or.inl ⟨by rfl,by intro w' hSw;(try dsimp only at hSw);go_simp⟩) S0 ?_
              simp only [Act.put,List.setIfInBounds_toArray,List.set_cons_zero,List.set_cons_succ]
              refine rh.take_T (i:=3) (Pq D1) rfl (by kernel_rfl) (by kernel_rfl) (by kernel_rfl) (by kernel_rfl) (fun _ _ _ h=>h) (Or.inl ⟨by rfl,by intro w' hSw;(try dsimp only at hSw);go_simp⟩) S0 ?_
              simp only [Act.put,List.setIfInBounds_toArray,List.set_cons_zero,List.set_cons_succ]
              refine rh.take_T (i:=4) (.int .i64 n) rfl (by kernel_rfl) (by kernel_rfl) (by kernel_rfl) (by kernel_rfl) (fun _ _ _ h=>h) (Or.inl ⟨by rfl,by intro w' hSw;(try dsimp only at hSw);go_simp⟩) S0 ?_
              simp only [Act.put,List.setIfInBounds_toArray,List.set_cons_zero,List.set_cons_succ]
              refine rh.take_T (i:=5) (.pointer (some ⟨gx,2,none⟩)) rfl (by kernel_rfl) (by kernel_rfl) (by kernel_rfl) (by kernel_rfl) (fun _ _ _ h=>h) (Or.inl ⟨by rfl,by intro w' hSw;(try dsimp only at hSw);go_simp⟩) S0 ?_
              simp only [Act.put,List.setIfInBounds_toArray,List.set_cons_zero,List.set_cons_succ]
              refine rh.take_T (i:=6) (.string zd) rfl (by kernel_rfl) (by kernel_rfl) (by kernel_rfl) (by kernel_rfl) (fun _ _ _ h=>h) (Or.inl ⟨by rfl,by intro w' hSw;(try dsimp only at hSw);go_simp⟩) S0 ?_
              simp only [Act.put,List.setIfInBounds_toArray,List.set_cons_zero,List.set_cons_succ]
              refine rh.step_T (i:=7) (by kernel_rfl) rfl fun K hK=>?_
              go_simp
              refine hK.out _ _ (.inr S7) ?_
              clear hK K
              simp only [Act.put,List.setIfInBounds_toArray,List.set_cons_zero,List.set_cons_succ]
              refine rh.step_T (i:=8) (by kernel_rfl) rfl fun K hK=>?_
              go_simp
              go_at_call 40
              with_reducible refine HM.out.mono ?_
              rintro _ w20 ⟨⟨yp,ye,Sd2⟩,hw,rfl,h20,hs20⟩
              dsimp only at hw h20
              have Ym:=Qa hw
              have Z1:=Qa (show cb.Sys w w20 [KB w P1 S2 r (T+2),KB w P2 L 65536 1000,KD w D1 R1 Sd2 r,KD w D2 R2 L 65536] (fun b=>Y b∨b=gx) from h20.sub fun b hb=>.inl hb)
              have Xo:=Qa (show ∀b,(Y b∨b=gx)→b≠M→w20.heap[b]?=w15.heap[b]? from fun b hb hn=>(hs20 b (.inl hb)).trans ((Qs.out b hb).trans (Qt.out b hb hn)))
              have Xp:=Qa (Xn.out.of_block ((hs20 M (.inl (.inl Qb.out.2.1))).trans (Qs.out M (.inl Qb.out.2.1))))
              have S9:=(Q8.out w20 Xo.out).2.2
              clear hw h20 hs20
              go_wp2_with fail
              refine hK.out _ _ (.inr S9) ?_
              clear hK K
              refine rh.done_T (by kernel_rfl) ?_
              clear S0 S7 S9 HM hcv Xm Qs
              have bc:j≤4000:=by have:=Xd.out;have:=Xc.out;omega
              go_wp2_with fail
              go_roundg (m - (j+1))
              case measure=>have:=Xd.out;omega
              case rel=>exact ⟨j+1,S2,Sd2,T+2,Sz+1,zput f pt n,by have:=Xd.out;omega,by go_num,Zj.out w20 S2 Sd2 (T+2) (by omega) Z1.out Xo.out Xp.out (Xl.out.1.write Z0.out) (Qn.out.1.write Ym.out) (by
                rcases Ym.out with ⟨_,_,_,e⟩|⟨_,_,_,_,e⟩
                · rw [e];exact Qn.out.2.1
                · rw [e];exact Qn.out.2.1.wrote _ _ _ _) (cb.Good_wr Qn.out.2.2 Ym.out)⟩
        · obtain rfl:j=m:=by omega
          have Yo:=Qa (HQ.out)
          have Ya:=Qa (show Vd wr D1 D2 Sd L from ⟨cb.Sys.ask HQ.out (i:=2) rfl fun O k=>by obtain ⟨pl,tg,hd,_⟩:=k;exact ⟨_,_,pl,tg,r,hd,Qx.out.2⟩,cb.Sys.ask HQ.out (i:=3) rfl fun O k=>by obtain ⟨pl,tg,hd,_⟩:=k;exact ⟨_,_,pl,tg,65536,hd,Yw.out⟩⟩)
          have Xg:=Qa (cb.Sys.ask HQ.out (i:=0) rfl fun O k=>(KB.brx k HQ.out.bel).forget)
          have Zl:=Qa (cnew_any (P2:=P2) (L:=L) (r2:=0) (T2:=0) (X2:=No) (Xg.out.below (Below.refl wr.heap.size wr).drew) 2 1 3 (by decide) Qp.out.1.kind2 Qp.out.1.kind3)
          have E0:wr.drew.cell? ⟨G,0,none⟩=some (Pq P1)∧wr.drew.cell? ⟨G,1,none⟩=some (Pq P2):=⟨(Lib.cell_of_heap Qh.out 0).trans rfl,(Lib.cell_of_heap Qh.out 1).trans rfl⟩
          have Xq:=Qa (HQ.out.lt Qb.out.1)
          have Z2:=Qa (show upper=[]→S=S0 from fun e=>Zd.out (by have h0:=Yd.out e;rw [←Y9.out,h0];rfl))
          clear hgj HQ HS Ye Yf Zd Zc Xi Qw Y7 Y6 Y8 Yd Y9 Zb
          go_wp2_with fail
          go_region_held3 (fun W=>W.cell? ⟨G,0,none⟩=some (Pq P1)∧W.cell? ⟨G,1,none⟩=some (Pq P2))
            (first|with_reducible exact E0|with_reducible exact E5|with_reducible exact ET|assumption|go_keep)
            (first
              | (go_at_call 113;((with_reducible refine Zl.out.mono ?_);rintro _ w16 ⟨C,V,rfl,hb16,jc,hV2,hC1,hC2,hCV,hcx,hch⟩;have Qe:=Qa ((hb16.block G Xq.out).trans Qh.out);have Xr:=Qa (show Below wr.heap.size wr w16 from (Below.refl wr.heap.size wr).drew.trans hb16);have Zm:=Qa hcx;have Q2:=Qa (show wr.heap.size≤V∧V<w16.heap.size∧wr.heap.size≤C∧C<w16.heap.size∧C≠V from ⟨jc,hV2,hC1,hC2,hCV⟩);have E5:w16.cell? ⟨G,0,none⟩=some (Pq P1)∧w16.cell? ⟨G,1,none⟩=some (Pq P2):=⟨(Lib.cell_of_heap Qe.out 0).trans rfl,(Lib.cell_of_heap Qe.out 1).trans rfl⟩;have t4:w16.cell? ⟨G,4,none⟩=some (.pointer none):=(Lib.cell_of_heap Qe.out 4).trans rfl;have f4:w16.frozen? ⟨G,4,none⟩=false:=Lib.frozen_of_heap Qe.out 4;have Qf:=Qa (show (w16.setCell ⟨G,4,none⟩ (Pq C)).heap[G]?=some (.cells #[Pq P1,Pq P2,Pq D1,Pq D2,Pq C,.pointer none] 83 (0,0)) from Lib.heap_setCell_same (i:=4) Qe.out (Pq C));have ET:(w16.setCell ⟨G,4,none⟩ (Pq C)).cell? ⟨G,0,none⟩=some (Pq P1)∧(w16.setCell ⟨G,4,none⟩ (Pq C)).cell? ⟨G,1,none⟩=some (Pq P2):=⟨(Lib.cell_of_heap Qf.out 0).trans rfl,(Lib.cell_of_heap Qf.out 1).trans rfl⟩;clear hb16 jc hV2 hC1 hC2 hCV hcx hch)))
          have Z5:=Qa (show ∀b,Y b→b<wr.heap.size from fun b hb=>Yo.out.lt hb)
          have Xs:=Qa (show Cx (w16.setCell ⟨G,4,none⟩ (Pq C)) ⟨C,V,P1,P2,2,1,3⟩ from Zm.out.same (Below.heap_setCell _ _ _ _ (show C≠G from fun e=>by have:=Q2.out;have:=Xq.out;omega)) (Below.heap_setCell _ _ _ _ (show V≠G from fun e=>by have:=Q2.out;have:=Xq.out;omega)))
          have Qc:=Qa (show cb.Sys w (w16.setCell ⟨G,4,none⟩ (Pq C)) [KB w P1 S r T,KB w P2 L 65536 1000,KD w D1 R1 Sd r,KD w D2 R2 L 65536] (fun b=>(b<w.heap.size∨b=G)∨b=C∨b=V) from
            (Yo.out.box (Y:=fun b=>(b<w.heap.size∨b=G)∨b=C∨b=V) Xr.out fun b hb=>by
              rcases hb with (h|h)|h|h
              · exact .inl (Qb.out.2.2.2.2 b h)
              · exact .inl (h▸Qb.out.1)
              · exact .inr (by rw [h];exact ⟨Q2.out.2.2.1,Q2.out.2.2.2.1⟩)
              · exact .inr (by rw [h];exact ⟨Q2.out.1,Q2.out.2.1⟩)).turn (only_set w16 G 4 _) (fun b hb=>by cases hb;exact ⟨.inl (.inr rfl),X4.out⟩) fun b hb=>.inl hb)
          clear E0 E5 ET t4 f4 Zl Xg Zm Qe Yo Qh
          have Z6:=Qa (show wr.heap.size≤w16.heap.size∧(w16.setCell ⟨G,4,none⟩ (Pq C)).heap.size=w16.heap.size from ⟨Xr.out.size,by simp⟩)
          generalize w16.setCell ⟨G,4,none⟩ (Pq C)=w17 at *
          have Q3:=Qa (show Vd w17 D1 D2 Sd L from ⟨cb.Sys.ask Qc.out (i:=2) rfl fun O k=>by obtain ⟨pl,tg,hd,_⟩:=k;exact ⟨_,_,pl,tg,r,hd,Qx.out.2⟩,cb.Sys.ask Qc.out (i:=3) rfl fun O k=>by obtain ⟨pl,tg,hd,_⟩:=k;exact ⟨_,_,pl,tg,65536,hd,Yw.out⟩⟩)
          have Zo:=Qa (rnew_any (Q3.out.below (Below.refl w17.heap.size w17).drew) 2 1 3 (by decide) Qp.out.2.kind2 Qp.out.2.kind3)
          have E0:w17.drew.cell? ⟨G,2,none⟩=some (Pq D1)∧w17.drew.cell? ⟨G,3,none⟩=some (Pq D2):=⟨(Lib.cell_of_heap Qf.out 2).trans rfl,(Lib.cell_of_heap Qf.out 3).trans rfl⟩
          go_wp2_with fail
          go_region_held3 (fun W=>W.cell? ⟨G,2,none⟩=some (Pq D1)∧W.cell? ⟨G,3,none⟩=some (Pq D2))
            (first|with_reducible exact E0|with_reducible exact E5|with_reducible exact ET|assumption|go_keep)
            (first
              | (go_at_call 115;((with_reducible refine Zo.out.mono ?_);rintro _ w18 ⟨R,rfl,hb18,hR1,hR2,hrx⟩;have Qg:=Qa ((hb18.block G (Qc.out.lt (.inl (.inr rfl)))).trans Qf.out);have Q9:=Qa (show Below w17.heap.size w17 w18 from (Below.refl w17.heap.size w17).drew.trans hb18);have Xe:=Qa hrx;have Xt:=Qa (And.intro (show w17.heap.size≤R from hR1) hR2);have E5:w18.cell? ⟨G,2,none⟩=some (Pq D1)∧w18.cell? ⟨G,3,none⟩=some (Pq D2):=⟨(Lib.cell_of_heap Qg.out 2).trans rfl,(Lib.cell_of_heap Qg.out 3).trans rfl⟩;have t4:w18.cell? ⟨G,5,none⟩=some (.pointer none):=(Lib.cell_of_heap Qg.out 5).trans rfl;have f4:w18.frozen? ⟨G,5,none⟩=false:=Lib.frozen_of_heap Qg.out 5;have Ql:=Qa (show (w18.setCell ⟨G,5,none⟩ (Pq R)).heap[G]?=some (.cells #[Pq P1,Pq P2,Pq D1,Pq D2,Pq C,Pq R] 83 (0,0)) from Lib.heap_setCell_same (i:=5) Qg.out (Pq R));have ET:(w18.setCell ⟨G,5,none⟩ (Pq R)).cell? ⟨G,2,none⟩=some (Pq D1)∧(w18.setCell ⟨G,5,none⟩ (Pq R)).cell? ⟨G,3,none⟩=some (Pq D2):=⟨(Lib.cell_of_heap Ql.out 2).trans rfl,(Lib.cell_of_heap Ql.out 3).trans rfl⟩;clear hb18 hR1 hR2 hrx)))
          have Yp:=Qa (show C<w17.heap.size∧V<w17.heap.size∧G<w17.heap.size from ⟨Qc.out.lt (.inr (.inl rfl)),Qc.out.lt (.inr (.inr rfl)),Qc.out.lt (.inl (.inr rfl))⟩)
          have Yq:=Qa (show Cx (w18.setCell ⟨G,5,none⟩ (Pq R)) ⟨C,V,P1,P2,2,1,3⟩ from Xs.out.same ((Below.heap_setCell _ _ _ _ (show C≠G from fun e=>by have:=Q2.out;have:=Xq.out;omega)).trans (Q9.out.block C Yp.out.1)) ((Below.heap_setCell _ _ _ _ (show V≠G from fun e=>by have:=Q2.out;have:=Xq.out;omega)).trans (Q9.out.block V Yp.out.2.1)))
          have Qm:=Qa (show Rx (w18.setCell ⟨G,5,none⟩ (Pq R)) R D1 D2 2 1 3 by
            have e:∀i,(w18.setCell ⟨G,5,none⟩ (Pq R)).cell? ⟨R,i,none⟩=w18.cell? ⟨R,i,none⟩:=fun i=>World.cell?_of_block (a:=⟨R,i,none⟩) (Below.heap_setCell _ _ _ _ (show R≠G from fun e=>by have:=Xt.out;have:=Yp.out;omega))
            exact ⟨(e 0).trans Xe.out.c0,(e 1).trans Xe.out.c1,(e 2).trans Xe.out.c2,(e 3).trans Xe.out.c3,(e 4).trans Xe.out.c4⟩)
          have Yr:=Qa (show cb.Sys w (w18.setCell ⟨G,5,none⟩ (Pq R)) [KB w P1 S r T,KB w P2 L 65536 1000,KD w D1 R1 Sd r,KD w D2 R2 L 65536] (fun b=>b<w.heap.size∨b=G∨b=C∨b=V∨b=R) from
            (Qc.out.box (Y:=fun b=>b<w.heap.size∨b=G∨b=C∨b=V∨b=R) Q9.out fun b hb=>by
              rcases hb with h|h|h|h|h
              · exact .inl (.inl (.inl h))
              · exact .inl (.inl (.inr h))
              · exact .inl (.inr (.inl h))
              · exact .inl (.inr (.inr h))
              · exact .inr (by rw [h];exact Xt.out)).turn (only_set w18 G 5 _) (fun b hb=>by cases hb;exact ⟨.inr (.inl rfl),X4.out⟩) fun b hb=>.inl hb)
          clear E0 E5 ET t4 f4 Zo Q3 Qc Xs Qf Qg Xe
          generalize w18.setCell ⟨G,5,none⟩ (Pq R)=w19 at *
          have g4:w19.cell? ⟨G,4,none⟩=some (Pq C):=(Lib.cell_of_heap Ql.out 4).trans rfl
          have g5:w19.cell? ⟨G,5,none⟩=some (Pq R):=(Lib.cell_of_heap Ql.out 5).trans rfl
          go_upto_region 38 with fail
          have HF:=Qa (fun (k:Nat)=>Yu.out (w19.drewN k) G ⟨C,V,P1,P2,2,1,3⟩ R D1 R1 D2 R2 S Sd L T
            ⟨⟨Yr.out.below (mg.bel_drewN w19 k),Yq.out.same rfl rfl,.inr (.inr (.inl rfl)),.inr (.inr (.inr (.inl rfl)))⟩,⟨Qm.out.c0,Qm.out.c1,Qm.out.c2,Qm.out.c3,Qm.out.c4⟩,Ql.out,rfl,rfl,rfl,Qp.out.1,Qp.out.2,by have:=Xx.out;have:=Xc.out;omega⟩ X7.out Z2.out)
          go_quiet (fail)
          go_wp2_with fail
          exact HF.out _
end cu
namespace cu
open Go.RowKit
open dn (En lget lset ldel nerr dotB Sorted)
open br (BS Ino Inv at_nat abE nameE fresh)
open bl (AB)
open cb (newI)
open mg (Nd opq kindV getV rootV belV)
open fl (Ln treeF)
set_option maxRecDepth 100000
abbrev za:ByteArray:=⟨#[97]⟩
abbrev zb:ByteArray:=⟨#[98]⟩
abbrev zc:ByteArray:=⟨#[99]⟩
abbrev zz:ByteArray:=⟨#[122]⟩
abbrev zxy:ByteArray:=⟨#[120,121]⟩
def zl2:List Ln:=[⟨⟨#[47,97]⟩,2,⟨#[]⟩⟩,⟨⟨#[47,97,47,98]⟩,1,zxy⟩]
def aL:BS:=(treeF 65536 fresh zl2).getD fresh
theorem aL_some:(treeF 65536 fresh zl2).isSome=true:=by decide +kernel
theorem aL_is:treeF 65536 fresh zl2=some aL:=by
 unfold aL
 cases h:treeF 65536 fresh zl2 with
 | some S=>rfl
 | none=>have:=aL_some;rw [h] at this;cases this
def aU:BS:=(descF aL S0 2 (rootV S0 aL 2 1) [za]).2
theorem aw_node:walkV S0 aL (rootV S0 aL 2 1) [za,zb]=((0,3),0):=by decide +kernel
theorem aw_desc1:(descF aL S0 2 (rootV S0 aL 2 1) [za]).1=(((4,(4,2)),0)):=by decide +kernel
theorem aw_desc:descF aL S0 2 (rootV S0 aL 2 1) [za]=(((4,(4,2)),0),aU):=Prod.ext aw_desc1 rfl
theorem aw_b:getV aU aL (4,2) zb=((0,3),0):=by decide +kernel
theorem aw_kb:kindV aU aL (0,3)=1:=by decide +kernel
theorem aw_mk:(aU.make 3 draft 1 ⟨#[]⟩).1.2=0:=by decide +kernel
theorem aw_c:getV aU aL (4,2) zc=((0,0),2):=by decide +kernel
theorem aw_z:getV aU aL (2,1) zz=((0,0),2):=by decide +kernel
theorem aw_c4:(aU.get 4 zc).2≠0:=by decide +kernel
theorem aw_a4:getV aU aL (2,1) za=((4,2),0):=by decide +kernel
theorem aw_k4:aU.kindOf 4=2:=by decide +kernel
theorem aw_k2:aU.kindOf 2=2:=by decide +kernel
theorem aw_i2:(aU.ino 2).kind=2:=by decide +kernel
theorem aw_used:aU.used=0:=by decide +kernel
theorem aw_size:(aL.ino 3).body.size=2:=by decide +kernel
theorem aw_text:bl.strF 2 (aL.ino 3).body.dat=zxy:=by decide +kernel
theorem aw_names:nameE zc=0:=by decide +kernel
theorem last_eq {p q:List ByteArray} {t s:ByteArray} (h:p++[t]=q++[s]):p=q∧t=s:=by
 have:=List.append_inj' h rfl
 exact ⟨this.1,by injection this.2⟩
theorem copyB_small {B:AB} (ok:B.Ok):(copyB B).n≤B.size:=by
 have h:bl.cnt 4096 (nz B)≤bl.cnt 4096 (fun k=>decide (k<B.size)):=bl.cnt_le fun k hk=>by
  rw [decide_eq_true_eq]
  apply Classical.byContradiction
  intro e
  unfold nz at hk
  have:allZ 16 (fun j=>B.dat (16*k+j))=true:=allZ_iff.2 fun j hj=>ok.dat _ (by omega)
  rw [this] at hk;cases hk
 refine Nat.le_trans h ?_
 by_cases e:B.size≤4096
 ·rw [fl.cnt_lt _ _ e];exact Nat.le_refl _
 ·exact Nat.le_trans (bl.cnt_max _ _) (by omega)
theorem aU_good:br.Good aU 9:=(desc_ok (L:=aL) (room:=9) [za] (((br.Good.fresh 9).make _ _ _ _).make _ _ _ _) (by decide +kernel) (by decide +kernel) (by decide +kernel)).1
theorem aw_up {v er:Int} {S':BS} (hL:br.Good aL 65536) (h:UpR 9 S0 aL 2 1 3 [za,zb] v er S'):er=0∧∃n:Nat,v=(n:Int)∧Mk aU S' 4 n zb (fileI (copyB (aL.ino 3).body)):=by
 rcases h with ⟨h,_⟩|⟨p,t,d,a,e1,S1,hp,hd,hc⟩
 ·cases h
 ·obtain ⟨rfl,rfl⟩:=last_eq (p:=[za]) (t:=zb) (q:=p) (s:=t) hp
  rw [aw_desc] at hd
  injection hd with hd1 hd2
  injection hd1 with hd3 hd4
  injection hd3 with hd5 hd6
  subst hd2 hd4 hd5 hd6
  rw [aw_b] at hc
  rcases hc with ⟨h,_⟩|⟨_,h,_⟩|⟨_,_,h,_⟩|⟨_,_,_,h,_⟩|⟨Y,_,h1,_,_,h2,_⟩|⟨Y,_,h1,_,_,h2,_,hc⟩
  ·exact absurd rfl h
  ·exact absurd rfl h
  ·rw [aw_kb] at h;cases h
  ·exact absurd rfl h
  ·injection h1 with h1 _;injection h1 with _ h1
   obtain rfl:Y=3:=by omega
   rw [show (aL.ino 3).kind=1 by decide +kernel] at h2;cases h2
  ·injection h1 with h1 _;injection h1 with _ h1
   obtain rfl:Y=3:=by omega
   rcases hc with ⟨rfl,D,n,e1,e2,hm⟩|⟨e0,_,_,(⟨_,e2⟩|e2)⟩
   ·obtain rfl:D=4:=by omega
    exact ⟨rfl,n,e2,hm⟩
   ·have h5:=copyB_small (hL.1.body 3)
    rw [aw_size] at h5
    rw [aw_used] at e2
    omega
   ·rw [aw_mk] at e2;exact absurd e2 e0
section
variable {S':BS} {n:Nat} {b:AB}
theorem aw_n4 (h:Mk aU S' 4 n zb (fileI b)):((4:Nat):Int)≠(n:Int)∧(2:Int)≠(n:Int) :=
 ⟨h.neN,fun e=>by
  have h1:=h.hz
  have h2:n=2:=by omega
  rw [h2,aw_i2] at h1;cases h1⟩
theorem aw_root2 (h:Mk aU S' 4 n zb (fileI b)):rootV S' aL 2 1=(2,1):=by
 rw [h.rootV (aw_n4 h).2];decide +kernel
theorem aw_chain (h:Mk aU S' 4 n zb (fileI b)):descF aL S' 2 (rootV S' aL 2 1) [za]=(((4,(4,2)),0),S'):=by
 rw [aw_root2 h]
 have g:getV S' aL (2,1) za=((4,2),0):=(h.grow (L:=aL) aU_good.1).got (2,1) (4,2) za aw_k2 aw_a4 (by decide)
 have k:S'.kindOf 4=2:=(h.grow (L:=aL) aU_good.1).dir 4 aw_k4
 exact Ch.again (S:=S') (L:=aL) (a:=((2,1):Nd)) (b:=((4,2):Nd)) (.cons g (by decide) k .nil)
theorem aw_hide {er:Int} {S2:BS} (h:Mk aU S' 4 n zb (fileI b)) (hh:HideR S' aL 2 1 [za,zc] er S2):er=0∧S2=S':=by
 rcases hh with ⟨h,_⟩|⟨p,t,hp,hc⟩
 ·cases h
 ·obtain ⟨rfl,rfl⟩:=last_eq (p:=[za]) (t:=zc) (q:=p) (s:=t) hp
  rcases hc with ⟨h1,_⟩|⟨_,d,a,e1,S1,hd,hc⟩
  ·exact absurd aw_names h1
  ·rw [aw_chain h] at hd
   injection hd with hd1 hd2
   injection hd1 with hd3 hd4
   injection hd3 with hd5 hd6
   subst hd2 hd4 hd5 hd6
   have g1:S'.get 4 zc=aU.get 4 zc:=h.get aU_good.1 (aw_n4 h).1 (fun e=>absurd e.2 (by decide))
   have g2:getV S' aL (4,2) zc=getV aU aL (4,2) zc:=h.getV aU_good.1 (aw_n4 h).1 (fun e=>absurd e.2 (by decide))
   rw [g1,g2] at hc
   rcases hc with ⟨h,_⟩|⟨_,h,_⟩|⟨_,_,_,h1,h2⟩|⟨_,_,h,_⟩
   ·exact absurd rfl h
   ·exact absurd h aw_c4
   ·exact ⟨h1,h2⟩
   ·rw [aw_c] at h;cases h
theorem aw_deep {v er:Int} {S2:BS} (h:Mk aU S' 4 n zb (fileI b)) (hh:UpR 9 S' aL 2 1 3 [zz] v er S2):er=2∧S2=S':=by
 rcases hh with ⟨h,_⟩|⟨p,t,d,a,e1,S1,hp,hd,hc⟩
 ·cases h
 ·obtain ⟨rfl,rfl⟩:=last_eq (p:=[]) (t:=zz) (q:=p) (s:=t) hp
  rw [aw_root2 h] at hd
  injection hd with hd1 hd2
  injection hd1 with hd3 hd4
  injection hd3 with hd5 hd6
  subst hd2 hd4 hd5 hd6
  have g2:getV S' aL (2,1) zz=getV aU aL (2,1) zz:=h.getV aU_good.1 (aw_n4 h).2 (fun e=>absurd e.2 (by decide))
  rw [g2,aw_z] at hc
  rcases hc with ⟨h,_⟩|⟨_,_,_,h1,h2⟩|⟨_,h,_⟩|⟨_,h,_⟩|⟨Y,_,h1,_⟩|⟨Y,_,h1,_⟩
  ·exact absurd rfl h
  ·exact ⟨h1,h2⟩
  ·cases h
  ·cases h
  ·injection h1 with _ h1;cases h1
  ·injection h1 with _ h1;cases h1
theorem aw_bg (h:Mk aU S' 4 n zb (fileI b)):Bg S':=by
 refine h.bg (by decide) (by show (1:Int)≤1;decide) ⟨aw_i2,by decide +kernel,⟨by decide,by decide,by decide +kernel,by decide +kernel,by decide⟩,by decide +kernel,by decide +kernel,fun k=>?_⟩
 by_cases hk:(aU.ino k).kind=2
 ·exact aU_good.1.single k hk
 ·by_cases h5:200<k
  ·rw [aU_good.1.out k (.inr h5)];decide
  ·have:∀k:Fin 201,(aU.ino k.val).links≤1:=by decide +kernel
   exact this ⟨k,by omega⟩
theorem aw_read (h:Mk aU S' 4 n zb (fileI (copyB (aL.ino 3).body))):cb.readI S' (n:Int) 0 9=(0,2)∧((S'.at (n:Int)).body.dat=(aL.ino 3).body.dat):=by
 have e:(S'.at (n:Int)).body=copyB (aL.ino 3).body:=by rw [at_nat,h.eN];rfl
 refine ⟨?_,by rw [e];rfl⟩
 unfold cb.readI
 rw [cb.fileE_of h.n1 h.n2 (by rw [h.eN];rfl),Ja (by decide),e]
 unfold bl.readR
 rw [Ja (by decide)]
 show ((0:Int),min (Int.toNat 9) ((aL.ino 3).body.size - Int.toNat 0))=(0,2)
 rw [aw_size];decide
end
end cu
namespace cu
open Go.RowKit Go.Deep
open br (BS Ino Inv at_nat abE nameE)
open cb (BrX RetW RetI No KB KD Res HB Stab NxR Same WrI Wz ReadI newI)
open bl (Pq Only U8 AB)
open mg (Vx Nd Nv Nb R2 R3 bel_step bel_alloc kindV getV rootV)
theorem deepE_any {w0 w:World} {c:Cp} {S L:BS} {r T W:Nat} {M:List Res} {X:Nat→Prop} (h:Zs w0 w c S L r T M X) {A:Option Addr} {l:List ByteArray} {cap:Nat} (hl:NL w X A l) (hn:l.length≤1000) (hcap:l.length≤cap) (hT:T≤600000)
  (hu:S.kindOf c.u=2) (hul:(S.at c.u).links≠0) (ho:Out S W) (hw:c.wk=(W:Int)) (hu1:c.u≠1) (huw:c.u≠c.wk) (hno:∀v er S',UpR r S L c.u c.l c.wk l v er S'→er≠0) :
  Calls Tryz.prog 51 #[Pq c.C,.slice A l.length cap] w (fun e w'=>∃(v er:Int) (S':BS),e=.returned (.tuple #[.int .i64 0,.int .i64 er])∧Zs w0 w' c S' L r (T+8000) M X∧Same X w w'∧UpR r S L c.u c.l c.wk l v er S'):=by
 have HU:=Qa (up_any h hl hn hcap hT hu hul ho hw hu1 huw)
 have Qb:=Qa hno
 unfold UpE at HU
 obtain ⟨m,hm⟩:∃m,l.length=m:=⟨_,rfl⟩
 rw [hm] at HU ⊢
 have HE:=Qa (show ∀(W:World) (v er:Int) (S':BS),Zs w0 W c S' L r (T+8000) M X→Same X w W→UpR r S L c.u c.l c.wk l v er S'→(fun e w'=>∃(v er:Int) (S':BS),e=.returned (.tuple #[.int .i64 0,.int .i64 er])∧Zs w0 w' c S' L r (T+8000) M X∧Same X w w'∧UpR r S L c.u c.l c.wk l v er S') (Ending.returned (.tuple #[.int .i64 0,.int .i64 er])) W from
  fun W v er S' a b d=>⟨v,er,S',rfl,a,b,d⟩)
 generalize (fun e w'=>∃(v er:Int) (S':BS),e=Ending.returned (.tuple #[.int .i64 0,.int .i64 er])∧Zs w0 w' c S' L r (T+8000) M X∧Same X w w'∧UpR r S L c.u c.l c.wk l v er S')=PQ at *
 clear h hl hn hcap hT hu hul ho hw hu1 huw hno hm
 go_enter Tryz.func51,Tryz.ntmps51
 go_wp2_with fail
 refine HU.out.mono ?_
 rintro _ w2 ⟨v,er,S',rfl,hz,hs,hr⟩
 have he:=Qb.out v er S' hr
 have HF:=Qa (HE.out w2 v er S' hz hs hr)
 have q1:(er != 0)=true:=by simpa using he
 clear hz hs hr he HU
 go_wp2_with fail
 exact HF.out
theorem cnew_nil (w:World) (u l wk:Int):Calls Tryz.prog 113 #[.pointer none,.pointer none,.int .i64 u,.int .i64 l,.int .i64 wk] w (fun e w'=>e=.returned (.pointer none)∧w'=w):=by
 go_enter Tryz.func113,Tryz.ntmps113
 go_wp2_with fail
 go_ret
 exact ⟨rfl,rfl⟩
end cu
end Go.Proofs.YtgoddboicjfkcaaGreat
