/- Part 51 of what is known of the program's functions and of the document's words: contracts, and the mathematics beneath them. -/
import Derived.Test.YtgoddboicjfkcaaGreatProg
import Derived.Test.YtgoddboicjfkcaaGreatZ50
set_option linter.unusedVariables false
set_option linter.unusedSimpArgs false
set_option maxRecDepth 100000
set_option maxHeartbeats 8000000
namespace Go.Proofs.YtgoddboicjfkcaaGreat.cu
open Go.RowKit Go.Deep
open br (BS Ino Inv at_nat abE nameE fresh)
open cb (BrX RetW RetI No KB KD Res HB Stab NxR Same WrI Wz ReadI newI)
open bl (Pq Only U8 AB cnt)
open mg (Vx Nd Nv Nb R2 R3 bel_step bel_alloc kindV getV rootV AwakeE)
open fl (Ln LR treeF bF)
theorem file_statU {S:BS} {n:Nat} (h1:1≤n) (h2:n≤200) (hk:(S.ino n).kind=1):S.stat (n:Int)=((1,(S.ino n).body.size,(S.ino n).links),0):=by
 rw [cb.stat_of h1 h2 (by rw [hk];decide),hk]
 unfold br.Ino.sizeOf
 rw [hk];rfl
theorem holes_any (data:ByteArray) (w:World):Calls Tryz.prog 11 #[.string data] w (AwakeE w):=by
 have HAW:=Lib.hid (awake_any w)
 unfold AwakeE at HAW
 have HF:=Lib.hid (show ∀ W:World,Below w.heap.size w W→AwakeE w (.returned (.bool true)) W from fun W h=>⟨rfl,h⟩)
 obtain ⟨PQ,hPQ⟩:∃ P,AwakeE w=P:=⟨_,rfl⟩
 rw [hPQ] at HF ⊢
 clear hPQ
 by_cases hs:data.size≤16384
 case neg =>
  have hs2:((data.size:Nat):Int) > 16384:=by omega
  have hs3:(16384:Int)<((data.size:Nat):Int):=by omega
  go_enter Tryz.func11,Tryz.ntmps11
  go_wp2_with fail
  refine HAW.out.mono ?_
  rintro _ w1 ⟨rfl,hb1⟩
  have HFF:=Lib.hid (HF.out w1 hb1)
  clear hb1
  go_wp2_with fail
  exact HFF.out
 have HHS:=Lib.hid hs
 have hs2:¬ (((data.size:Nat):Int) > 16384):=by omega
 have hs3:¬ ((16384:Int)<((data.size:Nat):Int)):=by omega
 go_enter Tryz.func11,Tryz.ntmps11
 go_wp2_with fail
 refine HAW.out.mono ?_
 rintro _ w1 ⟨rfl,hb1⟩
 have HB1:=Lib.hid hb1
 clear hb1 HAW
 obtain ⟨b,hb⟩:∃ b,w1.heap.size=b:=⟨_,rfl⟩
 obtain ⟨w2,hw2⟩:∃ w2,w1.alloc (.cells #[.string ⟨#[47,102]⟩,.int .i64 1,.string data] 104)=w2:=⟨_,rfl⟩
 have hh:w2.heap[b]?=some (.cells #[.string ⟨#[47,102]⟩,.int .i64 1,.string data] 104 (0,0)):=by rw [← hw2,← hb];exact heap_alloc_new w1 _
 have hb2:Below w1.heap.size w1 w2:=by rw [← hw2];exact bel_alloc _ _
 have hbs:b<w2.heap.size:=by rw [← hw2,← hb,World.size_alloc];omega
 have hlr:LR w2 w2.heap.size (some ⟨b,0,none⟩) [⟨⟨#[47,102]⟩,1,data⟩]:=fun j x hx=>by
  have c:=fun i=>Lib.cell_of_heap hh i
  match j,hx with
  | 0,hx=>injection hx with hx;subst hx;exact ⟨b,0,rfl,hbs,(c 0).trans rfl,(c 1).trans rfl,(c 2).trans rfl⟩
  | n+1,hx=>cases hx
 have HBG:=Lib.hid (begin_any (A:=none) (c1:=0) (c2:=1) (upper:=[]) (fun j x hx=>by cases hx) hlr (by decide) (by simp) (fun x hx=>nomatch hx) (fun x hx=>by
  rcases List.mem_cons.1 hx with rfl|hx
  ·dsimp only;omega
  ·cases hx) (r:=65536) (by decide))
 unfold BegE at HBG
 have HB2:=Lib.hid (bel_step HB1.out hb2)
 clear hh hbs hlr hb2 HB1
 go_wp2_with fail
 try rw [hw2]
 try rw [hb]
 clear hw2 hb
 refine HBG.out.mono ?_
 rintro _ w3 (⟨-,-,hne⟩|⟨G,c,R,D1,R1,D2,R2',S,Sd,L,T,rfl,hbg,htr,hs0⟩)
 ·have:=hne (by first|rfl|trivial)
  rw [h_tree hs] at this;cases this
 rw [h_tree hs] at htr
 injection htr with htr
 subst htr
 have hS:=hs0 (by first|rfl|trivial)
 subst hS
 have HZ:=Lib.hid hbg.z
 have HBX:=Lib.hid hbg.bx
 have HT:=Lib.hid hbg.T
 have HCU:=Lib.hid hbg.u
 have HCL:=Lib.hid hbg.l
 have HCW:=Lib.hid hbg.wk
 obtain ⟨X,hX⟩:∃ X:Nat→Prop,(fun b=>b<w2.heap.size∨b=G∨b=c.C∨b=c.V∨b=R)=X:=⟨_,rfl⟩
 have HXG:=Lib.hid (show X G by rw [← hX];exact .inr (.inl rfl))
 rw [hX] at HZ
 generalize [KD w2 D1 R1 Sd 65536,KD w2 D2 R2' (hL data) 65536]=M at *
 clear hbg hs0 HBG hX
 have HKB:=Lib.hid (show ∀ k j,j<16→bF data (16*k+j)≠0→nz (hB data) k=true from fun k j hj h=>nz_byte hj h)
 have HKZ:=Lib.hid (show ∀ k m,(∀ j,j<m→bF data (16*k+j)=0)→(m=16∨data.size≤16*k+m)→nz (hB data) k=false from fun k m h1 h2=>nz_none h1 h2)
 have HBY:=Lib.hid (show ∀ (i:Nat) (h:i<data.size),((((data[i]'h).toNat:Nat):Int) != 0)=decide (bF data i≠0) from fun i h=>byte_zero h)
 have HWA:=Lib.hid (show ∀ K,data.size≤16*K→K≤4096→cnt K (nz (hB data))=(copyB (hB data)).n from fun K h1 h2=>want_all HHS.out h1 h2)
 have HCS:=Lib.hid (fun k=>bl.cnt_succ k (nz (hB data)))
 have HCM:=Lib.hid (fun k=>bl.cnt_max k (nz (hB data)))
 generalize hnz:nz (hB data)=nzf at *
 clear hnz
 go_upto_region 10 with fail
 go_loopg [5,6,7] ((data.size+15) / 16) (fun gh s5 s6 s7 wr=>wr=w3∧∃ (k:Nat),gh+k=(data.size+15) / 16∧s6=.int .i64 ((16*k:Nat):Int)∧s5=.int .i64 ((cnt k nzf:Nat):Int))
 case atStart=>exact ⟨rfl,0,by omega,rfl,rfl⟩
 case round =>
  obtain ⟨hwr,k,hgk,rfl,rfl⟩:=hrel
  replace hwr:=hwr.symm
  subst hwr
  have hcm:=HCM.out k
  obtain ⟨a,ha⟩:∃ a,16*k=a:=⟨_,rfl⟩
  obtain ⟨cw,hcw⟩:∃ x,cnt k nzf=x:=⟨_,rfl⟩
  have HA:=Lib.hid ha
  have HCN:=Lib.hid hcw
  have HGK:=Lib.hid hgk
  rw [hcw] at hcm
  rw [ha,hcw]
  by_cases hk:a<data.size
  ·have hkn:k≤1024:=by omega
   have ha2:a≤16384:=by omega
   have hw1:IntKind.i64.wrap ((a:Int)+16)=(a:Int)+16:=IntWalk.i64_in _ (by omega)
   have hw2:IntKind.i64.wrap ((cw:Int)+1)=(cw:Int)+1:=IntWalk.i64_in _ (by omega)
   go_upto_region 13 with fail
   go_loopg [5,7] 16 (fun gh s5 s7 wq=>wq=w3∧s5=.int .i64 (cw:Int)∧∃ (j m:Nat),gh+j=16∧a+j=m∧s7=.int .i64 (m:Int)∧Hid (∀ i,i<j→bF data (a+i)=0))
   case atStart=>exact ⟨rfl,rfl,0,a,by omega,by omega,rfl,Lib.hid fun i h=>by omega⟩
   case round =>
    obtain ⟨hwq,rfl,j,m,hgj,hm,rfl,HZJ⟩:=hrel
    replace hwq:=hwq.symm
    subst hwq
    by_cases hin:j<16∧m<data.size
    case neg =>
     have hnz:nzf k=false:=HKZ.out k j (fun i hi=>by rw [HA.out];exact HZJ.out i hi) (by rw [HA.out];omega)
     have hcs:=HCS.out k
     rw [hnz,HCN.out] at hcs
     have HCS2:=Lib.hid hcs
     clear hnz hcs
     by_cases h1:m<data.size
     ·have h2:¬ (m:Int)<(a:Int)+16:=by omega
      have h3:(m:Int)<(data.size:Int):=by omega
      clear hin
      go_wp2_with fail
      go_roundg ((data.size+15) / 16 - (k+1))
      case measure=>have:=HGK.out;have:=HA.out;omega
      case rel=>exact ⟨rfl,k+1,by have:=HGK.out;have:=HA.out;omega,by have:=HA.out;go_num,by rw [HCS2.out];simp⟩
     ·have h3:¬ (m:Int)<(data.size:Int):=by omega
      clear hin
      go_wp2_with fail
      go_roundg ((data.size+15) / 16 - (k+1))
      case measure=>have:=HGK.out;have:=HA.out;omega
      case rel=>exact ⟨rfl,k+1,by have:=HGK.out;have:=HA.out;omega,by have:=HA.out;go_num,by rw [HCS2.out];simp⟩
    have h2:(m:Int)<(a:Int)+16:=by omega
    have h3:(m:Int)<(data.size:Int):=by omega
    have h4:m<data.size:=hin.2
    have hby:=HBY.out m h4
    have HIN:=Lib.hid hin
    clear hin
    by_cases hb0:bF data m=0
    ·rw [decide_eq_false (by simpa using hb0)] at hby
     have HB0:=Lib.hid hb0
     clear hb0
     go_wp2_with fail
     go_roundg (gk - 1)
     case measure=>have:=HIN.out;omega
     case rel=>exact ⟨rfl,rfl,j+1,m+1,by have:=HIN.out;omega,by omega,by go_num,Lib.hid fun i hi=>by
       by_cases e:i=j
       ·rw [e,hm];exact HB0.out
       ·exact HZJ.out i (by omega)⟩
    ·rw [decide_eq_true (by simpa using hb0)] at hby
     have hnz:nzf k=true:=HKB.out k j HIN.out.1 (by rw [HA.out,hm];exact hb0)
     have hcs:=HCS.out k
     rw [hnz,HCN.out] at hcs
     have HCS2:=Lib.hid hcs
     clear hnz hcs hb0
     go_wp2_with fail
     go_roundg ((data.size+15) / 16 - (k+1))
     case measure=>have:=HGK.out;have:=HA.out;omega
     case rel=>exact ⟨rfl,k+1,by have:=HGK.out;have:=HA.out;omega,by have:=HA.out;go_num,by rw [HCS2.out];simp⟩
  ·have hK:=HWA.out k (by rw [HA.out];omega) (by have:=HHS.out;omega)
   rw [HCN.out] at hK
   have HWW:=Lib.hid hK
   clear hK hcm HWA HCS HCM HKB HKZ HBY HCN HGK ha hcw hgk
   -- Up
   have k4:w3.cell? ⟨G,4,none⟩=some (Pq c.C):=(Lib.cell_of_heap HBX.out 4).trans rfl
   obtain ⟨g4,hg4⟩:∃ g,w3.heap.size=g:=⟨_,rfl⟩
   obtain ⟨w7,hw7⟩:∃ w7,w3.alloc (.cells #[.string ⟨#[102]⟩] 9)=w7:=⟨_,rfl⟩
   obtain ⟨hz7,hn7,hb7⟩:=HZ.out.row1 hg4 hw7 (by decide)
   have HG7:=Lib.hid ((hb7.block G (HZ.out.lt HXG.out)).trans HBX.out)
   have HXC:=Lib.hid (And.intro HZ.out.xC HZ.out.xV)
   have HUP:=Lib.hid (up_any (cap:=1) (W:=3) hz7 hn7 (by decide) (by decide) (by have:=HT.out;omega) (by rw [HCU.out];exact Bg.start.kind2) (by rw [HCU.out];exact Bg.start.l2) Bg.start.out (by rw [HCW.out];rfl) (by rw [HCU.out];decide) (by rw [HCU.out,HCW.out];decide))
   unfold UpE at HUP
   rw [HCU.out,HCL.out,HCW.out] at HUP
   have HGL:=Lib.hid (HZ.out.good2)
   clear hz7 hn7 hb7 HZ HBX
   go_wp2_with fail
   try rw [hw7]
   try rw [hg4]
   clear hw7 hg4 k4
   refine HUP.out.mono ?_
   rintro _ w8 ⟨v,er,S',rfl,hz8,hs8,hur⟩
   obtain ⟨rfl,n,rfl,hmk⟩:=h_up HHS.out HGL.out hur
   have HZ8:=Lib.hid (hz8.sub (Y:=X) (fun b h=>.inl h) HXC.out.1 HXC.out.2)
   have HG8:=Lib.hid ((hs8 G (.inl HXG.out)).trans HG7.out)
   have HUS:=Lib.hid (h_used hmk)
   have hst:S'.stat (n:Int)=((1,data.size,1),0):=by
    rw [file_statU hmk.n1 hmk.n2 (by rw [hmk.eN];rfl),hmk.eN]
    show ((1,(copyB (hB data)).size,(1:Int)),(0:Int))=_
    rw [show (copyB (hB data)).size=(hB data).size from rfl,hB_size]
   have HST:=Lib.hid (cb.x_stat HZ8.out.brx1 (n:Int))
   unfold cb.statV RetW at HST
   rw [hst] at HST
   dsimp only at HST
   clear hz8 hs8 hur hmk hst HUP HG7 HGL
   have k0:w8.cell? ⟨G,0,none⟩=some (Pq c.P1):=(Lib.cell_of_heap HG8.out 0).trans rfl
   go_wp2_with fail
   refine HST.out.mono ?_
   rintro _ w9 ⟨rfl,hb9⟩
   have HZ9:=Lib.hid (HZ8.out.below hb9)
   have HG9:=Lib.hid ((hb9.block G (HZ8.out.lt HXG.out)).trans HG8.out)
   clear hb9 HST HZ8 HG8 k0
   obtain ⟨gs,hgs⟩:∃ g,w9.heap.size=g:=⟨_,rfl⟩
   obtain ⟨wA,hwA⟩:∃ wA,w9.alloc (.cells #[.int .i64 1,.int .i64 (data.size:Int),.int .i64 1] 47)=wA:=⟨_,rfl⟩
   have hbA:Below w9.heap.size w9 wA:=by rw [← hwA];exact bel_alloc _ _
   have HZA:=Lib.hid (HZ9.out.below hbA)
   have HGA:=Lib.hid ((hbA.block G (HZ9.out.lt HXG.out)).trans HG9.out)
   have HR:=Lib.hid (show R3 wA gs 1 (data.size:Int) 1 by rw [← hwA,← hgs];exact R3.new w9 1 (data.size:Int) 1)
   clear hbA HZ9 HG9
   have k0:wA.cell? ⟨G,0,none⟩=some (Pq c.P1):=(Lib.cell_of_heap HGA.out 0).trans rfl
   have k1:=HR.out.c1
   have HUD:=Lib.hid (cb.x_used HZA.out.brx1)
   rw [HUS.out,← HWW.out] at HUD
   have HFF:=Lib.hid (HF.out wA (bel_step HB2.out HZA.out.bel))
   go_upto_region 19 with fail
   try rw [hwA]
   try rw [hgs]
   clear hwA hgs
   go_wp2_with fail
   refine HUD.out.mono ?_
   rintro _ wB ⟨rfl,rfl⟩
   go_wp2_with fail
   exact HFF.out
end Go.Proofs.YtgoddboicjfkcaaGreat.cu
