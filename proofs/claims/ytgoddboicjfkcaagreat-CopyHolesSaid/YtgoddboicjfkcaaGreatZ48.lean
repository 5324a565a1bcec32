/- Part 48 of what is known of the program's functions and of the document's words: contracts, and the mathematics beneath them. -/
import Derived.Test.YtgoddboicjfkcaaGreatProg
import Derived.Test.YtgoddboicjfkcaaGreatZ36
import Derived.Test.YtgoddboicjfkcaaGreatZ47
import Derived.Deep.RegionHeld3
import Derived.Test.YtgoddboicjfkcaaGreatZ37
import Derived.Test.YtgoddboicjfkcaaGreatZ45
import Derived.Test.YtgoddboicjfkcaaGreatZ46
import Derived.Laws.Strings3
set_option linter.unusedVariables false
set_option linter.unusedSimpArgs false
set_option maxRecDepth 100000
set_option maxHeartbeats 8000000
namespace Go.Proofs.YtgoddboicjfkcaaGreat.fl
open Go.RowKit
open br (BS Ino Inv Tree sumF)
open cb (BrX RetW RetI No)
open bl (Pq)
open mg (Nd Nv kindV getV rootV AllV bel_step bel_alloc Vd Rv R4 rroot_any)
theorem flatMap_same {α β:Type} {f g:α→List β}:∀ {l:List α},(∀ x∈l,f x=g x)→l.flatMap f=l.flatMap g
 | [],_=>rfl
 | x::l,h=>by rw [List.flatMap_cons,List.flatMap_cons,h x (by simp),flatMap_same fun y hy=>h y (by simp [hy])]
theorem linesV_deep {U L:BS} {r1 r2:Nat} (hU:Inv U r1) (hL:Inv L r2) {dU dL:Nat→Nat} (hdU:Deep U dU) (hdL:Deep L dL) (hA:∀ n,∃ ns,AllV U L n ns) :
  ∀ (d d':Nat) (n:Nd) (at_:ByteArray),hN U L dU dL n<d→hN U L dU dL n<d'→linesV U L d n at_=linesV U L d' n at_
 | 0,_,_,_,h,_=>absurd h (Nat.not_lt_zero _)
 | _+1,0,_,_,_,h=>absurd h (Nat.not_lt_zero _)
 | d+1,d'+1,n,at_,h,h'=>by
  obtain ⟨ns,hns⟩:=hA n
  rw [linesV_succ hns,linesV_succ hns]
  refine flatMap_same fun s hs=>?_
  have hc:=hN_child hU hL hdU hdL n s ((hns.mem s).1 hs)
  unfold linesN
  rw [linesV_deep hU hL hdU hdL hA d d' _ _ (Nat.lt_of_lt_of_le hc (Nat.le_of_lt_succ h)) (Nat.lt_of_lt_of_le hc (Nat.le_of_lt_succ h'))]
theorem rof_any {w:World} {D1 D2:Nat} {u l:Int} {U L:BS} {r1 r2:Nat} (hv:Vd w D1 D2 U L) (hU:br.Good U r1) (hL:br.Good L r2) (hA:∀ n,∃ ns,AllV U L n ns):Calls Tryz.prog 43 #[Rv D1 D2 u l] w (BelE w (ofV U L u l)):=by
 obtain ⟨dU,hdU⟩:=br.Tree.bound hU.1 hU.2
 obtain ⟨dL,hdL⟩:=br.Tree.bound hL.1 hL.2
 have hle:=hN_le U L dU dL (rootV U L u l)
 have HOF:=Lib.hid (show linesV U L 300 (rootV U L u l) ⟨#[]⟩=ofV U L u l from linesV_deep hU.1 hL.1 hdU hdL hA 300 202 _ _ (by omega) (by omega))
 have HLN:=Lib.hid (show (ofV U L u l).length≤4000000 by have:=ofV_len hU hL u l;omega)
 obtain ⟨w1,hw1⟩:∃ w1,w.alloc (.cells #[Pq D1,Pq D2,.int .i64 u,.int .i64 l] 36)=w1:=⟨_,rfl⟩
 have hb1:Below w.heap.size w w1:=by rw [← hw1];exact bel_alloc _ _
 have HR1:=Lib.hid (show R4 w1 w.heap.size D1 D2 u l by rw [← hw1];exact R4.new w D1 D2 u l)
 have HB1:=Lib.hid hb1
 have HBd:=Lib.hid (show Below w.heap.size w w1.drew from bel_step hb1 (Below.refl w1.heap.size w1).drew)
 have HRT:=Lib.hid (rroot_any (u:=u) (l:=l) (hv.below HBd.out))
 have HIH:=Lib.hid (fun W (hb:Below w.heap.size w W)=>by
  have h:=rbelow_any (u:=u) (l:=l) hv hU.1 hL.1 hdU hdL hA 300 (rootV U L u l) ⟨#[]⟩ W (by omega) (Nat.le_refl _) (by decide) (by rw [HOF.out];exact HLN.out) hb
  rw [HOF.out,show (300 - ((300:Nat):Int))=0 from by decide] at h
  exact h)
 unfold BelE at HIH
 generalize rootV U L u l=rt at *
 generalize ofV U L u l=Y at *
 obtain ⟨t1,t2⟩:=rt
 obtain ⟨g,hg⟩:∃ g,w.heap.size=g:=⟨_,rfl⟩
 have HGB:=Lib.hid hg
 rw [hg] at HR1
 obtain ⟨PQ,hPQ⟩:∃ P,BelE w Y=P:=⟨_,rfl⟩
 have HE:=Lib.hid (show ∀ W A c,LO W w.heap.size (.slice A Y.length c) Y→Below w.heap.size w W→PQ (.returned (.slice A Y.length c)) W from fun W A c a b=>by rw [← hPQ];exact ⟨A,c,rfl,a,b⟩)
 rw [hPQ]
 clear hv hU hL hdU hdL hb1 hle hA hPQ HOF HLN
 go_enter Tryz.func43,Tryz.ntmps43
 go_upto_region 1 with fail
 try rw [hw1]
 clear hw1
 obtain ⟨k0,k1,k2,k3⟩:=HR1.out
 have HSS:=Lib.hid (fun W (hb:Below w1.heap.size w1 W)=>show W.cell? ⟨g,0,none⟩=some (Pq D1)∧W.cell? ⟨g,1,none⟩=some (Pq D2)∧W.cell? ⟨g,2,none⟩=some (.int .i64 u)∧W.cell? ⟨g,3,none⟩=some (.int .i64 l) from ⟨(HR1.out.below hb).c0,(HR1.out.below hb).c1,(HR1.out.below hb).c2,(HR1.out.below hb).c3⟩)
 have S0:=HSS.out w1 (Below.refl _ _)
 clear k0 k1 k2 k3
 go_region_held3 (fun W=>W.cell? ⟨g,0,none⟩=some (Pq D1)∧W.cell? ⟨g,1,none⟩=some (Pq D2)∧W.cell? ⟨g,2,none⟩=some (.int .i64 u)∧W.cell? ⟨g,3,none⟩=some (.int .i64 l))
  (first|with_reducible exact S0|with_reducible exact S5|with_reducible exact S6|assumption|go_keep)
  (first
   | (go_at_call 16;((with_reducible refine HRT.out.mono ?_);rintro _ w5 ⟨rfl,hb5⟩;have HB5:=Lib.hid (bel_step (Below.refl w1.heap.size w1).drew hb5);have S5:=HSS.out w5 HB5.out;have HV5:=Lib.hid (HIH.out w5 (bel_step HB1.out HB5.out));clear hb5))
   | (go_at_call 112;((with_reducible refine HV5.out.mono ?_);rintro _ w6 ⟨A6,c6,rfl,hl6,hb6⟩;have HB6:=Lib.hid (bel_step HB5.out hb6);have S6:=HSS.out w6 HB6.out;have HL6:=Lib.hid hl6;clear hl6 hb6)))
 have hfin:=HE.out w6 A6 c6 ⟨HL6.out.1,HL6.out.2.imp id fun ⟨g,a,b,c,d,e⟩=>⟨g,a,b,c,Nat.le_trans (bel_step HB1.out HB5.out).size d,e⟩⟩ (bel_step HB1.out HB6.out)
 clear S0 S5 S6
 generalize Y.length=zl at *
 go_wp2_with fail
 exact hfin
end Go.Proofs.YtgoddboicjfkcaaGreat.fl
namespace Go.Proofs.YtgoddboicjfkcaaGreat.cu
open Go.RowKit Go.Deep
open br (BS Ino Inv at_nat abE fresh)
open cb (BrX RetW RetI No KB KD Res HB Stab NxR Same WrI Wz sF)
open bl (Pq Only AB U8 WR wr wrB IsStop)
open mg (bel_step bel_alloc Vd Rv)
open fl (Ln LR treeF Zn bl8 bl8_app bl8_inj path_bl noSl LO)
theorem at_bl (b:ByteArray) (k:Nat) (h:k<b.size):some (b[k]'h)=(bl8 b)[k]?:=by
 unfold bl8
 rw [List.getElem?_eq_getElem (by simpa using h)]
 simp [ByteArray.getElem_eq_getElem_data]
theorem path_at {z:Zn} (hs:noSl z.s) {qn gk:Nat} (hq:z.q.size=qn) (hlt:qn+gk<z.path.size):((((z.path[qn+gk]'hlt).toNat:Nat):Int) != 47)=decide (gk≠0):=by
 have h:=at_bl z.path (qn+gk) hlt
 rw [path_bl] at h
 have hl:(bl8 z.q).length=qn:=by rw [← hq];unfold bl8;simp
 generalize z.path[qn+gk]'hlt=x at *
 rw [List.append_assoc,List.getElem?_append_right (by omega),hl,show qn+gk - qn=gk from by omega] at h
 cases gk with
 | zero =>
  simp at h
  subst h
  rfl
 | succ k =>
  simp only [List.cons_append,List.nil_append,List.getElem?_cons_succ] at h
  have hm:x∈bl8 z.s:=List.mem_of_getElem? h.symm
  have hx:x≠47:=fun e=>hs (e▸hm)
  have:x.toNat≠47:=fun e=>hx (UInt8.toNat_inj.1 e)
  simp only [ne_eq,Nat.add_eq_zero_iff,Nat.succ_ne_zero,and_false,not_false_eq_true,decide_true,bne_iff_ne]
  omega
theorem path_q {z:Zn} {qn:Nat} (hq:z.q.size=qn):z.path.extract 0 qn=z.q:=by
 refine bl8_inj ?_
 unfold bl8
 rw [ByteArray.data_extract,Array.toList_extract]
 have h:=path_bl z
 unfold bl8 at h
 rw [h]
 have hl:(z.q.data.toList).length=qn:=by rw [← hq];simp
 simp [List.extract_eq_take_drop,← hl]
theorem path_s {z:Zn} {qn n:Nat} (hq:z.q.size=qn) (hn:z.path.size=n):z.path.extract (qn+1) n=z.s:=by
 refine bl8_inj ?_
 unfold bl8
 rw [ByteArray.data_extract,Array.toList_extract]
 have h:=path_bl z
 have hl:(bl8 z.q).length=qn:=by rw [← hq];unfold bl8;simp
 have h2:(bl8 z.path).length=n:=by rw [← hn];unfold bl8;simp
 unfold bl8 at h hl h2
 rw [h] at h2 ⊢
 rw [List.extract_eq_take_drop,List.append_assoc,← hl]
 simp only [List.length_append,List.length_cons,List.length_nil] at h2
 have:z.q.data.toList++([47]++z.s.data.toList)=(z.q.data.toList++[47])++z.s.data.toList:=by simp
 rw [this,List.drop_append_of_le_length (by simp),List.drop_of_length_le (by simp),List.nil_append,List.take_of_length_le (by omega)]
theorem cut_q {z:Zn} {pt:ByteArray} {qn sn:Nat} (hp:z.path=pt) (hq:z.q.size=qn) (hn:pt.size=qn+1+sn) (W:World) :
  (Instr.slice 9 (.string pt) none (some (.int .i64 (qn:Int))) none).run Tryz.prog W=.ok (.string z.q) W:=by
 rw [run_slice_string_to_if W 9 pt .i64 (qn:Int) Tryz.underlying9,if_pos (by omega)]
 rw [Int.toNat_natCast,← hp,path_q hq]
theorem cut_s {z:Zn} {pt:ByteArray} {qn sn:Nat} (hp:z.path=pt) (hq:z.q.size=qn) (hn:pt.size=qn+1+sn) (W:World) :
  (Instr.slice 9 (.string pt) (some (.int .i64 ((qn:Int)+1))) none none).run Tryz.prog W=.ok (.string z.s) W:=by
 rw [run_slice_string_from_if W 9 pt .i64 ((qn:Int)+1) Tryz.underlying9,if_pos (by omega)]
 rw [show ((qn:Int)+1).toNat=qn+1 from by omega,← hp,path_s hq rfl]
section
variable {w0 w:World} {L:List Res} {X:Nat→Prop} {P D RS room T i:Nat} {S:BS}
theorem cs_make (h:cb.Sys w0 w L X) (hi:L[i]?=some (KB w0 P S room T)) (hT:T≤800000) (d:Int) (s:ByteArray) (k:Int) (t:ByteArray) (hm:s.size≤9223372036854775807) (hmt:t.size≤9223372036854775807) :
  Calls Tryz.prog 33 #[Pq P,.int .i64 d,.string s,.int .i64 k,.string t] w (fun e w'=>e=.returned (.tuple #[.int .i64 (S.make d s k t).1.1,.int .i64 (S.make d s k t).1.2])∧cb.Sys w0 w' (L.set i (KB w0 P (S.make d s k t).2 room (T+1))) X∧Same X w w') :=
 cb.Sys.call h hi KB.stab fun O k'=>kx_make k' hT d s k t hm hmt
theorem cs_write (h:cb.Sys w0 w L X) (hi:L[i]?=some (KB w0 P S room T)) (n off:Int) (A:Option Addr) (len dc:Nat) (g:Nat→UInt8) (hA:∀ j,j<len→∃ b o,A=some ⟨b,o,none⟩∧X b∧w.cell? ⟨b,o+j,none⟩=some (U8 (g j))) (hlc:len≤dc) (hdc:dc≤maxLen) :
  Calls Tryz.prog 39 #[Pq P,.int .i64 n,.int .i64 off,.slice A len dc] w (fun e w'=>∃ z:Wz,WrI S room n off len g z.1 z.2.1 z.2.2∧e=.returned (.tuple #[.int .i64 (z.1:Int),.int .i64 z.2.1])∧cb.Sys w0 w' (L.set i (KB w0 P z.2.2 room (T+1))) X∧Same X w w') :=
 cb.Sys.callE (q:=fun z:Wz=>KB w0 P z.2.2 room (T+1)) h hi (fun _ _=>KB.stab) fun O k hX=>cb.kb_write k hX n off A len dc g hA hlc hdc
theorem fileE_zero (S:BS):S.fileE 0≠0:=by
 unfold BS.fileE
 rw [mg.kind_zero];decide
theorem ds_writeM (h:cb.Sys w0 w L X) (hi:L[i]?=some (KD w0 D RS S room)) (hG:br.Good S room) (hr:room≤65536) {n:Int} (hn:n=0∨∃ N:Nat,n=(N:Int)∧1≤N∧N≤200∧(S.ino N).kind=1∧(S.ino N).body=abE) (A:Option Addr) (len dc:Nat) (f:Nat→UInt8) (hA:∀ j,j<len→∃ b o,A=some ⟨b,o,none⟩∧X b∧w.cell? ⟨b,o+j,none⟩=some (U8 (f j))) (hlc:len≤dc) (hdc:dc≤maxLen) :
  Calls Tryz.prog 40 #[Pq D,.int .i64 n,.int .i64 0,.slice A len dc] w (fun e w'=>∃ z:Wz,WrI S room n 0 len f z.1 z.2.1 z.2.2∧e=.returned (.tuple #[.int .i64 (z.1:Int),.int .i64 z.2.1])∧cb.Sys w0 w' (L.set i (KD w0 D RS z.2.2 room)) X∧Same X w w'):=by
 rcases hn with rfl|⟨N,rfl,h1,h2,hk,hb⟩
 ·refine cb.Sys.callE (p:=fun z:Wz=>WrI S room 0 0 len f z.1 z.2.1 z.2.2) (v:=fun z:Wz=>.tuple #[.int .i64 (z.1:Int),.int .i64 z.2.1]) (q:=fun z:Wz=>KD w0 D RS z.2.2 room) h hi (fun _ _=>KD.stab) fun O k hX=>?_
  obtain ⟨pl,tg,k1,h6⟩:=k
  refine (cb.q_write k1 hG hr 0 0 A len dc f (fun j hj=>by
   obtain ⟨b,o,e,hb,hc⟩:=hA j hj
   exact ⟨b,o,e,Classical.byContradiction fun hn=>(hX b hb).2 ((h6 b).2 hn),(hX b hb).1,hc⟩) hlc hdc).mono ?_
  rintro e w' (⟨z1,rfl,rfl⟩|⟨z1,_⟩)
  ·exact ⟨(0,S.fileE 0,S),.inl ⟨z1,rfl,rfl,rfl⟩,rfl,O,⟨pl,tg,k1,h6⟩,fun b hb=>.inl hb,Only.refl _ _⟩
  ·exact absurd z1 (fileE_zero S)
 ·exact ds_write h hi hG hr h1 h2 hk hb A len dc f hA hlc hdc
theorem bnew_any (h:cb.Sys w0 w L X) {r:Nat} (hr:r≤65536) :
  Calls Tryz.prog 31 #[.int .i64 (r:Int)] w (fun e w'=>∃ P,e=.returned (Pq P)∧cb.Sys w0 w' (L++[KB w0 P fresh r 0]) X∧Below w.heap.size w w') :=
 (cb.x_new (w0:=w) (w:=w) r hr (Below.refl _ _)).mono fun e w' ⟨P,he,hb,hbel,_⟩=>⟨P,he,add_made h hb,hbel⟩
theorem dnew_any (h:cb.Sys w0 w L X) {r:Nat} (hr:r≤65536) :
  Calls Tryz.prog 32 #[.int .i64 (r:Int)] w (fun e w'=>∃ D RS,e=.returned (Pq D)∧cb.Sys w0 w' (L++[KD w0 D RS fresh r]) X∧Below w.heap.size w w') :=
 (cb.rb_new r w0.heap.size w hr h.bel.size).mono fun e w' ⟨D,RS,pl,tag,he,hb,hbel,ht⟩=>⟨D,RS,he,h.add hbel KD.stab ⟨pl,tag,hb,fun b=>Iff.rfl⟩ ht,hbel⟩
def CTreeE (w0 w:World) (L:List Res) (X:Nat→Prop) (l:List Ln) (e:Ending) (w':World):Prop :=
 Below w.heap.size w w'∧((∃ err:Int,err≠0∧treeF 65536 fresh l=none∧e=.returned (.tuple #[.pointer none,.int .i64 err])∧cb.Sys w0 w' L X) ∨
  ∃ (P:Nat) (S:BS),treeF 65536 fresh l=some S∧e=.returned (.tuple #[Pq P,.int .i64 0])∧cb.Sys w0 w' (L++[KB w0 P S 65536 1000]) X)
theorem ctree_any (h:cb.Sys w0 w L X) {A:Option Addr} {l:List Ln} {c:Nat} (hl:LX w X A l) (hn:l.length≤400) (hd:∀ x∈l,x.data.size≤1000000) :
  Calls Tryz.prog 87 #[.slice A l.length c,.int .i64 65536] w (CTreeE w0 w L X l):=by
 refine (fl.tree_any (hl.lr fun b hb=>h.lt hb) (Nat.le_refl _) hn hd 65536).mono ?_
 rintro e w' (⟨h1,_⟩|⟨R,hR,_,hc⟩)
 ·omega
 ·obtain rfl:R=65536:=by omega
  rcases hc with ⟨err,e0,ht,_,rfl,hb⟩|⟨P,S,ht,rfl,hb⟩
  ·exact ⟨hb,.inl ⟨err,e0,ht,rfl,h.below hb⟩⟩
  ·have hbel:Below w.heap.size w w':=by obtain ⟨st,qb,qo,pl,tag,Tq,h1,h2,h3,h4,h5,h6,h7⟩:=hb;exact h6
   refine ⟨hbel,.inr ⟨P,S,ht,rfl,?_⟩⟩
   have h2:cb.Sys w0 w' ((L++[KB w0 P S 65536 990]).set L.length (KB w0 P S 65536 1000)) X:=(add_made h hb).weak (i:=L.length) (r:=KB w0 P S 65536 990) (app_at L _) KB.stab fun O k=>KB.up (by omega) k
   rwa [app_set] at h2
theorem LO.lx {w:World} {B:Nat} {A:Value} {X:List Ln} (h:LO w B A X):∃ A' c,A=.slice A' X.length c∧LX w (fun b=>B≤b∧b<w.heap.size) A' X∧X.length≤c∧c≤maxLen:=by
 rcases h.2 with ⟨hv,h0⟩|⟨g,cap,cur,hv,hb,hg,h1,h2,h3,h4⟩
 ·refine ⟨none,0,by rw [hv,h0],?_,by omega,by unfold maxLen;omega⟩
  have:X=[]:=List.eq_nil_of_length_eq_zero h0
  subst this
  exact fun j x hx=>by cases hx
 ·refine ⟨some ⟨g,0,none⟩,cap,hv,fun j x hx=>?_,h1,h2⟩
  obtain ⟨k0,k1,k2⟩:=fl.lcs_get hx
  have hj:=(List.getElem?_eq_some_iff.1 hx).1
  have hc:∀ i v,(fl.lcs X)[i]?=some v→w.cell? ⟨g,i,none⟩=some v:=fun i v hi=>by
   have hl:=(List.getElem?_eq_some_iff.1 hi).1
   rw [fl.lcs_len] at hl
   rw [Lib.cell_of_heap hg,← Array.getElem?_toList]
   rw [← h4,List.getElem?_take,if_pos hl] at hi
   exact hi
  refine ⟨g,0,rfl,⟨hb,(Array.getElem?_eq_some_iff.1 hg).1⟩,hc _ _ (by rw [Nat.zero_add,Nat.mul_comm];exact k0),hc _ _ (by rw [Nat.zero_add,Nat.mul_comm];exact k1),hc _ _ (by rw [Nat.zero_add,Nat.mul_comm];exact k2)⟩
theorem only_grown {w w':World} {M:Nat} (hg:w.grownBy w' (some M)):Only (fun b=>b=M) w w':=⟨hg.os,hg.tape,hg.output,hg.size,fun k hk hn=>hg.block k hk (fun e=>hn (Option.some.inj e))⟩
end
end Go.Proofs.YtgoddboicjfkcaaGreat.cu
