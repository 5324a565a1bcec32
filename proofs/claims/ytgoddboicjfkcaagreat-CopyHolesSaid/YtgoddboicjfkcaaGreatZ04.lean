/- Part 4 of what is known of the program's functions and of the document's words: contracts, and the mathematics beneath them. -/
import Derived.Test.YtgoddboicjfkcaaGreatProg
import Derived.Test.YtgoddboicjfkcaaGreatZ03
import Derived.Laws.Cover3
import Derived.RegionTactic
import Derived.BigRegion
import Derived.Test.YtgoddboicjfkcaaGreatZ00
set_option linter.unusedVariables false
set_option linter.unusedSimpArgs false
set_option maxRecDepth 100000
set_option maxHeartbeats 8000000
namespace Go.Proofs.YtgoddboicjfkcaaGreat.dn
open Go.RowKit Go.Shelf
theorem ERow.spoil {w:World} {G c o:Nat} {K:List En} {vs:List Value} (h:ERow w G c K) (ho:K.length*2≤o) (hfit:o+vs.length≤c*2) (h1:∀ v∈vs,v.oneCell'=true):ERow (w.setCells G o vs) G c K :=
 h.sets hfit h1 h.1 fun X hl ht=>by
  rw [List.append_assoc,List.take_append_of_le_length (by rw [List.length_take];omega),List.take_take,Nat.min_eq_left ho,ht]
theorem run_clear2 (w:World) (G o n:Nat) (hn:0<n) (hc:∀ j,j<n*2→(w.cell? ⟨G,o+j,none⟩).isSome=true) (hf:∀ j,w.frozen? ⟨G,j,none⟩=false) :
  ∃ vs,vs.length=n*2∧(∀ v∈vs,v.oneCell'=true)∧∀ ty c,(Builtin.clear_ #[89] ty #[.slice (some ⟨G,o,none⟩) n c]).run Tryz.prog w=.ok (.tuple #[]) (w.setCells G o vs):=by
 have hz:(Ev (⟨#[]⟩,0)).cells=#[.string ⟨#[]⟩,.int .i64 0]:=rfl
 have hmem:∀ v∈(Builtin.zeroCells (Ev (⟨#[]⟩,0)).cells n).toList,v.oneCell'=true:=by
  intro v hv
  rw [hz] at hv
  simp only [Builtin.zeroCells,Array.toList_map,List.mem_map] at hv
  obtain ⟨i,_,rfl⟩:=hv
  have:i % 2=0∨i % 2=1:=by omega
  rcases this with e|e <;> simp [e] <;> rfl
 have hlen:(Builtin.zeroCells (Ev (⟨#[]⟩,0)).cells n).toList.length=n*2:=by rw [hz];simp [Builtin.zeroCells]
 have hst:=run_storeCells_cells (P:=Tryz.prog) G o (Builtin.zeroCells (Ev (⟨#[]⟩,0)).cells n).toList 0 w (fun j hj=>by rw [Nat.add_zero];exact hc j (by omega)) (fun j hj=>hf _) hmem
 rw [Nat.add_zero] at hst
 refine ⟨(Builtin.zeroCells (Ev (⟨#[]⟩,0)).cells n).toList,hlen,hmem,fun ty c=>?_⟩
 have zero37:∀ w:World,(zeroValue 125).run Tryz.prog w=.ok (Ev (⟨#[]⟩,0)) w:=fun w=>by kernel_rfl
 obtain ⟨m,rfl⟩:∃ m,n=m+1:=⟨n - 1,by omega⟩
 simp [Builtin.clear_,run_underlying Tryz.underlying89,zero37,hst]
def DelE (w:World) (G c:Nat) (K:List En) (e:Ending) (w':World):Prop:=e=.returned (.slice (some ⟨G,0,none⟩) K.length c)∧ERow w' G c K∧w.grownBy w' (some G)
theorem erase_row {w:World} {G c i:Nat} {L:List En} (h:ERow w G c L) (hi:i<L.length):ERow (w.setCells G (i*2) (encL (L.drop (i+1)))) G c (L.eraseIdx i):=by
 have h1:=h.1
 have hl2:(encL (L.drop (i+1))).length=(L.length - (i+1))*2:=by rw [encL_length,List.length_drop]
 refine h.sets (by rw [hl2];omega) (encL_one _) (by rw [List.length_eraseIdx];split <;> omega) fun X hl ht=>?_
 rw [List.length_eraseIdx,if_pos hi,List.eraseIdx_eq_take_drop_succ,encL_append,← encL_take,← ht,List.take_take,Nat.min_eq_left (by omega),List.take_append_of_le_length,List.take_of_length_le]
 ·rw [List.length_append,List.length_take,hl2];omega
 ·rw [List.length_append,List.length_take,hl2];omega
theorem del_any (G c i:Nat) (L:List En) (w:World) (hi:i<L.length) (hN:L.length≤1000000) (h:ERow w G c L) :
  Calls Tryz.prog 184 #[.slice (some ⟨G,0,none⟩) L.length c,.int .i64 i,.int .i64 ((i:Int)+1)] w (DelE w G c (L.eraseIdx i)):=by
 obtain ⟨i0,hi0,hz0,hz1,hz2⟩:=info_parts info37
 have hc63:c≤9223372036854775807:=h.2.1
 have hlc:=h.1
 have hdl:(encL (L.drop (i+1))).length=(L.length - (i+1))*2:=by rw [encL_length,List.length_drop]
 have hE:=Lib.hid (erase_row (w:=w.drew) (h.of_block rfl) hi)
 have hEl:(L.eraseIdx i).length=L.length - 1:=by rw [List.length_eraseIdx,if_pos hi]
 have hg:w.grownBy (w.drew.setCells G (i*2) (encL (L.drop (i+1)))) (some G):=grownBy_trans (grownBy_drew _ _) (grownBy_sets _ _ _ _)
 have HSRC:=Lib.hid (fun (hc:c≠i+1)=>(show ∀ j u,(encL (L.drop (i+1)))[j]?=some u→w.drew.cell? ((⟨G,(i+1)*2,none⟩:Addr).add j)=some u from fun j u hj=>by
  rw [Addr.add_lit];exact h.cells (by rw [← encL_drop,List.getElem?_drop] at hj;exact hj)))
 have HNIL:=Lib.hid (fun (hc:c=i+1)=>(show ∀ j u,(encL (L.drop (i+1)))[j]?=some u→w.drew.cell? ((⟨G,0,none⟩:Addr).add j)=some u from fun j u hj=>by
  rw [List.drop_eq_nil_of_le (by omega)] at hj;simp [encL] at hj))
 have HSP:=Lib.hid (fun j (hj:j<(encL (L.drop (i+1))).length)=>(⟨h.some_ (by rw [hdl] at hj;omega),h.frozen _⟩:(w.drew.cell? ⟨G,0+i*2+j,none⟩).isSome=true∧w.drew.frozen? ⟨G,0+i*2+j,none⟩=false))
 have H1:=Lib.hid (encL_one (L.drop (i+1)))
 obtain ⟨W2,hW2⟩:∃ W2,W2=w.drew.setCells G (i*2) (encL (L.drop (i+1))):=⟨_,rfl⟩
 rw [← hW2] at hE hg
 obtain ⟨vs,hvl,hv1,hcl⟩:=run_clear2 W2 G ((L.length - 1)*2) 1 (by omega) (fun j hj=>hE.out.some_ (by omega)) hE.out.frozen
 have HF:=Lib.hid (show DelE w G c (L.eraseIdx i) (.returned (.slice (some ⟨G,0,none⟩) (L.length - 1) c)) (W2.setCells G ((L.length - 1)*2) vs) from
  ⟨by rw [hEl],hE.out.spoil (by rw [hEl];exact Nat.le_refl _) (by rw [hvl];omega) hv1,grownBy_trans hg (grownBy_sets _ _ _ _)⟩)
 have HDL:=Lib.hid hdl
 have HW:=Lib.hid hW2
 generalize L.eraseIdx i=K at *
 generalize encL (L.drop (i+1))=cx at *
 generalize hn:L.length=n at *
 have hii:((i:Int) == (i:Int)+1)=false:=by rw [beq_eq_false_iff_ne];omega
 have hii2:¬ ((i:Int)=(i:Int)+1):=by omega
 have htn:((i:Int)+1).toNat=i+1:=by omega
 have hb1:(i:Int)+1≤(n:Int):=by omega
 have hb2:(i:Int)+1≤(c:Int):=by omega
 clear hn h hE hg hvl hv1 hEl hdl hW2 hz0
 have hic:i≤c:=by omega
 have hii4:(0:Int)≤(i:Int)+1:=by omega
 have hii3:(i:Int)≤(i:Int)+1:=by omega
 by_cases hce:c=i+1
 ·have HS:=Lib.hid (HNIL.out hce)
  clear HSRC HNIL
  subst hce
  obtain rfl:n=i+1:=by omega
  rw [show i+1 - 1=i from rfl] at HF hcl
  have hw0:=Lib.hid (show w.drew=W2 by rw [HW.out,List.eq_nil_of_length_eq_zero (show cx.length=0 by have:=HDL.out;omega)];rfl)
  go_enter Tryz.func184,Tryz.ntmps184
  go_wp2_with fail
  go_region
  rw [hw0.out]
  go_wp2_with fail
  go_ret
  exact HF.out
 ·have HS:=Lib.hid (HSRC.out hce)
  clear HSRC HNIL
  obtain ⟨m,rfl⟩:∃ m,n=m+1:=⟨n - 1,by omega⟩
  rw [show m+1 - 1=m from rfl] at HF hcl
  have hcx:=Lib.hid (show cx.length=(m - i)*2 by have:=HDL.out;omega)
  have him:i≤m:=by omega
  have hmc:m≤c:=by omega
  have hmc2:m≠c:=by omega
  go_enter Tryz.func184,Tryz.ntmps184
  go_wp2_with fail
  go_region_law (refine step_append_room rfl _ _ 89 rfl 125 i0 2 Tryz.underlying89 hi0 hz1 G 0 i c (by simp [Act.eval,Act.put]) ⟨G,(i+1)*2,none⟩ (m - i) (c - (i+1)) cx (by simp [Act.eval,Act.put]) hcx.out HS.out H1.out (by omega) HSP.out ?_)
  rw [← HW.out]
  go_wp2_with fail
  go_ret
  exact HF.out
theorem Du.cut {w W w4:World} {D lo c G:Nat} {o:Option Nat} {L K:List En} {e:Ending} {vv:Value} (h:Du w D lo o c L) (ho:o=some G) (hb:Below w.heap.size w W) (hi:DelE W G c K e w4) :
  w4.cell? ⟨D,0,none⟩=some (.slice (Ao o) L.length c)∧w4.frozen? ⟨D,0,none⟩=false∧e=.returned (.slice (some ⟨G,0,none⟩) K.length c) ∧
   StepE w D lo o vv K (.returned vv) (w4.setCell ⟨D,0,none⟩ (.slice (some ⟨G,0,none⟩) K.length c)):=by
 subst ho
 obtain ⟨he,hr,hg⟩:=hi
 have hD:=h.lt
 have hDW:D<W.heap.size:=Nat.lt_of_lt_of_le hD hb.size
 have hDG:D≠G:=h.row.2.1
 have hne:some D≠some G:=fun e=>hDG (by injection e)
 have hblk:w4.heap[D]?=w.heap[D]?:=(hg.block D hDW hne).trans (hb.block D hD)
 have c0:=(World.cell?_of_block (a:=⟨D,0,none⟩) hblk).trans h.d0
 have c1:=(World.frozen?_of_block (a:=⟨D,0,none⟩) hblk).trans h.f0
 refine ⟨c0,c1,he,rfl,some G,c,⟨?_,by simpa using c1,h.row.1,hDG,hr.of_block (Below.heap_setCell _ _ _ _ (fun e=>hDG (by simpa using e.symm)))⟩,fun G' e=>.inl e,?_⟩
 ·rw [World.cell?_setCell_same _ _ _ c0];rfl
 ·exact ((Fr.below hb).trans (Fr.grown (Q:=D) hg) (fun k e=>.inl e)).trans (Fr.setQ w4 D _ _) (fun k e=>.inl e)
theorem ddel_any (D lo c:Nat) (o:Option Nat) (L:List En) (s:ByteArray) (w:World) (h:Du w D lo o c L) (hs:Sorted L) (hN:L.length≤1000000) :
  Calls Tryz.prog 143 #[Pq D,.string s] w (StepE w D lo o (getV s L) (ldel s L)):=by
 have HP:=Lib.hid (place_any D lo c o L s w hs hN h)
 unfold PlaceE at HP
 cases ht:thereB s L
 ·obtain ⟨hl,hno⟩:=there_no hs ht
  rw [ht] at HP
  have HF:=Lib.hid (fun W (hb:Below w.heap.size w W)=>(show StepE w D lo o (getV s L) (ldel s L) (.returned (.tuple #[.int .i64 0,.int .i64 2])) W by
   rw [ldel_no hl];unfold getV;rw [hl];exact stepE_same h hb))
  generalize pos s L=k at *
  generalize getV s L=r at *
  generalize ldel s L=K at *
  clear h hs hN ht hl hno
  go_enter Tryz.func143,Tryz.ntmps143
  go_wp2_with fail
  refine HP.out.mono ?_
  rintro e w2 ⟨rfl,hb2⟩
  go_wp2_with fail
  go_ret2
  exact HF.out _ hb2
 ·obtain ⟨x,hx,hxs,hl⟩:=there_yes hs ht
  rw [ht] at HP
  have hk:=(List.getElem?_eq_some_iff.1 hx).1
  obtain ⟨G,ho,-,-⟩:=h.at_ hx
  have HX:=Lib.hid (fun W (hb:Below w.heap.size w W)=>(show W.cell? ⟨G,pos s L*2+1,none⟩=some (.int .i64 x.2) by
   obtain ⟨G',ho',-,f1⟩:=(h.below hb).at_ hx
   rw [ho] at ho';injection ho' with e;subst e;exact f1))
  have HD0:=Lib.hid (fun W (hb:Below w.heap.size w W)=>(h.below hb).d0)
  have HI:=Lib.hid (fun W (hb:Below w.heap.size w W)=>del_any G c (pos s L) L W hk hN (by have:=(h.below hb).row;subst ho;exact this.2.2))
  have HST:=Lib.hid (fun W w4 e (hb:Below w.heap.size w W) hi=>Du.cut (W:=W) (w4:=w4) (e:=e) (K:=L.eraseIdx (pos s L)) (vv:=getV s L) h ho hb hi)
  have HV:=Lib.hid (show getV s L=.tuple #[.int .i64 x.2,.int .i64 0] by unfold getV;rw [hl])
  rw [ldel_at hs hx hxs]
  have hlen:(L.eraseIdx (pos s L)).length≤L.length:=List.length_eraseIdx_le ..
  generalize getV s L=r at *
  generalize L.eraseIdx (pos s L)=K at *
  generalize pos s L=k at *
  generalize L.length=n at *
  obtain ⟨xs,xv⟩:=x
  dsimp only at *
  rw [ho] at HD0
  have HO:=Lib.hid ho
  clear h hs ht hl hx hxs ho
  go_enter Tryz.func143,Tryz.ntmps143
  go_wp2_with fail
  refine HP.out.mono ?_
  rintro e w2 ⟨rfl,hb2⟩
  have f1:=HX.out w2 hb2
  have d0:=HD0.out w2 hb2
  have HI2:=Lib.hid (HI.out w2 hb2)
  have HST2:=Lib.hid (fun w4 e hi=>HST.out w2 w4 e hb2 hi)
  clear hb2 HP HX HD0 HI HST
  go_wp2_with fail
  refine HI2.out.mono ?_
  intro e w4 hi
  obtain ⟨c0,c1,rfl,hst⟩:=HST2.out w4 e hi
  have HR:=Lib.hid hst
  clear hi hst HI2 HST2 d0 f1
  go_wp2_with fail
  go_ret2
  rw [HV.out] at HR ⊢
  exact HR.out
theorem run_eql_nil (w:World) (a:Option Addr) (l c:Nat):(binOp .eql 89 (.slice a l c) (.slice none 0 0)).run Tryz.prog w=.ok (.bool a.isNone) w:=by
 simp only [binOp]
 simp [run_equal_slice_nil w 89 125 a l c Tryz.underlying89]
def AllE (w:World) (L:List En) (e:Ending) (w':World):Prop:=∃ o c',e=.returned (.slice (Ao o) L.length c')∧L.length≤c'∧c'≤maxLen∧Sl w' w.heap.size o c' L∧Below w.heap.size w w'
theorem allE_app {w w':World} {n g cap:Nat} {L:List En} {ob:Obj} (hn:n=L.length) (hown:w'.ownsRow w.heap.size 125 2 (.slice (some ⟨g,0,none⟩) (0+n) cap) (0+n) ([]++encL L))
  (hgr:(w.alloc ob).grownBy w' (Value.slice (some ⟨w.heap.size,0,none⟩) 0 0).ownBlock):AllE w L (.returned (.slice (some ⟨g,0,none⟩) (0+n) cap)) w':=by
 rw [Nat.zero_add,List.nil_append] at hown
 obtain ⟨h1,h2⟩:=ERow.of_owns hown hn
 refine ⟨some g,cap,by rw [Nat.zero_add,hn];rfl,h1.1,h1.2.1,⟨h2,h1⟩,?_⟩
 have hb:=below_alloc w ob
 exact ⟨hgr.os.trans hb.os,hgr.tape.trans hb.tape,hgr.output.trans hb.output,Nat.le_trans hb.size hgr.size,fun k hk=>(hgr.block k (Nat.lt_of_lt_of_le hk hb.size) (fun e=>by simp [Value.ownBlock] at e;omega)).trans (hb.block k hk)⟩
theorem clone_any (c lo:Nat) (o:Option Nat) (L:List En) (w:World) (hN:L.length≤1000000) (h:Sl w lo o c L) :
  Calls Tryz.prog 179 #[.slice (Ao o) L.length c] w (AllE w L):=by
 obtain ⟨i0,hi,hz0,hz1,hz2⟩:=info_parts info37
 have hq27:=run_eql_nil
 cases o with
 | none =>
  obtain ⟨rfl,rfl⟩:=h
  have HF:=Lib.hid (show AllE w [] (.returned (.slice none 0 0)) w from ⟨none,0,rfl,Nat.le_refl _,by unfold maxLen;omega,⟨rfl,rfl⟩,Below.refl _ _⟩)
  clear hi hz0 hz1 hz2
  go_enter Tryz.func179,Tryz.ntmps179
  go_wp2_with fail
  go_ret
  exact HF.out
 | some G =>
  obtain ⟨hlo,hr⟩:=h
  by_cases h0:L=[]
  ·subst h0
   have HF:=Lib.hid (fun ob (hob:ob=Obj.cells #[] 125 (0,0))=>(show AllE w [] (.returned (.slice (some ⟨w.heap.size,0,none⟩) 0 0)) (w.alloc ob) from ⟨some w.heap.size,0,rfl,Nat.le_refl _,by unfold maxLen;omega,⟨Nat.le_refl _,⟨Nat.le_refl _,by unfold maxLen;omega,[],by subst hob;exact heap_alloc_new w _,rfl,rfl⟩⟩,below_alloc _ _⟩))
   go_enter Tryz.func179,Tryz.ntmps179
   go_wp2_with fail
   go_ret
   exact HF.out _ rfl
  ·have hpos:0<L.length:=List.length_pos_iff.2 h0
   have hGw:=hr.lt
   have HO:=Lib.hid (show (w.alloc (.cells #[] 125)).ownsRow w.heap.size 125 2 (.slice (some ⟨w.heap.size,0,none⟩) 0 0) 0 [] from ⟨rfl,.inr ⟨w.heap.size,0,#[],rfl,Nat.le_refl _,heap_alloc_new w _,Nat.le_refl _,by unfold maxLen;omega,rfl,rfl⟩⟩)
   have HX:=Lib.hid (fun ob=>(show ∀ j u,(encL L)[j]?=some u→(w.alloc ob).cell? ((⟨G,0,none⟩:Addr).add j)=some u from fun j u hj=>by
    rw [Addr.add_lit,Nat.zero_add,(below_alloc w ob).cell (p:=⟨G,j,none⟩) hGw];exact hr.cells hj))
   have HF:=Lib.hid (fun w' g cap ob a b=>allE_app (w:=w) (w':=w') (g:=g) (cap:=cap) (ob:=ob) (L:=L) rfl a b)
   have HL:=Lib.hid (encL_length L)
   have H1:=Lib.hid (encL_one L)
   generalize hn:L.length=n at *
   generalize encL L=cl at *
   have HN:=Lib.hid hn
   clear hn hr h0
   go_enter Tryz.func179,Tryz.ntmps179
   go_wp2_with (at_builtin;refine wpList_append_lies _ (by rfl) _ _ _ (by rfl) w.heap.size 125 i0 _ 2 24 Tryz.underlying89 hi hz0 hz1 hz2 (by rfl) (by decide) _ _ [] (by rfl) HO.out ⟨G,0,none⟩ n c cl (by rfl) HL.out (HX.out _) H1.out (by omega) (by unfold maxLen;omega) (by omega) (by simp) _ rfl ?_;intro gg cap w3 hown1 hgrow hat hlt3)
   go_ret
   first|exact HF.out _ _ _ _ hown1 hgrow|(rw [Nat.zero_add] at *;exact HF.out _ _ _ _ hown1 hgrow)
theorem all_any (D lo c:Nat) (o:Option Nat) (L:List En) (w:World) (hN:L.length≤1000000) (h:Du w D lo o c L) :
  Calls Tryz.prog 130 #[Pq D] w (AllE w L):=by
 have HC:=Lib.hid (clone_any c lo o L w hN h.sl)
 have d0:=h.d0
 generalize L.length=n at *
 clear h
 go_enter Tryz.func130,Tryz.ntmps130
 go_wp2_with fail
 refine HC.out.mono ?_
 intro e w2 hE
 obtain ⟨o2,c2,rfl,h2⟩:=id hE
 have HE:=Lib.hid hE
 clear hE h2
 go_wp2_with fail
 go_ret
 exact HE.out
def Same (X:Nat→Prop) (w w':World):Prop:=∀ b,X b→w'.heap[b]?=w.heap[b]?
theorem getD_data (s:ByteArray) (j:Nat) (h:j<s.size):s[j]=s.data.toList[j]'(by rw [← Lib.size_eq];exact h):=by rfl
theorem rhas_any (s:ByteArray) (c:UInt8) (b:Bool) (w:World) (hm:s.size≤9223372036854775807) (hb:decide (c∈s.data.toList)=b):Calls Tryz.prog 212 #[.string s,.int .u8 (c.toNat:Int)] w fun e w'=>e=.returned (.bool b)∧w=w':=by
 have HB:=Lib.hid hb
 clear hb
 go_enter Tryz.func212,Tryz.ntmps212
 go_wp2_with fail
 go_loopg [5] s.size (fun g i wr=>∃ j:Nat,j≤s.size∧g+j=s.size∧i=.int .i64 j∧Hid (∀ x∈s.data.toList.take j,x≠c)∧w=wr)
 case atStart=>exact ⟨0,by omega,by omega,rfl,(by show ∀ _,_;simp),rfl⟩
 case round =>
  obtain ⟨j,hj,hg,rfl,HN,rfl⟩:=hrel
  by_cases hjl:j<s.size
  ·have hjL:j<s.data.toList.length:=by rw [← Lib.size_eq];exact hjl
   by_cases h:s[j]=c
   ·have hT:(((s[j]).toNat:Int) == (c.toNat:Int))=true:=by rw [h];simp
    have hbt:b=true:=by
     rw [← HB.out]
     exact decide_eq_true (by rw [← h,getD_data s j hjl];exact List.getElem_mem _)
    subst hbt
    clear h
    go_wp2_with fail
    try rw [Exit.noGoto_ret]
    go_ret
    exact ⟨rfl,rfl⟩
   ·have hT:(((s[j]).toNat:Int) == (c.toNat:Int))=false:=by
     rw [beq_eq_false_iff_ne]
     intro e
     exact h (UInt8.toNat_inj.1 (by omega))
    have HN':Hid (∀ x∈s.data.toList.take (j+1),x≠c):=by
     show ∀ _,_
     rw [List.take_succ_eq_append_getElem hjL]
     intro x hx
     rw [List.mem_append,List.mem_singleton] at hx
     rcases hx with hx|rfl
     ·exact HN.out x hx
     ·rw [← getD_data s j hjl];exact h
    clear h
    go_wp2_with fail
    go_roundg (gk - 1)
    case measure=>omega
    case rel=>exact ⟨j+1,by omega,by omega,by go_num,HN',rfl⟩
  ·have hbt:b=false:=by
    rw [← HB.out]
    refine decide_eq_false (fun hc=>?_)
    have:=HN.out c (by rw [List.take_of_length_le (by rw [← Lib.size_eq];omega)];exact hc)
    exact this rfl
   subst hbt
   have hkl:¬ ((j:Int)<(s.size:Int)):=by omega
   clear hjl
   go_wp2_with fail
   go_ret
   exact ⟨rfl,rfl⟩
theorem rhas0 (s:ByteArray) (b:Bool) (w:World) (hm:s.size≤9223372036854775807) (hb:decide ((0:UInt8)∈s.data.toList)=b):Calls Tryz.prog 212 #[.string s,.int .u8 0] w fun e w'=>e=.returned (.bool b)∧w=w':=rhas_any s 0 b w hm hb
theorem rhas47 (s:ByteArray) (b:Bool) (w:World) (hm:s.size≤9223372036854775807) (hb:decide ((47:UInt8)∈s.data.toList)=b):Calls Tryz.prog 212 #[.string s,.int .u8 47] w fun e w'=>e=.returned (.bool b)∧w=w':=rhas_any s 47 b w hm hb
theorem rname_any (s:ByteArray) (w:World) (hm:s.size≤9223372036854775807):Calls Tryz.prog 162 #[.string s] w (NameE w s.data.toList):=by
 by_cases h0:s.size=0
 ·have HR:=Lib.hid (show nerr s.data.toList=2 by unfold nerr;rw [if_pos (List.eq_nil_of_length_eq_zero (by rw [← Lib.size_eq];exact h0))])
  go_enter Tryz.func162,Tryz.ntmps162
  go_wp2_with fail
  go_ret
  exact ⟨by rw [HR.out];rfl,Below.refl _ _⟩
 ·have hne:s.data.toList≠[]:=fun e=>h0 (by rw [Lib.size_eq,e];rfl)
  by_cases h60:60<s.size
  ·have HR:=Lib.hid (show nerr s.data.toList=36 by unfold nerr;rw [if_neg hne,if_pos (by rw [← Lib.size_eq];exact h60)])
   clear hne
   go_enter Tryz.func162,Tryz.ntmps162
   go_wp2_with fail
   go_ret
   exact ⟨by rw [HR.out];rfl,Below.refl _ _⟩
  ·have HF:=Lib.hid (show nerr s.data.toList=if (decide ((0:UInt8)∈s.data.toList) || decide ((47:UInt8)∈s.data.toList))=true then 22 else 0 by
    unfold nerr;rw [if_neg hne,if_neg (by rw [← Lib.size_eq];exact h60)];simp)
   clear hne
   have hA:=fun w=>rhas0 s _ w hm rfl
   have hB:=fun w=>rhas47 s _ w hm rfl
   generalize decide ((0:UInt8)∈s.data.toList)=b0 at *
   generalize decide ((47:UInt8)∈s.data.toList)=b47 at *
   unfold NameE
   cases b0
   ·cases b47
    ·go_enter Tryz.func162,Tryz.ntmps162
     go_wp2_with fail
     refine (hA _).mono ?_
     rintro e w' ⟨rfl,rfl⟩
     go_wp2_with fail
     refine (hB _).mono ?_
     rintro e w' ⟨rfl,rfl⟩
     go_wp2_with fail
     go_ret
     exact ⟨by rw [HF.out];rfl,Below.refl _ _⟩
    ·go_enter Tryz.func162,Tryz.ntmps162
     go_wp2_with fail
     refine (hA _).mono ?_
     rintro e w' ⟨rfl,rfl⟩
     go_wp2_with fail
     refine (hB _).mono ?_
     rintro e w' ⟨rfl,rfl⟩
     go_wp2_with fail
     go_ret
     exact ⟨by rw [HF.out];rfl,Below.refl _ _⟩
   ·go_enter Tryz.func162,Tryz.ntmps162
    go_wp2_with fail
    refine (hA _).mono ?_
    rintro e w' ⟨rfl,rfl⟩
    go_wp2_with fail
    go_ret
    exact ⟨by rw [HF.out];rfl,Below.refl _ _⟩
theorem bl_pre (p a b:Bs):Op.bytesLess (p++a) (p++b)=Op.bytesLess a b:=by
 induction p with
 | nil=>rfl
 | cons x p ih=>simp [Op.bytesLess,ih]
theorem bl_at (a b:Bs) (j:Nat) (h:a.take j=b.take j):Op.bytesLess a b=Op.bytesLess (a.drop j) (b.drop j):=by
 conv=>lhs;rw [← List.take_append_drop j a,← List.take_append_drop j b,h]
 exact bl_pre _ _ _
theorem bl_head (x y:UInt8) (a b:Bs) (h:x≠y):Op.bytesLess (x::a) (y::b)=decide (x.toNat<y.toNat):=by
 have h2:(x == y)=false:=by simpa using h
 simp only [Op.bytesLess,h2,Bool.false_and,Bool.or_false]
 by_cases hl:x<y
 ·rw [decide_eq_true hl,decide_eq_true (UInt8.lt_iff_toNat_lt.1 hl)]
 ·rw [decide_eq_false hl,decide_eq_false (fun e=>hl (UInt8.lt_iff_toNat_lt.2 e))]
theorem bl_nil (a b:Bs) (h:a=[]∨b=[]):Op.bytesLess a b=decide (a.length<b.length):=by
 cases a with
 | nil=>cases b <;> simp [Op.bytesLess]
 | cons x a =>
  rcases h with h|h
  ·exact absurd h (by simp)
  ·subst h;simp [Op.bytesLess]
theorem rless_any (a b:ByteArray) (w:World) (ha:a.size≤9223372036854775807) (hb:b.size≤9223372036854775807):Calls Tryz.prog 83 #[.string a,.string b] w fun e w'=>e=.returned (.bool (lessB a b))∧Below w.heap.size w w':=by
 have HB:∀ r,Op.bytesLess a.data.toList b.data.toList=r→Hid (lessB a b=r):=fun r h=>Lib.hid (by rw [← h];simp [lessB,Lib.toList_data])
 go_enter Tryz.func83,Tryz.ntmps83
 go_wp2_with fail
 go_loopg [5] a.size (fun g i wr=>∃ j:Nat,j≤a.size∧j≤b.size∧g+j=a.size∧i=.int .i64 j∧Hid (a.data.toList.take j=b.data.toList.take j)∧Below w.heap.size w wr)
 case atStart=>exact ⟨0,by omega,by omega,by omega,rfl,Lib.hid (by simp),Below.refl _ _⟩
 case round =>
  obtain ⟨j,hja,hjb,hg,rfl,HT,hbr⟩:=hrel
  by_cases h1:j<a.size
  ·by_cases h2:j<b.size
   ·have hA:j<a.data.toList.length:=by rw [← Lib.size_eq];exact h1
    have hB:j<b.data.toList.length:=by rw [← Lib.size_eq];exact h2
    have dA:a.data.toList.drop j=a[j]::a.data.toList.drop (j+1):=by rw [List.drop_eq_getElem_cons hA,getD_data a j h1]
    have dB:b.data.toList.drop j=b[j]::b.data.toList.drop (j+1):=by rw [List.drop_eq_getElem_cons hB,getD_data b j h2]
    by_cases h:a[j]=b[j]
    ·have hT:(((a[j]).toNat:Int) != ((b[j]).toNat:Int))=false:=by rw [h];simp
     have HT':=Lib.hid (show a.data.toList.take (j+1)=b.data.toList.take (j+1) by
      rw [List.take_succ_eq_append_getElem hA,List.take_succ_eq_append_getElem hB,HT.out,← getD_data a j h1,← getD_data b j h2,h])
     clear h dA dB HB
     go_wp2_with fail
     go_region
     all_goals
      go_wp2_with fail
      go_roundg (gk - 1)
      case measure=>omega
      case rel=>exact ⟨j+1,by omega,by omega,by omega,by go_num,HT',hbr.drew⟩
    ·have hT:(((a[j]).toNat:Int) != ((b[j]).toNat:Int))=true:=by
      rw [bne_iff_ne];intro e;exact h (UInt8.toNat_inj.1 (by omega))
     have HR:=HB (decide ((a[j]).toNat<(b[j]).toNat)) (by rw [bl_at _ _ j HT.out,dA,dB,bl_head _ _ _ _ h])
     clear h dA dB HB
     go_wp2_with fail
     go_region
     all_goals
      go_wp2_with fail
      go_region
      all_goals
       go_wp2_with fail
       try rw [Exit.noGoto_ret]
       go_ret
       exact ⟨by rw [HR.out];rfl,hbr.drew.drew⟩
   ·have HR:=HB (decide (a.size<b.size)) (by
     rw [bl_at _ _ j HT.out,bl_nil _ _ (.inr (List.drop_eq_nil_of_le (by rw [← Lib.size_eq];omega))),List.length_drop,List.length_drop,← Lib.size_eq,← Lib.size_eq]
     rw [Bool.eq_iff_iff];simp;omega)
    have hjn:¬ ((j:Int)<(b.size:Int)):=by omega
    clear HB h2
    go_wp2_with fail
    go_ret
    exact ⟨by rw [HR.out];rfl,hbr⟩
  ·have HR:=HB (decide (a.size<b.size)) (by
    rw [bl_at _ _ j HT.out,bl_nil _ _ (.inl (List.drop_eq_nil_of_le (by rw [← Lib.size_eq];omega))),List.length_drop,List.length_drop,← Lib.size_eq,← Lib.size_eq]
    rw [Bool.eq_iff_iff];simp;omega)
   have hjn:¬ ((j:Int)<(a.size:Int)):=by omega
   clear HB h1
   go_wp2_with fail
   go_ret
   exact ⟨by rw [HR.out];rfl,hbr⟩
theorem find_at {L:List En} {p:En→Bool} {k:Nat} {x:En} (hx:L[k]?=some x) (hp:p x=true) (hb:∀ e∈L.take k,p e=false):L.find? p=some x:=by
 have hk:=(List.getElem?_eq_some_iff.1 hx).1
 have hxx:L[k]=x:=(List.getElem?_eq_some_iff.1 hx).2
 have e:L=L.take k++x::L.drop (k+1):=by rw [← hxx,List.getElem_cons_drop,List.take_append_drop]
 have h1:(L.take k).find? p=none:=List.find?_eq_none.2 fun y hy=>by rw [hb y hy];decide
 rw [e,List.find?_append,h1,List.find?_cons,hp]
 rfl
theorem before_next {L:List En} {p:En→Bool} {k:Nat} {x:En} (hx:L[k]?=some x) (hp:p x=false) (hb:∀ e∈L.take k,p e=false):∀ e∈L.take (k+1),p e=false:=by
 rw [List.take_add_one,hx]
 intro e he
 rcases List.mem_append.1 he with he|he
 ·exact hb e he
 ·simp at he;rw [he];exact hp
theorem below_grown_far {w w1 w2:World} {B:Nat} (h:Below w.heap.size w w1) (hg:w1.grownBy w2 (some B)) (hB:w.heap.size≤B):Below w.heap.size w w2 :=
 h.trans ⟨hg.os,hg.tape,hg.output,hg.size,fun k hk=>hg.block k (by have:=h.size;omega) (fun e=>by injection e with e;omega)⟩
theorem lo_next {lo gg g2 k cap M:Nat} (hlo:lo≤gg) (hM:lo≤M) (hat:(Value.slice (some ⟨gg,0,none⟩) k cap).ownBlock=some g2∨g2=M):lo≤g2:=by
 rcases hat with e|e
 ·have h:gg=g2:=by simpa [Value.ownBlock] using e
  rw [← h];exact hlo
 ·rw [e];exact hM
theorem app_owns {w w':World} {gg cap k:Nat} {K:List En} (h:ERow w gg cap K) (hk:k=K.length) (hb:Below w.heap.size w w'):w'.ownsRow 0 125 2 (.slice (some ⟨gg,0,none⟩) k cap) k (encL K):=by
 subst hk
 exact (h.of_block (hb.block gg h.lt)).owns (Nat.zero_le _)
theorem app_row {w:World} {gg cap k:Nat} {K:List En} {x:En} (h:w.ownsRow 0 125 2 (.slice (some ⟨gg,0,none⟩) (k+1) cap) (k+1) (encL K++encL [x])) (hk:k=K.length):ERow w gg cap (K++[x]):=by
 rw [← encL_append] at h
 exact (ERow.of_owns h (by simp [hk])).1
theorem row_new (w:World):ERow (w.alloc (.cells #[] 125)) w.heap.size 0 []:=⟨Nat.le_refl _,by unfold maxLen;omega,[],heap_alloc_new w _,rfl,rfl⟩
def rstep (s:ByteArray) (v:Int) (st:List En×Bool) (x:En):List En×Bool :=
 let st1:=if !st.2 && !lessB x.1 s then (st.1++[(s,v)],true) else st
 (if x.1=s then st1.1 else st1.1++[x],st1.2)
def rfold (s:ByteArray) (v:Int) (l:List En):List En×Bool:=l.foldl (rstep s v) ([],false)
theorem rfold_next {s:ByteArray} {v:Int} {L:List En} {k:Nat} {x:En} (hx:L[k]?=some x):rfold s v (L.take (k+1))=rstep s v (rfold s v (L.take k)) x:=by
 unfold rfold
 rw [List.take_add_one,hx,List.foldl_append]
 rfl
theorem rfold_done (s:ByteArray) (v:Int) (l:List En) (out:List En) (h:∀ x∈l,x.1≠s):l.foldl (rstep s v) (out,true)=(out++l,true):=by
 induction l generalizing out with
 | nil=>simp
 | cons x l ih =>
  rw [List.foldl_cons]
  have:rstep s v (out,true) x=(out++[x],true):=by simp [rstep,h x (by simp)]
  rw [this,ih _ (fun y hy=>h y (by simp [hy]))]
  simp
theorem rfold_lset (s:ByteArray) (v:Int) (l out:List En) (h:Sorted l):(let st:=l.foldl (rstep s v) (out,false);if st.2 then st.1 else st.1++[(s,v)])=out++lset s v l:=by
 induction l generalizing out with
 | nil=>simp [lset]
 | cons x l ih =>
  obtain ⟨h1,h2⟩:=h.cons
  rw [List.foldl_cons]
  unfold lset
  by_cases hx:lessB x.1 s=true
  ·rw [if_pos hx]
   have:rstep s v (out,false) x=(out++[x],false):=by simp [rstep,hx,less_ne hx]
   rw [this,ih _ h1]
   simp
  ·rw [if_neg hx]
   have hx':lessB x.1 s=false:=by simpa using hx
   by_cases hs:x.1=s
   ·rw [if_pos hs]
    have:rstep s v (out,false) x=(out++[(s,v)],true):=by simp [rstep,hs,less_irrefl]
    rw [this,rfold_done s v l _ (fun y hy e=>less_ne (h2 y hy) (hs.trans e.symm))]
    simp
   ·rw [if_neg hs]
    have:rstep s v (out,false) x=(out++[(s,v)]++[x],true):=by simp [rstep,hx',hs]
    rw [this,rfold_done s v l _ (fun y hy e=>less_ne (less_trans (less_of hs hx') (h2 y hy)) e.symm)]
    simp
theorem rfold_all {s:ByteArray} {v:Int} {L K:List En} {d:Bool} (h:Sorted L) (hf:rfold s v L=(K,d)):lset s v L=if d then K else K++[(s,v)]:=by
 have:=rfold_lset s v L [] h
 unfold rfold at hf
 rw [hf] at this
 simpa using this.symm
end Go.Proofs.YtgoddboicjfkcaaGreat.dn
