/- Part 31 of what is known of the program's functions and of the document's words: contracts, and the mathematics beneath them. -/
import Derived.Test.YtgoddboicjfkcaaGreatProg
import Derived.Test.YtgoddboicjfkcaaGreatZ30
import Derived.Shelf.GgSortFunc.Whole
import Derived.Shelf.GgSortFunc.Tiny
import Derived.Deep.QuietTactic
import Derived.Lib.RowBridge
import Derived.Lib.SortBridge
import Derived.Sort.LotA
import Derived.Laws.AppendOwn
import Derived.Deep.LoopGhost
set_option linter.unusedVariables false
set_option linter.unusedSimpArgs false
set_option maxRecDepth 100000
set_option maxHeartbeats 8000000
namespace Go.Proofs.YtgoddboicjfkcaaGreat.mg
open Go.Shelf Go.RowKit Go.Lib Go.Sort
open dn (lessB)
set_option maxRecDepth 100000
def sl6_ren:Go.Shelf.Ren:=⟨fun|6=>79|10=>148|11=>149|12=>150|13=>151|14=>152|24=>194|25=>195|26=>196|27=>197|28=>198|29=>199|30=>200|31=>201|32=>202|33=>203|34=>221|35=>222|36=>223|37=>224|38=>225|39=>235|n=>n,fun|20=>20|26=>123|35=>208|0=>0|37=>210|3=>3|41=>213|44=>216|49=>265|51=>204|4=>4|54=>269|53=>268|58=>236|5=>5|9=>9|60=>301|64=>305|66=>318|67=>319|17=>17|32=>205|33=>206|82=>339|12=>12|75=>333|76=>334|77=>335|78=>253|79=>336|80=>337|n=>n,fun|n=>n⟩
theorem sl6:Go.Proofs.LaysGg.n6 Tryz.prog sl6_ren:={
 mixed:=by kernel_rfl
 f6:=Tryz.func79.trans (congrArg some (by kernel_rfl))
 f10:=Tryz.func148.trans (congrArg some (by kernel_rfl))
 f11:=Tryz.func149.trans (congrArg some (by kernel_rfl))
 f12:=Tryz.func150.trans (congrArg some (by kernel_rfl))
 f13:=Tryz.func151.trans (congrArg some (by kernel_rfl))
 f14:=Tryz.func152.trans (congrArg some (by kernel_rfl))
 f24:=Tryz.func194.trans (congrArg some (by kernel_rfl))
 f25:=Tryz.func195.trans (congrArg some (by kernel_rfl))
 f26:=Tryz.func196.trans (congrArg some (by kernel_rfl))
 f27:=Tryz.func197.trans (congrArg some (by kernel_rfl))
 f28:=Tryz.func198.trans (congrArg some (by kernel_rfl))
 f29:=Tryz.func199.trans (congrArg some (by kernel_rfl))
 f30:=Tryz.func200.trans (congrArg some (by kernel_rfl))
 f31:=Tryz.func201.trans (congrArg some (by kernel_rfl))
 f32:=Tryz.func202.trans (congrArg some (by kernel_rfl))
 f33:=Tryz.func203.trans (congrArg some (by kernel_rfl))
 f34:=Tryz.func221.trans (congrArg some (by kernel_rfl))
 f35:=Tryz.func222.trans (congrArg some (by kernel_rfl))
 f36:=Tryz.func223.trans (congrArg some (by kernel_rfl))
 f37:=Tryz.func224.trans (congrArg some (by kernel_rfl))
 f38:=Tryz.func225.trans (congrArg some (by kernel_rfl))
 f39:=Tryz.func235.trans (congrArg some (by kernel_rfl))
 t0:=Tryz.underlying0
 a0:=Tryz.isAgg0
 z0:=Tryz.sizeOf0
 v0:=Tryz.zeroValue0
 i0:=by kernel_rfl
 t3:=Tryz.underlying3
 a3:=Tryz.isAgg3
 z3:=Tryz.sizeOf3
 v3:=Tryz.zeroValue3
 i3:=by kernel_rfl
 t4:=Tryz.underlying4
 a4:=Tryz.isAgg4
 z4:=Tryz.sizeOf4
 v4:=Tryz.zeroValue4
 i4:=by kernel_rfl
 t5:=Tryz.underlying5
 a5:=Tryz.isAgg5
 z5:=Tryz.sizeOf5
 v5:=Tryz.zeroValue5
 i5:=by kernel_rfl
 t9:=Tryz.underlying9
 a9:=Tryz.isAgg9
 z9:=Tryz.sizeOf9
 v9:=Tryz.zeroValue9
 i9:=by kernel_rfl
 t12:=Tryz.underlying12
 a12:=Tryz.isAgg12
 z12:=Tryz.sizeOf12
 v12:=Tryz.zeroValue12
 i12:=by kernel_rfl
 t17:=Tryz.underlying17
 a17:=Tryz.isAgg17
 z17:=Tryz.sizeOf17
 v17:=Tryz.zeroValue17
 i17:=by kernel_rfl
 t20:=Tryz.underlying20
 a20:=Tryz.isAgg20
 z20:=Tryz.sizeOf20
 v20:=Tryz.zeroValue20
 i20:=by kernel_rfl
 t26:=Tryz.underlying123
 a26:=Tryz.isAgg123
 z26:=Tryz.sizeOf123
 v26:=Tryz.zeroValue123
 i26:=by kernel_rfl
 t32:=Tryz.underlying205
 a32:=Tryz.isAgg205
 z32:=Tryz.sizeOf205
 v32:=Tryz.zeroValue205
 i32:=by kernel_rfl
 t33:=Tryz.underlying206
 a33:=Tryz.isAgg206
 z33:=Tryz.sizeOf206
 v33:=Tryz.zeroValue206
 i33:=by kernel_rfl
 t35:=Tryz.underlying208
 a35:=Tryz.isAgg208
 z35:=Tryz.sizeOf208
 v35:=Tryz.zeroValue208
 i35:=by kernel_rfl
 t37:=Tryz.underlying210
 a37:=Tryz.isAgg210
 z37:=Tryz.sizeOf210
 v37:=Tryz.zeroValue210
 i37:=by kernel_rfl
 t41:=Tryz.underlying213
 a41:=Tryz.isAgg213
 z41:=Tryz.sizeOf213
 v41:=Tryz.zeroValue213
 i41:=by kernel_rfl
 t44:=Tryz.underlying216
 a44:=Tryz.isAgg216
 z44:=Tryz.sizeOf216
 v44:=Tryz.zeroValue216
 i44:=by kernel_rfl
 t49:=Tryz.underlying265
 a49:=Tryz.isAgg265
 z49:=Tryz.sizeOf265
 v49:=Tryz.zeroValue265
 i49:=by kernel_rfl
 t51:=Tryz.underlying204
 a51:=Tryz.isAgg204
 z51:=Tryz.sizeOf204
 v51:=Tryz.zeroValue204
 i51:=by kernel_rfl
 t53:=Tryz.underlying268
 a53:=Tryz.isAgg268
 z53:=Tryz.sizeOf268
 v53:=Tryz.zeroValue268
 i53:=by kernel_rfl
 t54:=Tryz.underlying269
 a54:=Tryz.isAgg269
 z54:=Tryz.sizeOf269
 v54:=Tryz.zeroValue269
 i54:=by kernel_rfl
 t58:=Tryz.underlying236
 a58:=Tryz.isAgg236
 z58:=Tryz.sizeOf236
 v58:=Tryz.zeroValue236
 i58:=by kernel_rfl
 t60:=Tryz.underlying301
 a60:=Tryz.isAgg301
 z60:=Tryz.sizeOf301
 v60:=Tryz.zeroValue301
 i60:=by kernel_rfl
 t64:=Tryz.underlying305
 a64:=Tryz.isAgg305
 z64:=Tryz.sizeOf305
 v64:=Tryz.zeroValue305
 i64:=by kernel_rfl
 t66:=Tryz.underlying318
 a66:=Tryz.isAgg318
 z66:=Tryz.sizeOf318
 v66:=Tryz.zeroValue318
 i66:=by kernel_rfl
 t67:=Tryz.underlying319
 a67:=Tryz.isAgg319
 z67:=Tryz.sizeOf319
 v67:=Tryz.zeroValue319
 i67:=by kernel_rfl
 t75:=Tryz.underlying333
 a75:=Tryz.isAgg333
 z75:=Tryz.sizeOf333
 v75:=Tryz.zeroValue333
 i75:=by kernel_rfl
 t76:=Tryz.underlying334
 a76:=Tryz.isAgg334
 z76:=Tryz.sizeOf334
 v76:=Tryz.zeroValue334
 i76:=by kernel_rfl
 t77:=Tryz.underlying335
 a77:=Tryz.isAgg335
 z77:=Tryz.sizeOf335
 v77:=Tryz.zeroValue335
 i77:=by kernel_rfl
 t78:=Tryz.underlying253
 a78:=Tryz.isAgg253
 z78:=Tryz.sizeOf253
 v78:=Tryz.zeroValue253
 i78:=by kernel_rfl
 t79:=Tryz.underlying336
 a79:=Tryz.isAgg336
 z79:=Tryz.sizeOf336
 v79:=Tryz.zeroValue336
 i79:=by kernel_rfl
 t80:=Tryz.underlying337
 a80:=Tryz.isAgg337
 z80:=Tryz.sizeOf337
 v80:=Tryz.zeroValue337
 i80:=by kernel_rfl
 t82:=Tryz.underlying339
 a82:=Tryz.isAgg339
 z82:=Tryz.sizeOf339
 v82:=Tryz.zeroValue339
 i82:=by kernel_rfl }
noncomputable def siT:TypeInfo:=(Tryz.prog.info? 43).get (by kernel_rfl)
noncomputable def siE:TypeInfo:=(Tryz.prog.info? 9).get (by kernel_rfl)
theorem siK (n:Nat) (h2:2≤n):Lib.swapperK n siE 24=4:=by
 have a:siE.hasPointers=true:=by kernel_rfl
 have b:siE.bytes=16:=by kernel_rfl
 have c:(n == 0)=false:=by simp;omega
 have d:(n == 1)=false:=by simp;omega
 simp [Lib.swapperK,a,b,c,d]
theorem swo_less:SWO lessB where
 irrefl:=dn.less_irrefl
 trans:=fun x y z h1 h2=>dn.less_trans h1 h2
 ntrans:=fun x y z h1 h2=>by
  by_cases e1:x=y
  ·rw [e1];exact h2
  ·by_cases e2:y=z
   ·rw [← e2];exact h1
   ·exact dn.less_asymm (dn.less_trans (dn.less_of e2 h2) (dn.less_of e1 h1))
theorem less_names (blk off c Bs size:Nat) (W:World) (G:Nat→ByteArray) (hs:W.cell? ⟨Bs,0,none⟩=some (.slice (some ⟨blk,off,none⟩) size c))
  (hc:∀ t,t<size→W.cell? ⟨blk,off+t,none⟩=some (.string (G t))) (i j:Nat) (hi:i<size) (hj:j<size) :
  Calls Tryz.prog 80 #[.int .i64 i,.int .i64 j,.pointer (some ⟨Bs,0,none⟩)] W fun e w'=>e=.returned (.bool (lessB (G i) (G j)))∧∃ q,w'=W.drewN q:=by
 have ci:=hc i hi
 have cj:=hc j hj
 have hC:=Lib.hid (fun W=>dn.less_any (G i) (G j) W)
 clear hc
 generalize lessB (G i) (G j)=r at *
 generalize G i=x at *
 generalize G j=y at *
 go_enter Tryz.func80,Tryz.ntmps80
 go_wp2_with fail
 go_quiet ((go_at_call 81;with_reducible exact Calls.quiet_of_same (hC.out _)))
 go_wp2_with fail
 go_ret
 exact ⟨rfl,nq,rfl⟩
theorem sort_more (blk off c Bs:Nat) (d:Array ByteArray) (h2:2≤d.size) (h12:d.size<4611686018427387904) (w:World) (hB:w.cell? ⟨Bs,0,none⟩=some (.slice (some ⟨blk,off,none⟩) d.size c)) (hne:Bs≠blk) (hH:Holds Value.string w blk off d) (hblk:blk<w.heap.size) :
  Calls Tryz.prog 79 #[.iface 43 (.slice (some ⟨blk,off,none⟩) d.size c),.func (.func 80) #[] #[.pointer (some ⟨Bs,0,none⟩)]] w fun e w' =>
   e=.returned (.tuple #[])∧∃ d' n os,PermIn 0 d.size d d'∧SortedIn lessB 0 d.size d'∧w'=grow (putRow Value.string (Sort.ahead w n) blk off d') os:=by
 have hBs:Bs<w.heap.size:=World.block_lt_of_cell? _ _ hB
 have hless:LessReads Tryz.prog 80 #[.pointer (some ⟨Bs,0,none⟩)] Value.string lessB blk off d.size w:=by
  intro m os dk hs i j hi hj
  have e:sortWorld Value.string w blk off m dk os=putRow Value.string (grow (Sort.ahead w m) os) blk off dk:=by
   unfold sortWorld;rw [putRow_grow _ (Sort.ahead w m) _ blk off _ hblk]
  have hHg:Holds Value.string (grow (Sort.ahead w m) os) blk off d:=holds_grow _ _ _ blk off d hblk (holds_ahead _ _ _ _ _ _ hH)
  refine less_names blk off c Bs d.size _ (fun t=>dk[t]!) ?_ (fun t ht=>?_) i j hi hj
  ·rw [e,cell?_putRow_other _ _ blk off dk _ (Or.inl hne),cell?_grow _ _ _ (show Bs<w.heap.size from hBs)]
   exact hB
  ·rw [e];exact cell?_putRow _ _ blk off d dk hHg hs t (by omega)
 exact Any.sort_Slice_sorted sl6 43 9 siT siE (by kernel_rfl) (by kernel_rfl) (by kernel_rfl) (by kernel_rfl) 24 (fun _=>by kernel_rfl) (by kernel_rfl) (fun _=>by kernel_rfl) Value.string (fun _=>rfl) lessB swo_less 80 _
  (enters_of Tryz.func80 (by kernel_rfl) rfl) blk off c d h2 h12 188 (by rw [siK _ h2];kernel_rfl) true
  (fun args W=>run_callFunc_extern Tryz.func188 (by kernel_rfl) (by kernel_rfl) (by kernel_rfl) (e:=Extern.ReflectliteSwapper.swap true) (by kernel_rfl) args W) _ hless hH hblk
theorem sort_few (p:Option Addr) (n c:Nat) (h1:n≤1) (cl:Array Value) (w:World) :
  Calls Tryz.prog 79 #[.iface 43 (.slice p n c),.func (.func 80) #[] cl] w fun e w'=>e=.returned (.tuple #[])∧∃ os,w'=grow w os:=by
 have hK:Lib.swapperK n siE 24=n+1:=by
  rcases Nat.eq_zero_or_pos n with h|h
  ·subst h;simp [Lib.swapperK]
  ·obtain rfl:n=1:=by omega
   simp [Lib.swapperK]
 exact Any.sort_Slice_tiny sl6 43 9 siT siE (by kernel_rfl) (by kernel_rfl) (by kernel_rfl) (by kernel_rfl) 24 (fun _=>by kernel_rfl) p n c h1 (185+n) (by
  rw [hK]
  rcases Nat.eq_zero_or_pos n with h|h
  ·subst h;kernel_rfl
  ·obtain rfl:n=1:=by omega
   kernel_rfl) (.func 80) #[] cl w
end Go.Proofs.YtgoddboicjfkcaaGreat.mg
namespace Go.Proofs.YtgoddboicjfkcaaGreat.mg
open Go.RowKit
open dn (En lget lset ldel nerr dotB Sorted lessB)
open br (BS Ino Inv fresh)
open cb (BrX RetW RetI No)
open bl (Pq Only)
open Go.Maps (IsMap)
theorem info_parts9:∃ i:TypeInfo,Tryz.prog.info? 9=some i∧i.zero=some (.string ⟨#[]⟩)∧i.size=1∧i.bytes=16:=⟨(Tryz.prog.info? 9).get (by kernel_rfl),by kernel_rfl,by kernel_rfl,by kernel_rfl,by kernel_rfl⟩
def NR (w:World) (lo:Nat) (A:Option Addr) (l:List ByteArray):Prop:=∀ k x,l[k]?=some x→∃ G,A=some ⟨G,0,none⟩∧lo≤G∧G<w.heap.size∧w.cell? ⟨G,k,none⟩=some (.string x)∧w.frozen? ⟨G,k,none⟩=false
theorem NR.same {w w':World} {lo:Nat} {A:Option Addr} {l:List ByteArray} (h:NR w lo A l) (hs:w.heap.size≤w'.heap.size) (hk:∀ b,lo≤b→b<w.heap.size→w'.heap[b]?=w.heap[b]?):NR w' lo A l:=fun k x hx=>by
 obtain ⟨G,e,h1,h2,h3,h4⟩:=h k x hx
 exact ⟨G,e,h1,Nat.lt_of_lt_of_le h2 hs,(World.cell?_of_block (a:=⟨G,k,none⟩) (hk G h1 h2)).trans h3,(World.frozen?_of_block (a:=⟨G,k,none⟩) (hk G h1 h2)).trans h4⟩
theorem NR.nil (w:World) (lo:Nat) (A:Option Addr):NR w lo A []:=fun k x h=>by cases h
def AllE (w:World) (U L:BS) (n:Nd) (e:Ending) (w':World):Prop :=
 ∃ A c l,e=.returned (.tuple #[.slice A l.length c,.int .i64 (lstV U L n)])∧AllV U L n l∧NR w' w.heap.size A l∧l.length≤c∧c≤maxLen∧l.length≤8000∧Below w.heap.size w w'
theorem grown_set (w:World) (g i:Nat) (v:Value):w.grownBy (w.setCell ⟨g,i,none⟩ v) (some g):=have h:=(Below.refl 0 w).setCell (p:=⟨g,i,none⟩) (Nat.zero_le _) v
 ⟨h.os,h.tape,h.output,h.size,fun k hk hne=>heap_set (fun e=>hne (by rw [e]))⟩
theorem MapRN.keptG {w w':World} {M r S cnt:Nat} {f:Nf} {left:ByteArray→Bool} {row:Option Nat} (h:MapRN w M r S f left cnt) (hg:w.grownBy w' row) (h1:row≠some M) (h2:row≠some r):MapRN w' M r S f left cnt:=by
 obtain ⟨D,lf,k1,k2,k3,k4⟩:=h
 exact ⟨D,lf,k1.kept hg h1.symm h2.symm,k2,k3,k4⟩
abbrev Ow (w:World) (B:Nat) (v:Value) (ns:List ByteArray):Prop:=w.ownsRow B 9 1 v ns.length (ns.map Value.string)
theorem Ow.same {w w':World} {B:Nat} {v:Value} {ns:List ByteArray} (h:Ow w B v ns) (hk:∀ g,B≤g→g<w.heap.size→w'.heap[g]?=w.heap[g]?):Ow w' B v ns:=by
 refine ⟨h.1,?_⟩
 rcases h.2 with e|⟨g,cap,cur,hv,hb,hg,r⟩
 ·exact .inl e
 ·exact .inr ⟨g,cap,cur,hv,hb,(hk g hb (Array.getElem?_eq_some_iff.1 hg).1).trans hg,r⟩
theorem Ow.below {w w':World} {B:Nat} {v:Value} {ns:List ByteArray} (h:Ow w B v ns) (hb:Below w.heap.size w w'):Ow w' B v ns:=h.same fun g _ hg=>hb.block g hg
theorem Ow.grown {w w':World} {B x:Nat} {v:Value} {ns:List ByteArray} (h:Ow w B v ns) (hg:w.grownBy w' (some x)) (hx:x<B):Ow w' B v ns:=h.same fun g h1 h2=>hg.block g h2 (fun e=>by injection e with e;omega)
theorem Ow.form {w:World} {B:Nat} {v:Value} {ns:List ByteArray} (h:Ow w B v ns):∃ A c,v=.slice A ns.length c∧ns.length≤c∧c≤maxLen∧NR w B A ns:=by
 rcases h.2 with ⟨hv,h0⟩|⟨g,cap,cur,hv,hb,hg,h1,h2,h3,h4⟩
 ·have e:ns=[]:=List.eq_nil_of_length_eq_zero h0
  subst e
  exact ⟨none,0,hv,Nat.le_refl _,by unfold maxLen;omega,NR.nil _ _ _⟩
 ·refine ⟨some ⟨g,0,none⟩,cap,hv,h1,h2,fun k x hx=>⟨g,rfl,hb,(Array.getElem?_eq_some_iff.1 hg).1,?_,?_⟩⟩
  ·have hk:=(List.getElem?_eq_some_iff.1 hx).1
   have:cur[k]?=some (.string x):=by
    rw [← Array.getElem?_toList]
    have h5:(cur.toList.take (ns.length*1))[k]?=some (.string x):=by rw [h4,List.getElem?_map,hx];rfl
    rw [List.getElem?_take] at h5
    split at h5
    ·exact h5
    ·cases h5
   simp [World.cell?,hg,this]
  ·simp [World.frozen?,hg]
structure Coll (U L:BS) (f:Nf) (left:ByteArray→Bool) (ns:List ByteArray):Prop where
 nd:ns.Nodup
 mem:∀ s,s∈ns↔(∃ p,f s=some p∧seenV U L p≠(0,0))∧left s=false
theorem Coll.start (U L:BS) (f:Nf):Coll U L f (fun a=>(f a).isSome) []:=⟨List.nodup_nil,fun s=>⟨fun e=>(nomatch e),fun ⟨⟨p,e,_⟩,h⟩=>by rw [e] at h;cases h⟩⟩
theorem Coll.skip {U L:BS} {f:Nf} {left:ByteArray→Bool} {ns:List ByteArray} (h:Coll U L f left ns) {x:ByteArray} {p:Nd} (hx:f x=some p) (hp:seenV U L p=(0,0)):Coll U L f (fun s=>left s && !decide (s=x)) ns :=
 ⟨h.nd,fun s=>by
  rw [h.mem s]
  refine ⟨fun ⟨h1,h2⟩=>⟨h1,by rw [h2];rfl⟩,fun ⟨h1,h2⟩=>⟨h1,?_⟩⟩
  obtain ⟨q,e,hq⟩:=h1
  by_cases es:s=x
  ·subst es;rw [hx] at e;injection e with e;rw [← e] at hq;exact absurd hp hq
  ·rw [decide_eq_false es] at h2;simpa using h2⟩
theorem Coll.add {U L:BS} {f:Nf} {left:ByteArray→Bool} {ns:List ByteArray} (h:Coll U L f left ns) {x:ByteArray} {p:Nd} (hx:f x=some p) (hl:left x=true) (hp:seenV U L p≠(0,0)):Coll U L f (fun s=>left s && !decide (s=x)) (ns++[x]):=by
 have hn:x∉ns:=fun e=>by have:=((h.mem x).1 e).2;rw [hl] at this;cases this
 refine ⟨?_,fun s=>?_⟩
 ·rw [List.nodup_append]
  exact ⟨h.nd,by simp,fun a ha b hb=>by simp at hb;subst hb;exact fun e=>hn (e▸ha)⟩
 ·rw [List.mem_append,h.mem s]
  by_cases es:s=x
  ·subst es
   rw [decide_eq_true rfl]
   exact ⟨fun _=>⟨⟨p,hx,hp⟩,by simp⟩,fun _=>.inr (by simp)⟩
  ·rw [decide_eq_false es]
   simp [es]
theorem Coll.all {U L:BS} {n:Nd} {r1 r2:Nat} {left:ByteArray→Bool} {ns l:List ByteArray} (hU:Inv U r1) (hL:Inv L r2) (hl:lstV U L n=0) (h:Coll U L (pairF U L n) left ns) (h0:∀ s,left s=false) (hp:l.Perm ns) (hs:l.Pairwise fun a b=>lessB b a=false):AllV U L n l:=by
 refine ⟨?_,fun s=>?_⟩
 ·have hn:l.Nodup:=hp.nodup_iff.2 h.nd
  have:=hs.and hn
  refine this.imp fun {a b} ⟨h1,h2⟩=>?_
  rw [dn.less_total h2,h1];rfl
 ·rw [hp.mem_iff,h.mem s,seen_names hU hL n s hl]
  exact ⟨fun e=>e.1,fun e=>⟨e,h0 s⟩⟩
end Go.Proofs.YtgoddboicjfkcaaGreat.mg
namespace Go.Proofs.YtgoddboicjfkcaaGreat.mg
open Go.Shelf Go.RowKit Go.Lib Go.Sort
open dn (lessB)
theorem heap_putRow {α:Type} [Inhabited α] (enc:α→Value) (w:World) (blk off:Nat) (d:Array α) {k:Nat} (h:k≠blk):(putRow enc w blk off d).heap[k]?=w.heap[k]?:=by
 unfold putRow mapBlock
 simp [Array.getElem?_modify,h.symm]
def SortE (w:World) (lo:Nat) (A:Option Addr) (ns:List ByteArray) (e:Ending) (w':World):Prop :=
 ∃ l:List ByteArray,e=.returned (.tuple #[])∧l.Perm ns∧(l.Pairwise fun a b=>lessB b a=false)∧NR w' lo A l∧Below lo w w'
theorem pair_few {ns:List ByteArray} (h:ns.length≤1):ns.Pairwise fun a b=>lessB b a=false:=by
 match ns,h with
 | [],_=>exact List.Pairwise.nil
 | [x],_=>exact List.pairwise_singleton _ _
 | x::y::r,h=>simp at h
theorem sort_any {w:World} {lo gq c:Nat} {A:Option Addr} {ns:List ByteArray} (hN:NR w lo A ns) (hl:ns.length≤8000) (hB:w.cell? ⟨gq,0,none⟩=some (.slice A ns.length c)) (hg:gq<lo) (hlo:lo≤w.heap.size) :
  Calls Tryz.prog 79 #[.iface 43 (.slice A ns.length c),.func (.func 80) #[] #[.pointer (some ⟨gq,0,none⟩)]] w (SortE w lo A ns):=by
 by_cases h1:ns.length≤1
 ·refine (sort_few A ns.length c h1 _ w).mono ?_
  rintro e w' ⟨rfl,os,rfl⟩
  refine ⟨ns,rfl,List.Perm.refl _,pair_few h1,hN.same (by simp) (fun b _ hb=>heap_grow_old w os hb),⟨rfl,rfl,rfl,by simp,fun k hk=>heap_grow_old w os (by omega)⟩⟩
 ·have h0:ns[0]?=some ns[0]:=List.getElem?_eq_getElem (by omega)
  obtain ⟨G,hA,hG1,hG2,_,_⟩:=hN 0 _ h0
  subst hA
  have hsz:ns.toArray.size=ns.length:=by simp
  have hH:Holds Value.string w G 0 ns.toArray:=fun j hj=>by
   rw [hsz] at hj
   obtain ⟨G',e,_,_,h3,h4⟩:=hN j _ (List.getElem?_eq_getElem hj)
   injection e with e
   injection e with e
   subst e
   rw [Nat.zero_add]
   refine ⟨?_,h4⟩
   rw [h3,getElem!_pos _ j (by rw [hsz];exact hj)]
   simp
  have hS:=sort_more G 0 c gq ns.toArray (by rw [hsz];omega) (by rw [hsz];omega) w (by rw [hsz];exact hB) (by omega) hH hG2
  rw [hsz] at hS
  refine hS.mono ?_
  rintro e w' ⟨rfl,d',n,os,hp,hso,rfl⟩
  obtain ⟨p1,_,p3⟩:=hp
  rw [hsz] at p1
  have hH2:Holds Value.string (grow (putRow Value.string (Sort.ahead w n) G 0 d') os) G 0 d':=holds_grow _ _ _ _ _ _ (by rw [size_putRow];exact hG2) (holds_putRow _ _ _ _ ns.toArray _ (holds_ahead _ _ _ _ _ _ hH) (by rw [hsz];exact p1))
  refine ⟨d'.toList,rfl,?_,?_,?_,?_⟩
  ·have e1:d'.extract 0 ns.length=d':=by rw [← p1];simp
   have e2:ns.toArray.extract 0 ns.length=ns.toArray:=by rw [← hsz];simp
   rw [e1,e2] at p3
   simpa using p3
  ·rw [List.pairwise_iff_getElem]
   intro i j hi hj hij
   have:=hso i j (Nat.zero_le _) hij (by simpa [p1] using hj)
   rw [getElem!_pos _ j (by simpa using hj),getElem!_pos _ i (by simpa using hi)] at this
   simpa using this
  ·intro k x hx
   have hk:k<d'.size:=by have:=(List.getElem?_eq_some_iff.1 hx).1;simpa using this
   obtain ⟨h3,h4⟩:=hH2 k hk
   rw [Nat.zero_add] at h3 h4
   refine ⟨G,rfl,hG1,by rw [size_grow,size_putRow];show G<w.heap.size+_;omega,?_,h4⟩
   rw [h3,getElem!_pos _ k hk]
   have:d'[k]=x:=by
    have h5:=(List.getElem?_eq_some_iff.1 hx).2
    simpa using h5
   rw [this]
  ·refine ⟨rfl,rfl,rfl,by rw [size_grow,size_putRow];show w.heap.size≤w.heap.size+_;omega,fun k hk=>?_⟩
   rw [heap_grow_old _ _ (by rw [size_putRow];show k<w.heap.size;omega),heap_putRow _ _ _ _ _ (by omega)]
   rfl
end Go.Proofs.YtgoddboicjfkcaaGreat.mg
namespace Go.Proofs.YtgoddboicjfkcaaGreat.mg
open Go.RowKit Go.Sort
open dn (En lget lset ldel nerr dotB Sorted lessB)
open br (BS Ino Inv fresh)
open cb (BrX RetW RetI No)
open bl (Pq Only)
theorem nodup_le {α:Type} [DecidableEq α]:∀ (ns l:List α),ns.Nodup→(∀ x,x∈ns→x∈l)→ns.length≤l.length
 | [],_,_,_=>Nat.zero_le _
 | a::ns,l,hn,hs=>by
  have h1:=List.nodup_cons.1 hn
  have ha:a∈l:=hs a List.mem_cons_self
  have h2:=nodup_le ns (l.erase a) h1.2 fun x hx=>(List.mem_erase_of_ne (fun e=>h1.1 (by rw [← e];exact hx))).2 (hs x (List.mem_cons_of_mem _ hx))
  rw [List.length_erase_of_mem ha] at h2
  have:=List.length_pos_of_mem ha
  simp only [List.length_cons]
  omega
theorem Coll.len {U L:BS} {n:Nd} {r1 r2:Nat} {left:ByteArray→Bool} {ns:List ByteArray} (hU:Inv U r1) (hL:Inv L r2) (h:Coll U L (pairF U L n) left ns):ns.length≤8000:=by
 have h1:=nodup_le ns ((U.all n.1).1.map (·.1)++(L.all (belV U n)).1.map (·.1)) h.nd fun s hs=>by
  obtain ⟨⟨p,e,_⟩,_⟩:=(h.mem s).1 hs
  unfold pairF at e
  rw [fold2 _ _ _ (all_sorted hL _),fold1 _ _ _ (all_sorted hU _)] at e
  rw [List.mem_append]
  cases e1:lget s (L.all (belV U n)).1 with
  | some v =>
   right
   have:=(dn.lget_some (all_sorted hL _)).1 e1
   exact List.mem_map.2 ⟨_,this,rfl⟩
  | none =>
   rw [e1] at e
   cases e2:lget s (U.all n.1).1 with
   | some v =>
    left
    have:=(dn.lget_some (all_sorted hU _)).1 e2
    exact List.mem_map.2 ⟨_,this,rfl⟩
   | none=>rw [e2] at e;cases e
 have h2:=all_len hU n.1
 have h3:=all_len hL (belV U n)
 simp only [List.length_append,List.length_map] at h1
 omega
structure QB (w:World) (g:Nat) (v:Value):Prop where
 c:w.cell? ⟨g,0,none⟩=some v
 f:w.frozen? ⟨g,0,none⟩=false
theorem QB.same {w w':World} {g:Nat} {v:Value} (h:QB w g v) (e:w'.heap[g]?=w.heap[g]?):QB w' g v:=⟨(World.cell?_of_block (a:=⟨g,0,none⟩) e).trans h.c,(World.frozen?_of_block (a:=⟨g,0,none⟩) e).trans h.f⟩
theorem QB.lt {w:World} {g:Nat} {v:Value} (h:QB w g v):g<w.heap.size:=World.block_lt_of_cell? _ _ h.c
theorem QB.below {w w':World} {g:Nat} {v:Value} (h:QB w g v) (hb:Below w.heap.size w w'):QB w' g v:=h.same (hb.block g h.lt)
theorem QB.grown {w w':World} {g:Nat} {v:Value} {row:Option Nat} (h:QB w g v) (hg:w.grownBy w' row) (hr:row≠some g):QB w' g v:=h.same (hg.block g h.lt hr.symm)
theorem QB.set {w:World} {g:Nat} {v:Value} (h:QB w g v) (u:Value):QB (w.setCell ⟨g,0,none⟩ u) g u:=⟨World.cell?_setCell_same' _ _ _ (by rw [h.c];rfl),by simp [h.f]⟩
theorem grown_bel {w0 w w':World} {row:Option Nat} (hb:Below w0.heap.size w0 w) (hg:w.grownBy w' row) (hr:∀ k,row=some k→w0.heap.size≤k):Below w0.heap.size w0 w':=hb.grown hg hb.size hr
theorem Ow.row {w:World} {B:Nat} {v:Value} {ns:List ByteArray} (h:Ow w B v ns):∀ k,v.ownBlock=some k→B≤k:=fun k hk=>(World.ownsRow.lt h k hk).1
theorem Ow.of {w:World} {B:Nat} {v:Value} {ns:List ByteArray} {x:ByteArray} (h:w.ownsRow B 9 1 v (ns.length+1) (ns.map Value.string++[.string x])):Ow w B v (ns++[x]):=by unfold Ow;rw [List.length_append,List.map_append];exact h
structure LW (w wr:World) (gq B:Nat) (v:Value) (ns:List ByteArray):Prop where
 ow:Ow wr B v ns
 qb:QB wr gq v
 bel:Below w.heap.size w wr
 hB:B≤wr.heap.size
 gl:gq<B
 gw:w.heap.size≤gq
theorem LW.below {w wr w':World} {gq B:Nat} {v:Value} {ns:List ByteArray} (h:LW w wr gq B v ns) (hb:Below wr.heap.size wr w'):LW w w' gq B v ns :=
 ⟨h.ow.below hb,h.qb.below hb,bel_step h.bel hb,Nat.le_trans h.hB hb.size,h.gl,h.gw⟩
theorem LW.next {w wr w':World} {gq B r:Nat} {v:Value} {ns:List ByteArray} (h:LW w wr gq B v ns) (hg:wr.grownBy w' (some r)) (hr:r<B) (h0:gq<r):LW w w' gq B v ns :=
 ⟨h.ow.grown hg hr,h.qb.grown hg (fun e=>by injection e with e;omega),grown_bel h.bel hg (fun k e=>by injection e with e;have:=h.gw;omega),Nat.le_trans h.hB hg.size,h.gl,h.gw⟩
theorem LW.app {w wr w':World} {gq B:Nat} {v v':Value} {ns ns':List ByteArray} (h:LW w wr gq B v ns) (hg:wr.grownBy w' v.ownBlock) (ho:Ow w' B v' ns'):LW w (w'.setCell ⟨gq,0,none⟩ v') gq B v' ns':=by
 have hr:=h.ow.row
 have hq:QB w' gq v:=h.qb.grown hg (fun e=>by have:=hr _ e;have:=h.gl;omega)
 have hb:Below w.heap.size w w':=grown_bel h.bel hg (fun k e=>by have:=hr _ e;have:=h.gl;have:=h.gw;omega)
 exact ⟨ho.grown (grown_set w' gq 0 v') h.gl,hq.set v',set_below hb h.gw _,by rw [set_size];exact Nat.le_trans h.hB hg.size,h.gl,h.gw⟩
theorem all_any {w:World} {V P1 P2:Nat} {u l:Int} {U L:BS} {r1 r2:Nat} (h:Vx w V P1 P2 u l U L) (hU:Inv U r1) (hL:Inv L r2) (n:Nd):Calls Tryz.prog 21 #[Pq V,Nv n] w (AllE w U L n):=by
 obtain ⟨n1,n2⟩:=n
 obtain ⟨w1,hw1⟩:∃ w1,w.alloc (.cells #[.int .i64 n1,.int .i64 n2] 24)=w1:=⟨_,rfl⟩
 have hb1:Below w.heap.size w w1:=by rw [← hw1];exact bel_alloc _ _
 have hn1:Nb w1 w.heap.size (n1,n2):=by rw [← hw1];exact Nb.new w n1 n2
 have HB1:=Lib.hid hb1
 have HN1:=Lib.hid hn1
 have HVX:=Lib.hid (fun W (hb:Below w.heap.size w W)=>h.below hb)
 have HLS:=Lib.hid (listed_any (h.below hb1) (n1,n2))
 have HPR:=Lib.hid (fun W (hb:Below w.heap.size w W)=>pairs_any (h.below hb) hU hL (n1,n2))
 have HSN:=Lib.hid (fun W p (hb:Below w.heap.size w W)=>seen_any (h.below hb) p)
 have HIN:=Lib.hid (And.intro hU hL)
 have HDO:=Lib.hid (show ∀ (W:World) (A:Option Addr) (c:Nat) (ll:List ByteArray),AllV U L (n1,n2) ll→NR W w.heap.size A ll→ll.length≤c→c≤maxLen→ll.length≤8000→Below w.heap.size w W→AllE w U L (n1,n2) (.returned (.tuple #[.slice A ll.length c,.int .i64 (lstV U L (n1,n2))])) W from fun W A c ll a1 a2 a3 a4 a5 a6=>⟨A,c,ll,rfl,a1,a2,a3,a4,a5,a6⟩)
 unfold RetI at HLS
 unfold PairsE at HPR
 obtain ⟨pf,hpf⟩:∃ pf,pairF U L (n1,n2)=pf:=⟨_,rfl⟩
 rw [hpf] at HPR
 have HPF:=Lib.hid hpf
 clear hpf
 unfold RetW at HSN
 obtain ⟨le,hle⟩:∃ le,lstV U L (n1,n2)=le:=⟨_,rfl⟩
 rw [hle] at HLS HDO
 have HLE:=Lib.hid hle
 clear h hU hL hb1 hn1 hle
 obtain ⟨g,hg⟩:∃ g,w.heap.size=g:=⟨_,rfl⟩
 have HGB:=Lib.hid hg
 rw [hg] at HN1
 obtain ⟨t0,t1⟩:=HN1.out
 dsimp only at t0 t1
 go_enter Tryz.func21,Tryz.ntmps21
 go_wp2_with fail
 refine HLS.out.mono ?_
 rintro _ w2 ⟨rfl,hb2⟩
 have HB2:=Lib.hid (bel_step HB1.out hb2)
 have HN2:=Lib.hid (HN1.out.below hb2)
 clear hw1 hb2 HB1 HN1 t0 t1 HLS
 by_cases e0:le=0
 case neg =>
  have q0:(le != 0)=true:=by simpa using e0
  have HV0:=Lib.hid (AllV.none (U:=U) (L:=L) (n:=(n1,n2)) (by rw [HLE.out];exact e0))
  go_wp2_with fail
  go_ret2
  exact HDO.out w2 none 0 [] HV0.out (NR.nil _ _ _) (Nat.le_refl _) (by unfold maxLen;omega) (Nat.zero_le _) HB2.out
 subst e0
 obtain ⟨w3,hw3⟩:∃ w3,w2.alloc (.cells #[.slice none 0 0] 43)=w3:=⟨_,rfl⟩
 have HB3:=Lib.hid (show Below w.heap.size w w3 by rw [← hw3];exact bel_step HB2.out (bel_alloc _ _))
 have HN3:=Lib.hid (show Nb w3 g (n1,n2) by rw [← hw3];exact HN2.out.below (bel_alloc _ _))
 have HQ3:=Lib.hid (show QB w3 w2.heap.size (.slice none 0 0) by rw [← hw3];exact ⟨by simp,by simp⟩)
 obtain ⟨gq,hgq⟩:∃ gq,w2.heap.size=gq:=⟨_,rfl⟩
 have HGQ:=Lib.hid (show w.heap.size≤gq∧w3.heap.size=gq+1 by rw [← hw3,World.size_alloc,hgq];exact ⟨by have:=HB2.out.size;omega,rfl⟩)
 rw [hgq] at HQ3
 obtain ⟨t0,t1⟩:=HN3.out
 dsimp only at t0 t1
 have HP3:=Lib.hid (HPR.out _ HB3.out)
 clear HPR HN2 HB2
 go_wp2_with fail
 refine HP3.out.mono ?_
 rintro _ w4 ⟨M,S,rfl,hm4,hM4,hb4⟩
 obtain ⟨r,hr⟩:∃ r,w4.heap.size=r:=⟨_,rfl⟩
 have HR4:=Lib.hid hr
 have HMV:=Lib.hid hm4
 have HQ4:=Lib.hid (HQ3.out.below hb4)
 have HB4:=Lib.hid (bel_step HB3.out hb4)
 have HGM:=Lib.hid (show gq<M∧M<r by have:=HGQ.out.2;have:=hm4.lt;omega)
 clear hw3 hm4 hM4 hb4 HP3 HB3 HN3 HQ3 t0 t1 hgq hr
 go_wp2_with (first|(at_range;refine list_rangeN _ rfl _ rfl M S _ rfl r HR4.out HMV.out ?_;intro w5 cnt0 hrg0 hb5 hs5)|fail)
 go_frame
 have HW5:=Lib.hid (show LW w w5 gq (r+1) (.slice none 0 0) [] from ⟨World.ownsRow_nil _ _ _ _,HQ4.out.below hb5,bel_step HB4.out hb5,by omega,by have:=HGM.out;omega,HGQ.out.1⟩)
 have HC5:=Lib.hid (Coll.start U L pf)
 have HM5:=Lib.hid hrg0
 have HG5:=Lib.hid (show gq<M∧M<r from HGM.out)
 clear hrg0 hb5 hs5 HR4 HMV HQ4 HB4 HGM HGQ
 go_loopg [20] cnt0 (fun g' _ wr=>∃ (v:Value) (ns:List ByteArray) (left:ByteArray→Bool),Hid (MapRN wr M r S pf left g')∧Hid (Coll U L pf left ns)∧Hid (LW w wr gq (r+1) v ns))
 case atStart=>exact ⟨_,_,_,HM5,HC5,HW5⟩
 case round =>
  clear HM5 HC5 HW5
  obtain ⟨v,ns,left,HM,HC,HW⟩:=hrel
  go_wp2_with (first|(at_next;refine list_nextN _ rfl _ rfl M r S gk pf left rfl HM.out ?_ ?_)|fail)
  ·intro h0
   have HA:=Lib.hid (fun ll=>Coll.all (l:=ll) (n:=(n1,n2)) HIN.out.1 HIN.out.2 HLE.out (by rw [HPF.out];exact HC.out) h0)
   have HLN:=Lib.hid (Coll.len (n:=(n1,n2)) HIN.out.1 HIN.out.2 (by rw [HPF.out];exact HC.out))
   obtain ⟨A,c,rfl,hlc,hcm,hnr⟩:=HW.out.ow.form
   have qc:=HW.out.qb.c
   have hnr':=hnr
   clear h0 hnr HM HC HVX HSN HIN
   have HST:=Lib.hid (sort_any hnr' HLN.out qc HW.out.gl HW.out.hB)
   unfold SortE at HST
   have HWB:=Lib.hid (show Below w.heap.size w wr∧gq<r+1∧w.heap.size≤r+1 from ⟨HW.out.bel,HW.out.gl,Nat.le_trans HW.out.gw (Nat.le_of_lt HW.out.gl)⟩)
   obtain ⟨nl,hnl⟩:∃ nl,ns.length=nl:=⟨_,rfl⟩
   have HNL:=Lib.hid hnl
   rw [hnl] at HST qc HLN hlc
   clear hnl
   go_wp2_with fail
   refine HST.out.mono ?_
   rintro e w7 ⟨ll,rfl,hpm,hso,hnr7,hb7⟩
   have qc7:=(hb7.cell (p:=⟨gq,0,none⟩) HWB.out.2.1).trans qc
   have HAL:=Lib.hid (HA.out ll hpm hso)
   have HLL:=Lib.hid (show ll.length=nl from by rw [hpm.length_eq];exact HNL.out)
   have HB7:=Lib.hid (show Below w.heap.size w w7 from HWB.out.1.trans (hb7.mono HWB.out.2.2))
   have HNR7:=Lib.hid (show NR w7 w.heap.size A ll from fun k x hx=>by
    obtain ⟨G,e,g1,g2,g3,g4⟩:=hnr7 k x hx
    exact ⟨G,e,Nat.le_trans HWB.out.2.2 g1,g2,g3,g4⟩)
   clear hpm hso hnr7 hb7 HST HA qc
   go_wp2_with fail
   go_ret2
   have hD:=HDO.out w7 A c ll HAL.out HNR7.out (by rw [HLL.out];exact hlc) hcm (by rw [HLL.out];exact HLN.out) HB7.out
   rw [HLL.out] at hD
   exact hD
  ·intro x p1 p2 w6 cnt' hfx hlx hxm hrg' hlt hg6 hs6 hen
   have HW6:=Lib.hid (HW.out.next hg6 (by omega) (by have:=HG5.out;omega))
   have HM6:=Lib.hid hrg'
   obtain ⟨w7,hw7⟩:∃ w7,w6.alloc (.cells #[.int .i64 p1,.int .i64 p2] 24)=w7:=⟨_,rfl⟩
   have hb7:Below w6.heap.size w6 w7:=by rw [← hw7];exact bel_alloc _ _
   have HW7:=Lib.hid (HW6.out.below hb7)
   have HM7:=Lib.hid (HM6.out.kept hb7)
   have HN7:=Lib.hid (show Nb w7 w6.heap.size (p1,p2) by rw [← hw7];exact Nb.new w6 p1 p2)
   obtain ⟨gb,hgb⟩:∃ gb,w6.heap.size=gb:=⟨_,rfl⟩
   rw [hgb] at HN7
   obtain ⟨t0,t1⟩:=HN7.out
   dsimp only at t0 t1
   have HSE:=Lib.hid (HSN.out w7 (p1,p2) HW7.out.bel)
   have HQ:=Lib.hid (fun W=>run_neq24 (seenV U L (p1,p2)) (0,0) W)
   have HCS:=Lib.hid (fun (hz:seenV U L (p1,p2)=(0,0))=>HC.out.skip hfx hz)
   have HCA:=Lib.hid (fun (hz:seenV U L (p1,p2)≠(0,0))=>HC.out.add hfx hlx hz)
   have HLN:=Lib.hid (Coll.len (n:=(n1,n2)) HIN.out.1 HIN.out.2 (by rw [HPF.out];exact HC.out))
   generalize seenV U L (p1,p2)=sv at *
   obtain ⟨s1,s2⟩:=sv
   have hgd:=guard24
   clear hb7 hrg' hg6 hs6 HW6 HM6 hfx hlx HC HW HM
   go_wp2_with fail
   refine HSE.out.mono ?_
   rintro _ w8 ⟨rfl,hb8⟩
   have HW8:=Lib.hid (HW7.out.below hb8)
   have HM8:=Lib.hid (HM7.out.kept hb8)
   clear hb8 HW7 HM7 HSE t0 t1 HN7 hen hw7 hgb
   by_cases hz:((s1,s2):Nd)=(0,0)
   ·have hq:∀ W,(binOp .neq 24 (.agg #[.int .i64 s1,.int .i64 s2]) (.agg #[.int .i64 0,.int .i64 0])).run Tryz.prog W=.ok (.bool false) W:=fun W=>by have:=HQ.out W;rw [decide_eq_true hz] at this;exact this
    have HCN:=Lib.hid (HCS.out hz)
    clear HQ hz HCS HCA
    go_wp2_with fail
    go_roundg cnt'
    case measure=>omega
    case rel=>exact ⟨v,ns,_,HM8,HCN,HW8⟩
   ·have hq:∀ W,(binOp .neq 24 (.agg #[.int .i64 s1,.int .i64 s2]) (.agg #[.int .i64 0,.int .i64 0])).run Tryz.prog W=.ok (.bool true) W:=fun W=>by have:=HQ.out W;rw [decide_eq_false hz] at this;exact this
    have HCN:=Lib.hid (HCA.out hz)
    have qc:=HW8.out.qb.c
    have qf:=HW8.out.qb.f
    obtain ⟨i0,hi,hz0,hz1,hz2⟩:=info_parts9
    have HOW:=Lib.hid (fun ob=>HW8.out.below (bel_alloc w8 ob))
    have HMW:=Lib.hid (fun ob=>HM8.out.kept (bel_alloc w8 ob))
    clear HQ hz HCS HCA HW8 HM8
    go_wp2_with (first|(at_builtin;go_must (refine wpList_append_own _ rfl (.tmp 30) (.tmp 32) 43 rfl (r+1) 9 i0 _ 1 16 Tryz.underlying43 hi hz0 hz1 hz2 rfl (by decide) v ns.length (ns.map Value.string) rfl (HOW.out _).ow ⟨w8.heap.size,0,none⟩ 1 1 [.string x] rfl rfl (cell_one_new _ _ _) (by intro u hu;simp at hu;subst hu;rfl) (by have:=HLN.out;unfold maxLen;omega) (by have:=HLN.out;omega) (HOW.out _).hB ?_;intro v' w9 hown9 hg9 _;have ho9:Ow w9 (r+1) v' (ns++[x]):=Ow.of hown9;have HA9:=Lib.hid (LW.app (HOW.out _) hg9 ho9);have hq9:QB w9 gq v:=(HOW.out _).qb.grown hg9 (fun e=>by have:=(HOW.out (.cells #[] 0)).ow.row _ e;have:=HG5.out;omega);have HM9:=Lib.hid (((HMW.out _).keptG hg9 (fun e=>by have:=(HOW.out (.cells #[] 0)).ow.row _ e;have:=HG5.out;omega) (fun e=>by have:=(HOW.out (.cells #[] 0)).ow.row _ e;omega)).keptG (grown_set w9 gq 0 v') (fun e=>by injection e with e;have:=HG5.out;omega) (fun e=>by injection e with e;have:=HG5.out;omega));have qc9:=hq9.c;have qf9:=hq9.f;obtain ⟨A',c',hv',-⟩:=ho9.form;subst hv';clear ho9 hq9 hown9 hg9 qc qf))|fail)
    go_roundg cnt'
    case measure=>omega
    case rel =>
     have e:(ns++[x]).length=ns.length+1:=by simp
     rw [e] at HM9 HA9
     exact ⟨_,_,_,HM9,HCN,HA9⟩
end Go.Proofs.YtgoddboicjfkcaaGreat.mg
