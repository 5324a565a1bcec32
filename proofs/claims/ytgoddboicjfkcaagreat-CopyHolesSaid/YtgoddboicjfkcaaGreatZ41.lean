/- Part 41 of what is known of the program's functions and of the document's words: contracts, and the mathematics beneath them. -/
import Derived.Test.YtgoddboicjfkcaaGreatProg
import Derived.Test.YtgoddboicjfkcaaGreatZ40
import Derived.Test.YtgoddboicjfkcaaGreatZ02
import Derived.Laws.Runes
import Derived.Laws.RangeAny
import Derived.Lib.OthersKept
set_option linter.unusedVariables false
set_option linter.unusedSimpArgs false
set_option maxRecDepth 100000
set_option maxHeartbeats 8000000
namespace Go.Proofs.YtgoddboicjfkcaaGreat.pa
open Go.RowKit
def ParseE (w:World) (L:Bs) (e:Ending) (w':World):Prop :=
 ∃ A c,e=.returned (.tuple #[.agg #[.slice A (pnames L).length c,.bool (pdirE L)],.int .i64 (perr L)])∧Own w' w.heap.size A c (pnames L)∧Below w.heap.size w w'
theorem parseE_no {w w':World} {L:Bs} {n:Int} (h:perr L=n) (hn:n≠0) (hb:Below w.heap.size w w') :
  ParseE w L (.returned (.tuple #[.agg #[.slice none 0 0,.bool false],.int .i64 n])) w':=by
 subst h
 refine ⟨none,0,?_,?_,hb⟩
 ·rw [pnames_no hn,pdirE_no hn];rfl
 ·rw [pnames_no hn]
  exact World.ownsRow_nil _ _ _ _
theorem parse_empty (w:World):Calls Tryz.prog 236 #[.string ⟨#[]⟩] w (ParseE w []):=by
 go_enter Tryz.func236,Tryz.ntmps236
 go_wp2
 exact bodyPost_ret (v:=.tuple #[.agg #[.slice none 0 0,.bool false],.int .i64 2]) (by simp [results,Tryz.results236,go_sem]) rfl (parseE_no (by decide) (by decide) ((Below.refl _ _).alloc (Nat.le_refl _) _))
theorem parse_long (s:ByteArray) (w:World) (hs:400<s.size):Calls Tryz.prog 236 #[.string s] w (ParseE w s.data.toList):=by
 have hne:s.toList.isEmpty=false:=by
  rw [Lib.toList_data]
  cases h:s.data.toList with
  | nil=>rw [Lib.size_eq,h] at hs;simp at hs
  | cons _ _=>rfl
 have HP:=Lib.hid (show perr s.data.toList=36 by
  unfold perr
  rw [Lib.size_eq] at hs
  rw [if_neg (by intro h;rw [h] at hs;simp at hs),if_pos hs])
 go_enter Tryz.func236,Tryz.ntmps236
 go_wp2
 exact bodyPost_ret (v:=.tuple #[.agg #[.slice none 0 0,.bool false],.int .i64 36]) (by simp [results,Tryz.results236,go_sem]) rfl (parseE_no HP.out (by decide) ((Below.refl _ _).alloc (Nat.le_refl _) _))
theorem index_no (l:Bs) (c:UInt8) (h:c∉l):Lib.indexByte l c=-1:=by
 induction l with
 | nil=>rfl
 | cons b l ih =>
  rw [List.mem_cons,not_or] at h
  have hb:(b == c)=false:=by rw [beq_eq_false_iff_ne];exact fun e=>h.1 e.symm
  simp [Lib.indexByte,hb,ih h.2]
theorem index_yes (l:Bs) (c:UInt8) (h:c∈l):0≤Lib.indexByte l c:=by
 induction l with
 | nil=>simp at h
 | cons b l ih =>
  by_cases hb:b=c
  ·simp [Lib.indexByte,hb]
  ·have hb':(b == c)=false:=by rw [beq_eq_false_iff_ne];exact hb
   have:=ih (by rcases List.mem_cons.1 h with h|h;exact absurd h.symm hb;exact h)
   have h2:¬ (Lib.indexByte l c=-1):=by omega
   simp [Lib.indexByte,hb',h2]
   omega
theorem nul_no (s:ByteArray) (w:World) (h:(0:UInt8)∉s.data.toList):Calls Tryz.prog 244 #[.string s,.int .u8 0] w fun e w'=>e=.returned (.int .i64 (-1))∧w=w' :=
 (Tryz.strings_IndexByte s 0 w).mono fun e w' ⟨he,hw⟩=>⟨by rw [he,show (Int.toNat 0).toUInt8=0 from rfl,index_no _ _ h],hw.symm⟩
def NulYes (w:World) (e:Ending) (w':World):Prop:=∃ n:Int,0≤n∧e=.returned (.int .i64 n)∧w=w'
theorem nul_yes (s:ByteArray) (w:World) (h:(0:UInt8)∈s.data.toList):Calls Tryz.prog 244 #[.string s,.int .u8 0] w (NulYes w) :=
 (Tryz.strings_IndexByte s 0 w).mono fun e w' ⟨he,hw⟩=>⟨_,index_yes _ _ h,by rw [he];rfl,hw.symm⟩
theorem notEmpty {s:ByteArray} (h:s.data.toList≠[]):s.toList.isEmpty=false:=by
 rw [Lib.toList_data]
 cases h':s.data.toList with
 | nil=>exact absurd h' h
 | cons _ _=>rfl
theorem parse_nul (s:ByteArray) (w:World) (h0:s.data.toList≠[]) (hs:s.size≤400) (h:(0:UInt8)∈s.data.toList):Calls Tryz.prog 236 #[.string s] w (ParseE w s.data.toList):=by
 have hne:=notEmpty h0
 have HP:=Lib.hid (show perr s.data.toList=22 by
  unfold perr
  rw [Lib.size_eq] at hs
  rw [if_neg h0,if_neg (by omega),if_pos h])
 have HN:=fun w=>nul_yes s w h
 clear h h0
 go_enter Tryz.func236,Tryz.ntmps236
 go_wp2_with (go_at_call 244;refine (HN _).mono ?_;rintro e w' ⟨n,hn,rfl,rfl⟩)
 exact bodyPost_ret (v:=.tuple #[.agg #[.slice none 0 0,.bool false],.int .i64 22]) (by simp [results,Tryz.results236,go_sem]) rfl (parseE_no HP.out (by decide) ((Below.refl _ _).alloc (Nat.le_refl _) _))
theorem gath_take (xs:List Bs) (k:Nat) (x:Bs) (h:xs[k]?=some x):gath (xs.take (k+1))=gath (xs.take k)++if x=[46] then [] else [x]:=by
 obtain ⟨hk,rfl⟩:=List.getElem?_eq_some_iff.1 h
 rw [List.take_succ_eq_append_getElem hk,gath_snoc]
theorem parse_main (s:ByteArray) (w:World) (h0:s.data.toList≠[]) (hs:s.size≤400) (h:(0:UInt8)∉s.data.toList):Calls Tryz.prog 236 #[.string s] w (ParseE w s.data.toList):=by
 obtain ⟨i0,hi,hz0,hz1,hz2⟩:=info_parts info9
 have hne:=notEmpty h0
 have HN:=fun w=>nul_no s w h
 have hcnt:(comps s.data.toList).length≤400:=by have:=comps_count s.data.toList;rw [← Lib.size_eq] at this;omega
 have HE:=fun A n c B w hn hS=>ends_any s A n c (comps s.data.toList) B w hn hs hcnt hS
 have HC:=components_any s (w.alloc (.cells #[.slice none 0 0,.bool false] 292)) hs
 have H0:=Lib.hid (And.intro h0 h)
 clear h h0
 generalize hx:comps s.data.toList=xs at *
 have HX:=Lib.hid hx
 clear hx
 go_enter Tryz.func236,Tryz.ntmps236
 go_wp2_with (first
  | (go_at_call 244;refine (HN _).mono ?_;rintro e w' ⟨rfl,rfl⟩)
  | (go_at_call 248;refine HC.mono ?_;rintro e w1 ⟨A,c,rfl,hown,hb⟩))
 have hxs:Strs w1 w1.heap.size A xs:=hown.strs
 have sz1:w.heap.size+1≤w1.heap.size:=by have:=hb.size;simpa using this
 have hb1:Below w.heap.size w w1:=((Below.refl _ _).alloc (Nat.le_refl _) _).trans (hb.mono (by simp))
 have r0:w1.cell? ⟨w.heap.size,0,none⟩=some (.slice none 0 0):=by rw [hb.cell (p:=⟨w.heap.size,0,none⟩) (by simp)];simp
 have r1:w1.cell? ⟨w.heap.size,1,none⟩=some (.bool false):=by rw [hb.cell (p:=⟨w.heap.size,1,none⟩) (by simp)];simp
 have f0:w1.frozen? ⟨w.heap.size,0,none⟩=false:=by rw [hb.frozen (p:=⟨w.heap.size,0,none⟩) (by simp)];simp
 have f1:w1.frozen? ⟨w.heap.size,1,none⟩=false:=by rw [hb.frozen (p:=⟨w.heap.size,1,none⟩) (by simp)];simp
 clear hb
 go_loopg [5,26] xs.length (fun g v i wr=>∃ k:Nat,k≤xs.length∧g+k=xs.length∧i=.int .i64 k∧Hid (∀ x∈xs.take k,x.length≤60) ∧
  wr.ownsRow w1.heap.size 9 1 v (gath (xs.take k)).length ((gath (xs.take k)).map Sv)∧Below w1.heap.size w1 wr)
 case atStart=>exact ⟨0,by omega,by omega,rfl,(by show ∀ _,_;simp),World.ownsRow_nil _ _ _ _,Below.refl _ _⟩
 case round =>
  obtain ⟨k,hk,hg,rfl,HA,hrow,hbr⟩:=hrel
  have szr:w.heap.size+1≤wr.heap.size:=by have:=hbr.size;omega
  have R0:wr.cell? ⟨w.heap.size,0,none⟩=some (.slice none 0 0):=(hbr.cell (p:=⟨w.heap.size,0,none⟩) (by simp;omega)).trans r0
  have R1:wr.cell? ⟨w.heap.size,1,none⟩=some (.bool false):=(hbr.cell (p:=⟨w.heap.size,1,none⟩) (by simp;omega)).trans r1
  have F0:wr.frozen? ⟨w.heap.size,0,none⟩=false:=(hbr.frozen (p:=⟨w.heap.size,0,none⟩) (by simp;omega)).trans f0
  have F1:wr.frozen? ⟨w.heap.size,1,none⟩=false:=(hbr.frozen (p:=⟨w.heap.size,1,none⟩) (by simp;omega)).trans f1
  by_cases hlt:k<xs.length
  ·obtain ⟨ad,x,rfl,hab,hx,hcell⟩:=hxs.get hlt
   have hcr:wr.cell? (ad.add k)=some (Sv x):=(hbr.cell (p:=ad.add k) (by rw [addr_block];exact hab)).trans hcell
   have HG:=Lib.hid (gath_take xs k x hx)
   have hgl:(gath (xs.take k)).length≤k:=by have:=gath_le (xs.take k);rw [List.length_take] at this;omega
   have HM:=Lib.hid (List.mem_of_getElem? hx)
   have HT:=Lib.hid (show xs.take (k+1)=xs.take k++[x] by
    obtain ⟨hk',rfl⟩:=List.getElem?_eq_some_iff.1 hx
    exact List.take_succ_eq_append_getElem hk')
   clear hcell hx
   by_cases h60:60<x.length
   ·have HP:=Lib.hid (show perr s.data.toList=36 by
     unfold perr
     rw [if_neg H0.out.1,if_neg (by rw [← Lib.size_eq];omega),if_neg H0.out.2,if_pos ⟨x,by rw [HX.out];exact HM.out,h60⟩])
    go_wp2
    exact bodyPost_ret (v:=.tuple #[.agg #[.slice none 0 0,.bool false],.int .i64 36]) (by simp [results,Tryz.results236,go_sem, *]) rfl (parseE_no HP.out (by decide) (((hb1.trans (hbr.mono (by omega))).setCell (Nat.le_refl _) _).setCell (Nat.le_refl _) _))
   ·have HA':Hid (∀ x∈xs.take (k+1),x.length≤60):=by
     show ∀ _,_
     rw [HT.out]
     intro y hy
     rcases List.mem_append.1 hy with hy|hy
     ·exact HA.out y hy
     ·simp at hy;subst hy;omega
    by_cases hd:x=[46]
    ·subst hd
     go_wp2
     go_roundg (gk - 1)
     case measure=>omega
     case rel=>exact ⟨k+1,by omega,by omega,by go_num,HA',by rw [HG.out];simpa using hrow,hbr⟩
    ·have hdB:(!x == [46])=true:=by simp [hd]
     have HG':=Lib.hid (show gath (xs.take (k+1))=gath (xs.take k)++[x] by rw [HG.out,if_neg hd])
     clear hd
     go_wp2_with (at_builtin;go_must (refine wpList_append_own _ rfl (.tmp 36) (.tmp 38) 43 rfl w1.heap.size 9 i0 _ 1 16 Tryz.underlying43 hi hz0 hz1 hz2 rfl (by decide) u5 (gath (xs.take k)).length ((gath (xs.take k)).map Sv) rfl (hrow.alloc _) ⟨wr.heap.size,0,none⟩ 1 1 [Sv x] rfl rfl (cell_one_new _ _ _) (by intro u hu;simp at hu;subst hu;rfl) (by unfold maxLen;omega) (by omega) (by have:=hbr.size;simp;omega) ?_);intro v1 w2 hown1 hgrow1 _)
     go_roundg (gk - 1)
     case measure=>omega
     case rel =>
      refine ⟨k+1,by omega,by omega,by go_num,HA',?_,?_⟩
      ·rw [HG'.out];simpa using hown1
      ·exact (hbr.alloc hbr.size _).grown hgrow1 (by have:=hbr.size;simp;omega) (fun g hg'=>(hrow.lt g hg').1)
  ·have HK:=Lib.hid (show xs.take k=xs by rw [List.take_of_length_le (by omega)])
   have hkl:¬ ((k:Int)<(xs.length:Int)):=by omega
   have hgl:(gath (xs.take k)).length≤k:=by have:=gath_le (xs.take k);rw [List.length_take] at this;omega
   clear hlt
   have HN40:=Lib.hid (show nms s.data.toList=gath (xs.take k) by rw [← gath_comps,HX.out,HK.out])
   obtain ⟨A2,c2,rfl,hown2,hn2⟩:=own_form hrow
   clear hn2
   by_cases h40:40<(gath (xs.take k)).length
   ·have HP:=Lib.hid (show perr s.data.toList=36 by
     unfold perr
     rw [if_neg H0.out.1,if_neg (by rw [← Lib.size_eq];omega),if_neg H0.out.2,if_neg (by
      rintro ⟨x,hx,hl⟩
      have:=HA.out x (by rw [HK.out,← HX.out];exact hx)
      omega),if_pos (by rw [HN40.out];exact h40)])
    go_wp2
    exact bodyPost_ret (v:=.tuple #[.agg #[.slice none 0 0,.bool false],.int .i64 36]) (by simp [results,Tryz.results236,go_sem, *]) rfl (parseE_no HP.out (by decide) (((hb1.trans (hbr.mono (by omega))).setCell (Nat.le_refl _) _).setCell (Nat.le_refl _) _))
   ·have HP:=Lib.hid (show perr s.data.toList=0 by
     rw [perr_zero]
     exact ⟨H0.out.1,by rw [← Lib.size_eq];omega,H0.out.2,fun x hx=>HA.out x (by rw [HK.out,← HX.out];exact hx),by rw [HN40.out];omega⟩)
    go_wp2_with (go_at_call 249;refine (HE _ _ _ _ _ rfl (hxs.below hbr)).mono ?_;rintro e w' ⟨rfl,rfl⟩)
    refine bodyPost_ret (v:=.tuple #[.agg #[.slice A2 (gath (xs.take k)).length c2,.bool (endB s.data.toList xs)],.int .i64 0]) (by simp [results,Tryz.results236,go_sem, *]) rfl ?_
    have e1:pnames s.data.toList=gath (xs.take k):=by rw [pnames_ok HP.out,HN40.out]
    have e2:pdirE s.data.toList=endB s.data.toList xs:=by rw [pdirE_ok HP.out,pdir,HX.out];rfl
    refine ⟨A2,c2,?_,?_,?_⟩
    ·rw [e1,e2,HP.out]
    ·rw [e1]
     exact ((hown2.set (by simp;omega) _).set (by simp;omega) _).base (by omega)
    ·exact ((hb1.trans (hbr.mono (by omega))).setCell (Nat.le_refl _) _).setCell (Nat.le_refl _) _
theorem parse_any (s:ByteArray) (w:World):Calls Tryz.prog 236 #[.string s] w (ParseE w s.data.toList):=by
 by_cases h0:s.data.toList=[]
 ·have e:s=⟨#[]⟩:=by rw [← Lib.mk_data s,h0]
  subst e
  exact parse_empty w
 ·by_cases hs:400<s.size
  ·exact parse_long s w hs
  ·by_cases h:(0:UInt8)∈s.data.toList
   ·exact parse_nul s w h0 (by omega) h
   ·exact parse_main s w h0 (by omega) h
def nerr (L:Bs):Int:=if L=[] then 2 else if 60<L.length then 36 else if (0:UInt8)∈L∨(47:UInt8)∈L then 22 else 0
def NameE (w:World) (L:Bs) (e:Ending) (w':World):Prop:=e=.returned (.int .i64 (nerr L))∧Below w.heap.size w w'
theorem below_alloc (w:World) (o:Obj):Below w.heap.size w (w.alloc o):=(Below.refl _ _).alloc (Nat.le_refl _) _
theorem rhas_any (s:ByteArray) (c:UInt8) (b:Bool) (w:World) (hm:s.size≤9223372036854775807) (hb:decide (c∈s.data.toList)=b):Calls Tryz.prog 212 #[.string s,.int .u8 (c.toNat:Int)] w fun e w'=>e=.returned (.bool b)∧w=w':=by
 have HB:=Lib.hid hb
 clear hb
 go_enter Tryz.func212,Tryz.ntmps212
 go_wp2_with fail
 go_loopg [5] s.size (fun g i wr=>∃ j:Nat,j≤s.size∧g+j=s.size∧i=.int .i64 j∧Hid (∀ x∈s.data.toList.take j,x≠c)∧w=wr)
 case atStart=>exact ⟨0,by omega,by omega,rfl,(by show ∀ _,_;simp),rfl⟩
 case round =>
  obtain ⟨j,hj,hg,rfl,HN,rfl⟩:=hrel
  by_cases hjl:j<s.size
  ·have hjL:j<s.data.toList.length:=by rw [← Lib.size_eq];exact hjl
   by_cases h:s[j]=c
   ·have hT:(((s[j]).toNat:Int) == (c.toNat:Int))=true:=by rw [h];simp
    have hbt:b=true:=by
     rw [← HB.out]
     exact decide_eq_true (by rw [← h,getD_data s j hjl];exact List.getElem_mem _)
    subst hbt
    clear h
    go_wp2_with fail
    try rw [Exit.noGoto_ret]
    go_ret
    exact ⟨rfl,rfl⟩
   ·have hT:(((s[j]).toNat:Int) == (c.toNat:Int))=false:=by
     rw [beq_eq_false_iff_ne]
     intro e
     exact h (UInt8.toNat_inj.1 (by omega))
    have HN':Hid (∀ x∈s.data.toList.take (j+1),x≠c):=by
     show ∀ _,_
     rw [List.take_succ_eq_append_getElem hjL]
     intro x hx
     rw [List.mem_append,List.mem_singleton] at hx
     rcases hx with hx|rfl
     ·exact HN.out x hx
     ·rw [← getD_data s j hjl];exact h
    clear h
    go_wp2_with fail
    go_roundg (gk - 1)
    case measure=>omega
    case rel=>exact ⟨j+1,by omega,by omega,by go_num,HN',rfl⟩
  ·have hbt:b=false:=by
    rw [← HB.out]
    refine decide_eq_false (fun hc=>?_)
    have:=HN.out c (by rw [List.take_of_length_le (by rw [← Lib.size_eq];omega)];exact hc)
    exact this rfl
   subst hbt
   have hkl:¬ ((j:Int)<(s.size:Int)):=by omega
   clear hjl
   go_wp2_with fail
   go_ret
   exact ⟨rfl,rfl⟩
theorem rhas0 (s:ByteArray) (b:Bool) (w:World) (hm:s.size≤9223372036854775807) (hb:decide ((0:UInt8)∈s.data.toList)=b):Calls Tryz.prog 212 #[.string s,.int .u8 0] w fun e w'=>e=.returned (.bool b)∧w=w':=rhas_any s 0 b w hm hb
theorem rhas47 (s:ByteArray) (b:Bool) (w:World) (hm:s.size≤9223372036854775807) (hb:decide ((47:UInt8)∈s.data.toList)=b):Calls Tryz.prog 212 #[.string s,.int .u8 47] w fun e w'=>e=.returned (.bool b)∧w=w':=rhas_any s 47 b w hm hb
theorem rname_any (s:ByteArray) (w:World) (hm:s.size≤9223372036854775807):Calls Tryz.prog 162 #[.string s] w (NameE w s.data.toList):=by
 by_cases h0:s.size=0
 ·have HR:=Lib.hid (show nerr s.data.toList=2 by unfold nerr;rw [if_pos (List.eq_nil_of_length_eq_zero (by rw [← Lib.size_eq];exact h0))])
  go_enter Tryz.func162,Tryz.ntmps162
  go_wp2_with fail
  go_ret
  exact ⟨by rw [HR.out];rfl,Below.refl _ _⟩
 ·have hne:s.data.toList≠[]:=fun e=>h0 (by rw [Lib.size_eq,e];rfl)
  by_cases h60:60<s.size
  ·have HR:=Lib.hid (show nerr s.data.toList=36 by unfold nerr;rw [if_neg hne,if_pos (by rw [← Lib.size_eq];exact h60)])
   clear hne
   go_enter Tryz.func162,Tryz.ntmps162
   go_wp2_with fail
   go_ret
   exact ⟨by rw [HR.out];rfl,Below.refl _ _⟩
  ·have HF:=Lib.hid (show nerr s.data.toList=if (decide ((0:UInt8)∈s.data.toList) || decide ((47:UInt8)∈s.data.toList))=true then 22 else 0 by
    unfold nerr;rw [if_neg hne,if_neg (by rw [← Lib.size_eq];exact h60)];simp)
   clear hne
   have hA:=fun w=>rhas0 s _ w hm rfl
   have hB:=fun w=>rhas47 s _ w hm rfl
   generalize decide ((0:UInt8)∈s.data.toList)=b0 at *
   generalize decide ((47:UInt8)∈s.data.toList)=b47 at *
   unfold NameE
   cases b0
   ·cases b47
    ·go_enter Tryz.func162,Tryz.ntmps162
     go_wp2_with fail
     refine (hA _).mono ?_
     rintro e w' ⟨rfl,rfl⟩
     go_wp2_with fail
     refine (hB _).mono ?_
     rintro e w' ⟨rfl,rfl⟩
     go_wp2_with fail
     go_ret
     exact ⟨by rw [HF.out];rfl,Below.refl _ _⟩
    ·go_enter Tryz.func162,Tryz.ntmps162
     go_wp2_with fail
     refine (hA _).mono ?_
     rintro e w' ⟨rfl,rfl⟩
     go_wp2_with fail
     refine (hB _).mono ?_
     rintro e w' ⟨rfl,rfl⟩
     go_wp2_with fail
     go_ret
     exact ⟨by rw [HF.out];rfl,Below.refl _ _⟩
   ·go_enter Tryz.func162,Tryz.ntmps162
    go_wp2_with fail
    refine (hA _).mono ?_
    rintro e w' ⟨rfl,rfl⟩
    go_wp2_with fail
    go_ret
    exact ⟨by rw [HF.out];rfl,Below.refl _ _⟩
theorem strs_lit (w:World) (B:Nat) (hB:B≤w.heap.size):(w.alloc (.cells #[] 9)).ownsRow B 9 1 (.slice (some ⟨w.heap.size,0,none⟩) 0 0) 0 [] :=
 World.ownsRow_lit w #[] 0 hB (by unfold maxLen;omega) (by simp)
theorem parts_any (s:ByteArray) (w:World) (hs:s.size≤400) :
    Calls Tryz.prog 229 #[.string s] w (OwnE w (comps s.data.toList)):=by
  obtain ⟨i0,hi,hz0,hz1,hz2⟩:=info_parts info9
  have HL:=Lib.hid (Lib.size_eq s)
  go_enter Tryz.func229,Tryz.ntmps229
  go_wp2_with fail
  go_loopg [3,4,5] (s.size+1) (fun g v f i wr=>∃ (k j:Nat) (pre:List Bs),k≤j∧j≤s.size+1∧g+j=s.size+1∧f=.int .i64 k∧i=.int .i64 j∧(j=s.size+1→k=s.size+1)∧pre.length≤k ∧
      Hid (comps s.data.toList=pre++comps (s.data.toList.drop k))∧Hid (∀ c∈(s.data.toList.drop k).take (j - k),c≠47) ∧
      wr.ownsRow w.heap.size 9 1 v pre.length (pre.map Sv)∧Below w.heap.size w wr)
  case atStart=>exact ⟨0,0,[],by omega,by omega,by omega,rfl,rfl,by omega,by simp,(by show _=_;simp),(by show ∀ _,_;simp),strs_lit w _ (Nat.le_refl _),below_alloc w _⟩
  case round =>
    obtain ⟨k,j,pre,hkj,hj,hg,rfl,rfl,hend,hp,HC,HN,hown,hb⟩:=hrel
    by_cases hjl:j<s.size
    · have hjL:j<s.data.toList.length:=by rw [← Lib.size_eq];exact hjl
      clear hend
      by_cases h47:s[j]=47
      · have hT:(((s[j]).toNat:Int) == 47)=true:=by rw [h47];rfl
        have HS:=Lib.hid (comps_step s.data.toList k j hkj hjL HN.out (by rw [← getD_data s j hjl];exact h47))
        clear h47
        by_cases hjk:k<j
        · go_wp2_with (at_builtin;go_must (refine wpList_append_own _ rfl (.tmp 26) (.tmp 31) 43 rfl w.heap.size 9 i0 _ 1 16 Tryz.underlying43 hi hz0 hz1 hz2 rfl (by decide) u3 pre.length (pre.map Sv) rfl (hown.alloc _) ⟨wr.heap.size,0,none⟩ 1 1 [.string (s.extract k j)] rfl rfl (cell_one_new _ _ _) (by intro u hu;simp at hu;subst hu;rfl) (by unfold maxLen;omega) (by omega) (by have:=hb.size;simp;omega) ?_);intro v1 w1 hown1 hgrow1 _)
          go_roundg (gk - 1)
          case measure=>omega
          case rel =>
            have HS':=HS.out
            rw [one_ne _ (by intro h;have:=congrArg List.length h;simp at this;omega)] at HS'
            refine ⟨j+1,j+1,pre++[(s.data.toList.drop k).take (j - k)],by omega,by omega,by omega,by go_num,by go_num,by omega,by simp;omega,?_,?_,?_,?_⟩
            · show _=_
              rw [HC.out,HS',List.append_assoc]
            · show ∀ _,_
              simp
            · rw [ex_list] at hown1
              simpa using hown1
            · exact (hb.alloc hb.size _).grown hgrow1 (by have:=hb.size;simp;omega) (fun g hg'=>(hown.lt g hg').1)
        · have hje:j=k:=by omega
          subst hje
          go_wp2_with fail
          go_roundg (gk - 1)
          case measure=>omega
          case rel =>
            have HS':=HS.out
            rw [Nat.sub_self,List.take_zero,one_nil,List.nil_append] at HS'
            exact ⟨j+1,j+1,pre,by omega,by omega,by omega,by go_num,by go_num,by omega,by omega,(by show _=_;rw [HC.out,HS']),(by show ∀ _,_;simp),hown,hb⟩
      · have hT:(((s[j]).toNat:Int) == 47)=false:=by
          rw [beq_eq_false_iff_ne]
          intro h
          exact h47 (UInt8.toNat_inj.1 (by have:s[j].toNat=47:=(by omega);simpa using this))
        have HN':Hid (∀ c∈(s.data.toList.drop k).take (j+1 - k),c≠47):=by
          show ∀ _,_
          rw [drop_take_snoc _ _ _ hkj hjL]
          intro c hc
          rw [List.mem_append,List.mem_singleton] at hc
          rcases hc with hc|rfl
          · exact HN.out c hc
          · rw [← getD_data s j hjl];exact h47
        clear h47
        go_wp2_with fail
        go_roundg (gk - 1)
        case measure=>omega
        case rel=>exact ⟨k,j+1,pre,by omega,by omega,by omega,rfl,by go_num,by omega,hp,HC,HN',hown,hb⟩
    · by_cases hje:j=s.size
      · subst hje
        clear hend
        by_cases hjk:k<s.size
        · have HS:=Lib.hid (comps_last s.data.toList k (by rw [← Lib.size_eq];exact hjk) (by rw [← Lib.size_eq];exact HN.out))
          go_wp2_with (at_builtin;go_must (refine wpList_append_own _ rfl (.tmp 26) (.tmp 31) 43 rfl w.heap.size 9 i0 _ 1 16 Tryz.underlying43 hi hz0 hz1 hz2 rfl (by decide) u3 pre.length (pre.map Sv) rfl (hown.alloc _) ⟨wr.heap.size,0,none⟩ 1 1 [.string (s.extract k s.size)] rfl rfl (cell_one_new _ _ _) (by intro u hu;simp at hu;subst hu;rfl) (by unfold maxLen;omega) (by omega) (by have:=hb.size;simp;omega) ?_);intro v1 w1 hown1 hgrow1 _)
          go_roundg (gk - 1)
          case measure=>omega
          case rel =>
            refine ⟨s.size+1,s.size+1,pre++[(s.data.toList.drop k).take (s.size - k)],by omega,by omega,by omega,by go_num,by go_num,by omega,by simp;omega,?_,?_,?_,?_⟩
            · show _=_
              have e1:s.data.toList.drop (s.size+1)=[]:=List.drop_eq_nil_of_le (by rw [← HL.out];omega)
              rw [e1,comps_nil,List.append_nil,HC.out,HS.out,← HL.out]
            · show ∀ _,_
              simp
            · rw [ex_list] at hown1
              simpa using hown1
            · exact (hb.alloc hb.size _).grown hgrow1 (by have:=hb.size;simp;omega) (fun g hg'=>(hown.lt g hg').1)
        · have hke:k=s.size:=by omega
          subst hke
          go_wp2_with fail
          go_roundg (gk - 1)
          case measure=>omega
          case rel =>
            refine ⟨s.size+1,s.size+1,pre,by omega,by omega,by omega,by go_num,by go_num,by omega,by omega,?_,?_,hown,hb⟩
            · show _=_
              rw [HC.out,List.drop_eq_nil_of_le (by rw [← HL.out];omega),List.drop_eq_nil_of_le (by rw [← HL.out];omega)]
            · show ∀ _,_
              simp
      · have hk1:=hend (by omega)
        have HF:=Lib.hid (show comps s.data.toList=pre by rw [HC.out,List.drop_eq_nil_of_le (by rw [← HL.out];omega),comps_nil,List.append_nil])
        have hkl:¬ ((j:Int)≤(s.size:Int)):=by omega
        clear hend hjl hje hk1
        go_wp2_with fail
        go_ret
        rw [HF.out]
        exact ownE_of hown hb
end Go.Proofs.YtgoddboicjfkcaaGreat.pa
