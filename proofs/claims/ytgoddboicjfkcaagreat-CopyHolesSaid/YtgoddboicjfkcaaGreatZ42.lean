/- Part 42 of what is known of the program's functions and of the document's words: contracts, and the mathematics beneath them. -/
import Derived.Test.YtgoddboicjfkcaaGreatProg
import Derived.Test.YtgoddboicjfkcaaGreatZ41
import Derived.Deep.RegionHeldLaw
import Derived.Deep.AppendLies
import Derived.Deep.RegionLaw
import Derived.Test.YtgoddboicjfkcaaGreatZ40
set_option linter.unusedVariables false
set_option linter.unusedSimpArgs false
set_option maxRecDepth 100000
set_option maxHeartbeats 8000000
namespace Go.Proofs.YtgoddboicjfkcaaGreat.pa
open Go.RowKit
theorem suffix_last (l:Bs) (c:UInt8):Lib.hasSuffix l [c]=(l.getLast? == some c):=by
 unfold Lib.hasSuffix
 rw [Bool.eq_iff_iff,List.isSuffixOf_iff_suffix,beq_iff_eq]
 constructor
 ·rintro ⟨t,rfl⟩
  simp
 ·intro h
  obtain ⟨ys,rfl⟩:=List.getLast?_eq_some_iff.1 h
  exact ⟨ys,rfl⟩
theorem rparse_empty (s:ByteArray) (w:World) (h:s.size=0):Calls Tryz.prog 214 #[.string s] w (ParseE w s.data.toList):=by
 have HP:=Lib.hid (show perr s.data.toList=2 by
  unfold perr
  rw [if_pos (List.eq_nil_of_length_eq_zero (by rw [← Lib.size_eq];exact h))])
 go_enter Tryz.func214,Tryz.ntmps214
 go_wp2_with fail
 exact bodyPost_ret (v:=.tuple #[.agg #[.slice none 0 0,.bool false],.int .i64 2]) (by simp [results,Tryz.results214,go_sem]) rfl (parseE_no HP.out (by decide) ((below_alloc w _).alloc (by simp) _))
theorem rparse_long (s:ByteArray) (w:World) (hs:400<s.size):Calls Tryz.prog 214 #[.string s] w (ParseE w s.data.toList):=by
 have HP:=Lib.hid (show perr s.data.toList=36 by
  unfold perr
  rw [Lib.size_eq] at hs
  rw [if_neg (by intro h;rw [h] at hs;simp at hs),if_pos hs])
 have h0:¬ s.size=0:=by omega
 go_enter Tryz.func214,Tryz.ntmps214
 go_wp2_with fail
 exact bodyPost_ret (v:=.tuple #[.agg #[.slice none 0 0,.bool false],.int .i64 36]) (by simp [results,Tryz.results214,go_sem]) rfl (parseE_no HP.out (by decide) ((below_alloc w _).alloc (by simp) _))
theorem rparse_nul (s:ByteArray) (w:World) (h0:¬ s.size=0) (hs:s.size≤400) (h:(0:UInt8)∈s.data.toList):Calls Tryz.prog 214 #[.string s] w (ParseE w s.data.toList):=by
 have HP:=Lib.hid (show perr s.data.toList=22 by
  unfold perr
  rw [if_neg (fun e=>h0 (by rw [Lib.size_eq,e];rfl)),if_neg (by rw [← Lib.size_eq];omega),if_pos h])
 have HN:=fun w=>rhas0 s true w (by omega) (decide_eq_true h)
 clear h
 go_enter Tryz.func214,Tryz.ntmps214
 go_wp2_with fail
 refine (HN _).mono ?_
 rintro e w' ⟨rfl,rfl⟩
 go_wp2_with fail
 exact bodyPost_ret (v:=.tuple #[.agg #[.slice none 0 0,.bool false],.int .i64 22]) (by simp [results,Tryz.results214,go_sem]) rfl (parseE_no HP.out (by decide) ((below_alloc w _).alloc (by simp) _))
theorem rparse_main (s:ByteArray) (w:World) (m:Nat) (h0:s.size=m+1) (hs:s.size≤400) (h:(0:UInt8)∉s.data.toList):Calls Tryz.prog 214 #[.string s] w (ParseE w s.data.toList):=by
  obtain ⟨i0,hi,hz0,hz1,hz2⟩:=info_parts info9
  have HN:=fun w=>rhas0 s false w (by omega) (decide_eq_false h)
  have hcnt:(comps s.data.toList).length≤400:=by have:=comps_count s.data.toList;rw [← Lib.size_eq] at this;omega
  have HC:=fun w=>parts_any s w hs
  have H0:=Lib.hid (And.intro (show s.data.toList≠[] from fun e=>by rw [Lib.size_eq,e] at h0;simp at h0) h)
  clear h
  generalize hx:comps s.data.toList=xs at *
  have HX:=Lib.hid hx
  clear hx
  go_enter Tryz.func214,Tryz.ntmps214
  go_wp2_with fail
  refine (HN _).mono ?_
  rintro e w' ⟨rfl,rfl⟩
  go_wp2_with fail
  refine (HC _).mono ?_
  rintro e w1 ⟨A,c,rfl,hown,hb⟩
  have hmm:m<s.size:=by omega
  have hxs:Strs w1 w1.heap.size A xs:=hown.strs
  have sz1:w.heap.size+2≤w1.heap.size:=by have:=hb.size;simpa using this
  have hb1:Below w.heap.size w w1:=(((Below.refl _ _).alloc (Nat.le_refl _) _).alloc (by simp) _).trans (hb.mono (by simp;omega))
  have r0:w1.cell? ⟨w.heap.size,0,none⟩=some (.slice none 0 0):=by rw [hb.cell (p:=⟨w.heap.size,0,none⟩) (by simp;omega)];simp [World.cell?_alloc_past]
  have r1:w1.cell? ⟨w.heap.size,1,none⟩=some (.bool false):=by rw [hb.cell (p:=⟨w.heap.size,1,none⟩) (by simp;omega)];simp [World.cell?_alloc_past]
  have f0:w1.frozen? ⟨w.heap.size,0,none⟩=false:=by rw [hb.frozen (p:=⟨w.heap.size,0,none⟩) (by simp;omega),(below_alloc (w.alloc _) _).frozen (p:=⟨w.heap.size,0,none⟩) (by simp)];simp
  have f1:w1.frozen? ⟨w.heap.size,1,none⟩=false:=by rw [hb.frozen (p:=⟨w.heap.size,1,none⟩) (by simp;omega),(below_alloc (w.alloc _) _).frozen (p:=⟨w.heap.size,1,none⟩) (by simp)];simp
  have n0:w1.cell? ⟨w.heap.size+1,0,none⟩=some (.slice none 0 0):=by rw [hb.cell (p:=⟨w.heap.size+1,0,none⟩) (by simp)];simp
  have n1:w1.cell? ⟨w.heap.size+1,1,none⟩=some (.bool false):=by rw [hb.cell (p:=⟨w.heap.size+1,1,none⟩) (by simp)];simp
  clear hb hown
  obtain ⟨en,hen⟩:∃ en:Bool,(((s[m]).toNat:Int) == 47)=en:=⟨_,rfl⟩
  have HE:=Lib.hid (show Lib.hasSuffix s.data.toList [47]=en by
    have hL:m<s.data.toList.length:=by rw [← Lib.size_eq];exact hmm
    have e1:s.data.toList.getLast?=some s[m]:=by
      rw [List.getLast?_eq_getElem?,show s.data.toList.length - 1=m from by rw [← Lib.size_eq];omega,List.getElem?_eq_getElem hL,getD_data s m hmm]
    rw [suffix_last,e1,← hen]
    by_cases h:s[m]=47
    · rw [h];rfl
    · rw [show (some s[m] == some (47:UInt8))=false by rw [beq_eq_false_iff_ne];simpa using h,eq_comm,beq_eq_false_iff_ne]
      intro h2
      exact h (UInt8.toNat_inj.1 (by have:s[m].toNat=47:=(by omega);simpa using this)))
  go_wp2_with fail
  clear hen
  go_loopg [7] xs.length (fun g i wr=>∃ (k:Nat) (v:Value),k≤xs.length∧g+k=xs.length∧i=.int .i64 k∧Hid (∀ x∈xs.take k,x.length≤60) ∧
    wr.cell? ⟨w1.heap.size,0,none⟩=some v∧wr.cell? ⟨w1.heap.size,1,none⟩=some (.bool en)∧wr.frozen? ⟨w1.heap.size,0,none⟩=false∧wr.frozen? ⟨w1.heap.size,1,none⟩=false ∧
    wr.ownsRow (w1.heap.size+1) 9 1 v (gath (xs.take k)).length ((gath (xs.take k)).map Sv)∧Below w1.heap.size w1 wr∧w1.heap.size+1≤wr.heap.size)
  case atStart=>exact ⟨0,.slice none 0 0,by omega,by omega,rfl,(by show ∀ _,_;simp),by simp,by simp,by simp,by simp,World.ownsRow_nil _ _ _ _,below_alloc _ _,by simp⟩
  case round =>
    obtain ⟨k,v,hk,hg,rfl,HA,p0,p1,q0,q1,hrow,hbr,hsz⟩:=hrel
    have szr:w.heap.size+2≤wr.heap.size:=by omega
    have R0:wr.cell? ⟨w.heap.size,0,none⟩=some (.slice none 0 0):=(hbr.cell (p:=⟨w.heap.size,0,none⟩) (by simp;omega)).trans r0
    have R1:wr.cell? ⟨w.heap.size,1,none⟩=some (.bool false):=(hbr.cell (p:=⟨w.heap.size,1,none⟩) (by simp;omega)).trans r1
    have F0:wr.frozen? ⟨w.heap.size,0,none⟩=false:=(hbr.frozen (p:=⟨w.heap.size,0,none⟩) (by simp;omega)).trans f0
    have F1:wr.frozen? ⟨w.heap.size,1,none⟩=false:=(hbr.frozen (p:=⟨w.heap.size,1,none⟩) (by simp;omega)).trans f1
    have N0:wr.cell? ⟨w.heap.size+1,0,none⟩=some (.slice none 0 0):=(hbr.cell (p:=⟨w.heap.size+1,0,none⟩) (by simp;omega)).trans n0
    have N1:wr.cell? ⟨w.heap.size+1,1,none⟩=some (.bool false):=(hbr.cell (p:=⟨w.heap.size+1,1,none⟩) (by simp;omega)).trans n1
    by_cases hlt:k<xs.length
    · obtain ⟨ad,x,rfl,hab,hx,hcell⟩:=hxs.get hlt
      have hcr:wr.cell? (ad.add k)=some (Sv x):=(hbr.cell (p:=ad.add k) (by rw [addr_block];exact hab)).trans hcell
      have HG:=Lib.hid (gath_take xs k x hx)
      have hgl:(gath (xs.take k)).length≤k:=by have:=gath_le (xs.take k);rw [List.length_take] at this;omega
      have HM:=Lib.hid (List.mem_of_getElem? hx)
      have HT:=Lib.hid (show xs.take (k+1)=xs.take k++[x] by
        obtain ⟨hk',rfl⟩:=List.getElem?_eq_some_iff.1 hx
        exact List.take_succ_eq_append_getElem hk')
      clear hcell hx
      by_cases h60:60<x.length
      · have HP:=Lib.hid (show perr s.data.toList=36 by
          unfold perr
          rw [if_neg H0.out.1,if_neg (by rw [← Lib.size_eq];omega),if_neg H0.out.2,if_pos ⟨x,by rw [HX.out];exact HM.out,h60⟩])
        go_wp2_with fail
        exact bodyPost_ret (v:=.tuple #[.agg #[.slice none 0 0,.bool false],.int .i64 36]) (by simp [results,Tryz.results214,go_sem, *]) rfl (parseE_no HP.out (by decide) (((hb1.trans (hbr.mono (by omega))).setCell (Nat.le_refl _) _).setCell (Nat.le_refl _) _))
      · have HA':Hid (∀ x∈xs.take (k+1),x.length≤60):=by
          show ∀ _,_
          rw [HT.out]
          intro y hy
          rcases List.mem_append.1 hy with hy|hy
          · exact HA.out y hy
          · simp at hy;subst hy;omega
        by_cases hd:x=[46]
        · subst hd
          go_wp2_with fail
          go_roundg (gk - 1)
          case measure=>omega
          case rel=>exact ⟨k+1,v,by omega,by omega,by go_num,HA',p0,p1,q0,q1,by rw [HG.out];simpa using hrow,hbr,hsz⟩
        · have hdB:(!x == [46])=true:=by simp [hd]
          have HG':=Lib.hid (show gath (xs.take (k+1))=gath (xs.take k)++[x] by rw [HG.out,if_neg hd])
          have hvo:some w1.heap.size≠v.ownBlock:=fun e=>by have:=(hrow.lt _ e.symm).1;omega
          have hva:some ad.block≠v.ownBlock:=fun e=>by have:=(hrow.lt _ e.symm).1;omega
          have P0:=fun o=>((below_alloc wr o).drew.cell (p:=⟨w1.heap.size,0,none⟩) (by simp;omega)).trans p0
          have P1:=fun o=>((below_alloc wr o).drew.cell (p:=⟨w1.heap.size,1,none⟩) (by simp;omega)).trans p1
          have PC:=fun o=>((below_alloc wr o).drew.cell (p:=ad.add k) (by rw [addr_block];omega)).trans hcr
          have Q0:=fun o=>((below_alloc wr o).drew.frozen (p:=⟨w1.heap.size,0,none⟩) (by simp;omega)).trans q0
          have Q1:=fun o=>((below_alloc wr o).drew.frozen (p:=⟨w1.heap.size,1,none⟩) (by simp;omega)).trans q1
          clear hd
          go_wp2_with fail
          go_region_law (first|(refine step_append_lies _ (by rfl) _ _ _ (by rfl) (w1.heap.size+1) 9 i0 _ 1 16 Tryz.underlying43 hi hz0 hz1 hz2 (by rfl) (by decide) v (gath (xs.take k)).length ((gath (xs.take k)).map Sv) (by rfl) ((hrow.alloc _).drew) ⟨wr.heap.size,0,none⟩ 1 1 [Sv x] (by rfl) (by rfl) (World.news_of_block (cs:=#[Sv x]) (t:=9) (fr:=(0,0)) (heap_alloc_new wr _)) (by intro u hu;simp at hu;subst hu;rfl) (by decide) (by unfold maxLen;omega) (by omega) (by simp;omega) (wr.heap.size+1) (by simp) ?_;intro gg cap w3 hown1 hgrow hat hlt3;have k0:=(hgrow.cell_far ⟨w1.heap.size,0,none⟩ (by simp;omega) hvo).trans (P0 _);have k1:=(hgrow.cell_far ⟨w1.heap.size,1,none⟩ (by simp;omega) hvo).trans (P1 _);have k2:=(hgrow.frozen_far ⟨w1.heap.size,0,none⟩ (by simp;omega) hvo).trans (Q0 _);have k3:=(hgrow.frozen_far ⟨w1.heap.size,1,none⟩ (by simp;omega) hvo).trans (Q1 _)))
          all_goals
            go_wp2_with fail
            go_roundg (gk - 1)
            case measure=>omega
            case rel =>
              refine ⟨k+1,_,by omega,by omega,by go_num,HA',World.cell?_setCell_same _ _ _ k0,?_,by simpa using k2,by simpa using k3,?_,?_,?_⟩
              · rw [World.cell?_setCell_other _ _ _ _ (fun e=>by have:=congrArg Addr.off e;simp at this)];exact k1
              · rw [HG'.out]
                exact ownsRow_setCell_below (by simpa using hown1) (by simp) _
              · exact ((((hbr.alloc hbr.size _).drew).grown hgrow (by have:=hbr.size;simp;omega) (fun g hg'=>by have:=(hrow.lt g hg').1;omega)).setCell (Nat.le_refl _) _)
              · have:=hgrow.size
                simp at this ⊢
                omega
    · have HK:=Lib.hid (show xs.take k=xs by rw [List.take_of_length_le (by omega)])
      have hkl:¬ ((k:Int)<(xs.length:Int)):=by omega
      have hgl:(gath (xs.take k)).length≤k:=by have:=gath_le (xs.take k);rw [List.length_take] at this;omega
      clear hlt
      have HN40:=Lib.hid (show nms s.data.toList=gath (xs.take k) by rw [← gath_comps,HX.out,HK.out])
      have HL60:=Lib.hid (show ∀ x∈comps s.data.toList,x.length≤60 from fun x hx=>HA.out x (by rw [HK.out,← HX.out];exact hx))
      obtain ⟨A2,c2,rfl,hown2,hn2⟩:=own_form hrow
      clear hn2 hrow HK HA
      generalize gath (xs.take k)=zs at *
      have hbw:=hb1.trans (hbr.mono (by omega))
      have hxr:=hxs.below hbr
      by_cases h40:40<zs.length
      · have HP:=Lib.hid (show perr s.data.toList=36 by
          unfold perr
          rw [if_neg H0.out.1,if_neg (by rw [← Lib.size_eq];omega),if_neg H0.out.2,if_neg (by
            rintro ⟨x,hx,hl⟩
            have:=HL60.out x hx
            omega),if_pos (by rw [HN40.out];exact h40)])
        go_wp2_with fail
        exact bodyPost_ret (v:=.tuple #[.agg #[.slice none 0 0,.bool false],.int .i64 36]) (by simp [results,Tryz.results214,go_sem, *]) rfl (parseE_no HP.out (by decide) ((hbw.setCell (Nat.le_refl _) _).setCell (Nat.le_refl _) _))
      · have HP:=Lib.hid (show perr s.data.toList=0 by
          rw [perr_zero]
          exact ⟨H0.out.1,by rw [← Lib.size_eq];omega,H0.out.2,fun x hx=>HL60.out x hx,by rw [HN40.out];omega⟩)
        have HF:=Lib.hid (show ∀ (D:Bool) (W:World),pdir s.data.toList=D→Own W w.heap.size A2 c2 zs→Below w.heap.size w W →
            ParseE w s.data.toList (.returned (.tuple #[.agg #[.slice A2 zs.length c2,.bool D],.int .i64 0])) W from fun D W hD hO hB=>by
          refine ⟨A2,c2,?_,?_,hB⟩
          · rw [pnames_ok HP.out,pdirE_ok HP.out,HN40.out,hD,HP.out]
          · rw [pnames_ok HP.out,HN40.out];exact hO)
        have HD:=Lib.hid (show pdir s.data.toList=(xs.isEmpty || en || lastDots xs) by unfold pdir;rw [HX.out,HE.out])
        generalize hnx:xs.length=n at *
        cases n with
        | zero =>
          have HT:=Lib.hid (show pdir s.data.toList=true by rw [HD.out,List.eq_nil_of_length_eq_zero hnx];rfl)
          clear HD hxr hxs hcnt HC HX
          go_wp2_with fail
          refine bodyPost_ret (v:=.tuple #[.agg #[.slice A2 zs.length c2,.bool true],.int .i64 0]) (by simp [results,Tryz.results214,go_sem, *]) rfl (HF.out true _ HT.out ?_ ?_)
          · exact (((hown2.set (by simp) _).set (by simp;omega) _).set (by simp;omega) _).base (by omega)
          · exact ((hbw.setCell (by simp;omega) _).setCell (by simp) _).setCell (by simp) _
        | succ j =>
          obtain ⟨ad,y,rfl,hab,hy,hcy⟩:=hxr.get (k:=j) (by omega)
          have hyl:lastDots xs=(y == [46] || y == [46,46]):=by
            unfold lastDots
            rw [List.getLast?_eq_getElem?,hnx,Nat.add_sub_cancel,hy]
          have hem:xs.isEmpty=false:=by cases xs with
            | nil=>simp at hnx
            | cons _ _=>rfl
          rw [hem,hyl,Bool.false_or] at HD
          clear hyl hem hxr hxs HC HX hy
          by_cases h1:y=[46]
          · have HT:=Lib.hid (show pdir s.data.toList=true by rw [HD.out,h1];simp)
            clear HD
            subst h1
            go_wp2_with fail
            refine bodyPost_ret (v:=.tuple #[.agg #[.slice A2 zs.length c2,.bool true],.int .i64 0]) (by simp [results,Tryz.results214,go_sem, *]) rfl (HF.out true _ HT.out ?_ ?_)
            · exact (((hown2.set (by simp) _).set (by simp;omega) _).set (by simp;omega) _).base (by omega)
            · exact ((hbw.setCell (by simp;omega) _).setCell (by simp) _).setCell (by simp) _
          · by_cases h2:y=[46,46]
            · have HT:=Lib.hid (show pdir s.data.toList=true by rw [HD.out,h2];simp)
              clear HD h1
              subst h2
              go_wp2_with fail
              refine bodyPost_ret (v:=.tuple #[.agg #[.slice A2 zs.length c2,.bool true],.int .i64 0]) (by simp [results,Tryz.results214,go_sem, *]) rfl (HF.out true _ HT.out ?_ ?_)
              · exact (((hown2.set (by simp) _).set (by simp;omega) _).set (by simp;omega) _).base (by omega)
              · exact ((hbw.setCell (by simp;omega) _).setCell (by simp) _).setCell (by simp) _
            · have b1:(y == [46])=false:=by rw [beq_eq_false_iff_ne];exact h1
              have b2:(y == [46,46])=false:=by rw [beq_eq_false_iff_ne];exact h2
              have HT:=Lib.hid (show pdir s.data.toList=en by rw [HD.out,b1,b2];simp)
              clear HD h1 h2
              go_wp2_with fail
              refine bodyPost_ret (v:=.tuple #[.agg #[.slice A2 zs.length c2,.bool en],.int .i64 0]) (by simp [results,Tryz.results214,go_sem, *]) rfl (HF.out en _ HT.out ?_ ?_)
              · exact ((hown2.set (by simp;omega) _).set (by simp;omega) _).base (by omega)
              · exact (hbw.setCell (by simp) _).setCell (by simp) _
theorem rparse_any (s:ByteArray) (w:World):Calls Tryz.prog 214 #[.string s] w (ParseE w s.data.toList):=by
 by_cases h0:s.size=0
 ·exact rparse_empty s w h0
 ·by_cases hs:400<s.size
  ·exact rparse_long s w hs
  ·by_cases h:(0:UInt8)∈s.data.toList
   ·exact rparse_nul s w h0 (by omega) h
   ·exact rparse_main s w (s.size - 1) (by omega) (by omega) h
theorem rlast_none (A:Option Addr) (c:Nat) (d:Bool) (w:World):Calls Tryz.prog 215 #[Pv A 0 c d] w (LastNo w):=by
 go_enter Tryz.func215,Tryz.ntmps215
 go_wp2_with fail
 exact bodyPost_ret (v:=.tuple #[Pv none 0 0 false,Sv [],.int .i64 16]) (by simp [results,Tryz.results215,go_sem]) rfl ⟨rfl,(below_alloc w _).alloc (by simp) _⟩
theorem rlast_dots (A:Option Addr) (n c B:Nat) (d:Bool) (ys:List Bs) (x:Bs) (w:World) (hn:n=ys.length) (hl:n≤65536) (hB:B≤w.heap.size) (hx:Strs w B A (ys++[x])) (hd:dotB x=true) :
  Calls Tryz.prog 215 #[Pv A (n+1) c d] w (LastNo w):=by
 obtain ⟨ad,rfl,hb,hcell,-⟩:=last_get hx
 rw [← hn] at hcell
 have hc1:∀ o1 o2,((w.alloc o1).alloc o2).cell? (ad.add n)=some (Sv x):=fun o1 o2=>by
  rw [World.cell?_alloc_lt _ _ _ (by rw [addr_block];simp;omega),World.cell?_alloc_lt _ _ _ (by rw [addr_block];omega)];exact hcell
 clear hcell hx hn
 by_cases h1:x=[46]
 ·subst h1
  go_enter Tryz.func215,Tryz.ntmps215
  go_wp2_with fail
  exact bodyPost_ret (v:=.tuple #[Pv none 0 0 false,Sv [],.int .i64 16]) (by simp [results,Tryz.results215,go_sem]) rfl ⟨rfl,(below_alloc w _).alloc (by simp) _⟩
 ·have h2:x=[46,46]:=by
   unfold dotB at hd
   simp [h1] at hd
   exact hd
  subst h2
  go_enter Tryz.func215,Tryz.ntmps215
  go_wp2_with fail
  exact bodyPost_ret (v:=.tuple #[Pv none 0 0 false,Sv [],.int .i64 16]) (by simp [results,Tryz.results215,go_sem]) rfl ⟨rfl,(below_alloc w _).alloc (by simp) _⟩
structure RL (w w2:World):Prop where
 c0:w2.cell? ⟨w.heap.size+1,0,none⟩=some (.slice none 0 0)
 c1:w2.cell? ⟨w.heap.size+1,1,none⟩=some (.bool false)
 f0:w2.frozen? ⟨w.heap.size+1,0,none⟩=false
 f1:w2.frozen? ⟨w.heap.size+1,1,none⟩=false
 bl:Below w.heap.size w w2
 sz:w.heap.size+3≤w2.heap.size
theorem rl_facts {w w2:World} {v0 v1:Value} (h:(((w.alloc (.cells #[v0,v1] 292)).alloc (.cells #[.slice none 0 0,.bool false] 292)).alloc (.cells #[] 9)).grownBy w2 (Value.slice (some ⟨w.heap.size+1+1,0,none⟩) 0 0).ownBlock):RL w w2:=by
 have hb2:Below (w.heap.size+2) (((w.alloc (.cells #[v0,v1] 292)).alloc (.cells #[.slice none 0 0,.bool false] 292)).alloc (.cells #[] 9)) w2 :=
  (Below.refl _ _).grown h (by simp) (fun k hk=>by simp [Value.ownBlock] at hk;omega)
 have b3:Below w.heap.size w (((w.alloc (.cells #[v0,v1] 292)).alloc (.cells #[.slice none 0 0,.bool false] 292)).alloc (.cells #[] 9)):=((below_alloc w _).alloc (by simp) _).alloc (by simp;omega) _
 refine ⟨?_,?_,?_,?_,b3.trans (hb2.mono (by omega)),by have:=hb2.size;simpa using this⟩
 ·rw [hb2.cell (p:=⟨w.heap.size+1,0,none⟩) (by simp)];simp [World.cell?_alloc_past]
 ·rw [hb2.cell (p:=⟨w.heap.size+1,1,none⟩) (by simp)];simp [World.cell?_alloc_past]
 ·rw [hb2.frozen (p:=⟨w.heap.size+1,0,none⟩) (by simp),(below_alloc ((w.alloc _).alloc _) _).frozen (p:=⟨w.heap.size+1,0,none⟩) (by simp)];simp
 ·rw [hb2.frozen (p:=⟨w.heap.size+1,1,none⟩) (by simp),(below_alloc ((w.alloc _).alloc _) _).frozen (p:=⟨w.heap.size+1,1,none⟩) (by simp)];simp
theorem rlast_yes (A:Option Addr) (n c B:Nat) (d:Bool) (ys:List Bs) (x:Bs) (w:World) (hn:n=ys.length) (hl:n≤65536) (hc:n+1≤c) (hB:B≤w.heap.size) (hx:Strs w B A (ys++[x])) (hd:dotB x=false) :
  Calls Tryz.prog 215 #[Pv A (n+1) c d] w (LastYes w ys x):=by
 obtain ⟨i0,hi,hz0,hz1,hz2⟩:=info_parts info9
 obtain ⟨ad,rfl,hb,hcell,hcs⟩:=last_get hx
 rw [← hn] at hcell
 have hk:∀ o1 o2 p,p.block<B→((w.alloc o1).alloc o2).cell? p=w.cell? p:=fun o1 o2 p hp=>by
  rw [World.cell?_alloc_lt _ _ _ (by simp;omega),World.cell?_alloc_lt _ _ _ (by omega)]
 have hc1:∀ o1 o2,((w.alloc o1).alloc o2).cell? (ad.add n)=some (Sv x):=fun o1 o2=>(hk _ _ _ (by rw [addr_block];exact hb)).trans hcell
 have HC:=Lib.hid (show ∀ o1 o2 o3 (j:Nat) u,(ys.map Sv)[j]?=some u→(((w.alloc o1).alloc o2).alloc o3).cell? (ad.add j)=some u by
  intro o1 o2 o3 j u hu
  rw [List.getElem?_map,Option.map_eq_some_iff] at hu
  obtain ⟨y,hy,rfl⟩:=hu
  rw [World.cell?_alloc_lt _ _ _ (by rw [addr_block];simp;omega)]
  exact (hk _ _ _ (by rw [addr_block];exact hb)).trans (hcs j y hy))
 have b1:(x == [46])=false:=by
  unfold dotB at hd
  simp at hd
  rw [beq_eq_false_iff_ne];exact hd.1
 have b2:(x == [46,46])=false:=by
  unfold dotB at hd
  simp at hd
  rw [beq_eq_false_iff_ne];exact hd.2
 have HN:=Lib.hid hn
 have hlit:=strs_lit ((w.alloc (.cells #[.slice (some ad) (n+1) c,.bool d] 292)).alloc (.cells #[.slice none 0 0,.bool false] 292)) (w.heap.size+2) (by simp)
 simp only [World.size_alloc] at hlit
 have HLIT:=Lib.hid hlit
 clear hcell hx hcs hk hn hd hlit
 go_enter Tryz.func215,Tryz.ntmps215
 go_wp2_with (at_builtin;go_must (refine wpList_append_own _ rfl (.tmp 26) (.tmp 33) 43 rfl (w.heap.size+2) 9 i0 _ 1 16 Tryz.underlying43 hi hz0 hz1 hz2 rfl (by decide) (.slice (some ⟨w.heap.size+1+1,0,none⟩) 0 0) 0 [] rfl HLIT.out ad n c (ys.map Sv) rfl (by rw [List.length_map,← HN.out];omega) (HC.out _ _ _) (by intro u hu;simp at hu;obtain ⟨_,_,rfl⟩:=hu;rfl) (by unfold maxLen;omega) (by omega) (by simp) ?_);intro v1 w2 hown1 hgrow1 _;rw [List.nil_append] at hown1;have HR:=rl_facts hgrow1;have q0:=HR.c0;have q1:=HR.c1;have q2:=HR.f0;have q3:=HR.f1;have q4:=HR.sz;obtain ⟨A1,c1,rfl,hown,-⟩:=own_form hown1)
 refine bodyPost_ret (v:=.tuple #[Pv A1 ys.length c1 true,Sv x,.int .i64 0]) (by simp [results,Tryz.results215,go_sem,q0,q1]) rfl ⟨A1,c1,rfl,?_,?_⟩
 ·exact ((hown.set (by simp) _).set (by simp) _).base (by omega)
 ·exact (HR.bl.setCell (by simp) _).setCell (by simp) _
theorem rlast_any (A:Option Addr) (n c B:Nat) (d:Bool) (xs:List Bs) (w:World) (hn:n=xs.length) (hl:n≤65536) (hc:n≤c) (hB:B≤w.heap.size) (hx:Strs w B A xs) :
  (lastNo xs=true∧Calls Tryz.prog 215 #[Pv A n c d] w (LastNo w))∨∃ ys x,xs=ys++[x]∧dotB x=false∧Calls Tryz.prog 215 #[Pv A n c d] w (LastYes w ys x):=by
 subst hn
 rcases List.eq_nil_or_concat xs with rfl|⟨ys,x,rfl⟩
 ·exact .inl ⟨rfl,rlast_none A c d w⟩
 ·rw [List.concat_eq_append] at hx hl hc ⊢
  rw [List.length_append,List.length_singleton] at hl hc ⊢
  cases hd:dotB x
  ·exact .inr ⟨ys,x,rfl,hd,rlast_yes A ys.length c B d ys x w rfl (by omega) hc hB hx hd⟩
  ·exact .inl ⟨by simp [lastNo,hd],rlast_dots A ys.length c B d ys x w rfl (by omega) hB hx hd⟩
end Go.Proofs.YtgoddboicjfkcaaGreat.pa
