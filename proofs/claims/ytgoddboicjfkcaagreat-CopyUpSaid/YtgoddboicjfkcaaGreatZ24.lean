/- Contracts and mathematics, part 24. -/
import Derived.Test.YtgoddboicjfkcaaGreatZ01
import Derived.Deep.RegionHeldLaw
set_option linter.unusedVariables false
set_option linter.unusedSimpArgs false
set_option maxRecDepth 100000
set_option maxHeartbeats 8000000
namespace Go.Proofs.YtgoddboicjfkcaaGreat
namespace pa
abbrev Bs:=List UInt8
def compsA:Bs→Bs→List Bs
 | cur,[]=>if cur.isEmpty then [] else [cur]
 | cur,c::r=>if c=47 then (if cur.isEmpty then compsA [] r else cur::compsA [] r) else compsA (cur++[c]) r
def comps (l:Bs):List Bs:=compsA [] l
def one (cur:Bs):List Bs:=if cur.isEmpty then [] else [cur]
theorem compsA_nil (cur:Bs):compsA cur []=one cur:=by simp [compsA,one]
theorem compsA_slash (cur r:Bs):compsA cur (47::r)=one cur++comps r:=by
 simp only [compsA,comps,one,Jb]
 split <;> rfl
theorem compsA_other (cur r:Bs) (c:UInt8) (h:c≠47):compsA cur (c::r)=compsA (cur++[c]) r:=by
 simp [compsA,h]
theorem compsA_run (x cur r:Bs) (h:∀c∈x,c≠47):compsA cur (x++r)=compsA (cur++x) r:=by
 induction x generalizing cur with
 | nil=>simp
 | cons c x ih =>
  rw [List.cons_append,compsA_other _ _ _ (h c (by simp)),ih _ (fun d hd=>h d (by simp [hd]))]
  simp
theorem compsA_mid (a cur b:Bs):compsA cur (a++47::b)=compsA cur a++comps b:=by
 induction a generalizing cur with
 | nil=>rw [List.nil_append,compsA_slash,compsA_nil]
 | cons c a ih =>
  by_cases h:c=47
  ·subst h
   rw [List.cons_append,compsA_slash,compsA_slash,List.append_assoc]
   exact congrArg _ (ih [])
  ·rw [List.cons_append,compsA_other _ _ _ h,compsA_other _ _ _ h,ih]
theorem comps_mid (a b:Bs):comps (a++47::b)=comps a++comps b:=compsA_mid a [] b
theorem comps_nil:comps []=[]:=by simp [comps,compsA]
theorem comps_one (x:Bs) (h:∀c∈x,c≠47):comps x=one x:=by
 have:=compsA_run x [] [] h
 rw [List.append_nil,List.nil_append,compsA_nil] at this
 exact this
theorem one_ne (x:Bs) (h:x≠[]):one x=[x]:=by cases x <;> simp_all [one]
theorem one_nil:one []=[]:=rfl
theorem compsA_count (l cur:Bs):(compsA cur l).length≤cur.length+l.length:=by
 induction l generalizing cur with
 | nil =>
  rw [compsA_nil]
  cases cur <;> simp [one]
 | cons c l ih =>
  by_cases h:c=47
  ·subst h
   rw [compsA_slash]
   have:=ih []
   have e:(compsA [] l)=comps l:=rfl
   rw [e] at this
   cases cur <;> simp [one] at this ⊢ <;> omega
  ·rw [compsA_other _ _ _ h]
   have:=ih (cur++[c])
   simp at this ⊢
   omega
theorem comps_count (l:Bs):(comps l).length≤l.length:=by have:=compsA_count l [];rw [List.length_nil,Nat.zero_add] at this;exact this
def nms (l:Bs):List Bs:=(comps l).filter fun x=>!(x == [46])
def lastDots (xs:List Bs):Bool:=match xs.getLast? with|some x=>x == [46] || x == [46,46]|none=>false
def pdir (l:Bs):Bool:=(comps l).isEmpty || Lib.hasSuffix l [47] || lastDots (comps l)
def perr (l:Bs):Int :=
 if l=[] then 2 else if 400<l.length then 36 else if (0:UInt8)∈l then 22
 else if ∃x∈comps l,60<x.length then 36 else if 40<(nms l).length then 36 else 0
def pnames (l:Bs):List Bs:=if perr l=0 then nms l else []
def pdirE (l:Bs):Bool:=if perr l=0 then pdir l else false
theorem perr_zero {l:Bs}:perr l=0↔l≠[]∧l.length≤400∧(0:UInt8)∉l∧(∀x∈comps l,x.length≤60)∧(nms l).length≤40:=by
 unfold perr
 by_cases h1:l=[]
 ·simp [h1]
 ·by_cases h2:400<l.length
  ·simp [h1,h2]
   omega
  ·by_cases h3:(0:UInt8)∈l
   ·simp [h1,h2,h3]
   ·by_cases h4:∃x∈comps l,60<x.length
    ·obtain ⟨x,hx,hl⟩:=h4
     have ma:∃x∈comps l,60<x.length:=⟨x,hx,hl⟩
     rw [Ja h1,Ja h2,Ja h3,Jb ma]
     refine ⟨by simp,fun ⟨_,_,_,h,_⟩=>?_⟩
     have:=h x hx
     omega
    ·have ma:∀x∈comps l,x.length≤60:=fun x hx=>by
      rcases Nat.lt_or_ge 60 x.length with h|h
      ·exact absurd ⟨x,hx,h⟩ h4
      ·exact h
     by_cases h5:40<(nms l).length
     ·rw [Ja h1,Ja h2,Ja h3,Ja h4,Jb h5]
      exact ⟨by simp,fun ⟨_,_,_,_,h⟩=>by omega⟩
     ·rw [Ja h1,Ja h2,Ja h3,Ja h4,Ja h5]
      exact ⟨fun _=>⟨h1,by omega,h3,ma,by omega⟩,fun _=>rfl⟩
theorem pnames_ok {l:Bs} (h:perr l=0):pnames l=nms l:=by simp [pnames,h]
theorem pdirE_ok {l:Bs} (h:perr l=0):pdirE l=pdir l:=by simp [pdirE,h]
theorem pnames_no {l:Bs} (h:perr l≠0):pnames l=[]:=by simp [pnames,h]
theorem pdirE_no {l:Bs} (h:perr l≠0):pdirE l=false:=by simp [pdirE,h]
def gath (xs:List Bs):List Bs:=xs.filter fun x=>!(x == [46])
theorem gath_snoc (xs:List Bs) (x:Bs):gath (xs++[x])=gath xs++if x=[46] then [] else [x]:=by
 unfold gath
 rw [List.filter_append]
 by_cases h:x=[46] <;> simp [h]
theorem gath_le (xs:List Bs):(gath xs).length≤xs.length:=List.length_filter_le _ _
theorem gath_comps (l:Bs):gath (comps l)=nms l:=rfl
end pa
namespace pa
open Go.RowKit
abbrev Sv (x:Bs):Value:=.string ⟨x.toArray⟩
theorem addr_block (a:Addr) (n:Nat):(a.add n).block=a.block:=by unfold Addr.add;split <;> rfl
def Strs (w:World) (B:Nat) (A:Option Addr) (xs:List Bs):Prop :=
 0<xs.length→∃ad,A=some ad∧ad.block<B∧∀j x,xs[j]?=some x→w.cell? (ad.add j)=some (Sv x)
theorem Strs.keep {w w':World} {B:Nat} {A:Option Addr} {xs:List Bs} (h:Strs w B A xs) (hk:∀p:Addr,p.block<B→w'.cell? p=w.cell? p):Strs w' B A xs:=fun hn=>by
 obtain ⟨ad,e,hb,hc⟩:=h hn
 exact ⟨ad,e,hb,fun j x hx=>(hk _ (by rw [addr_block];exact hb)).trans (hc j x hx)⟩
theorem Strs.below {w w':World} {B:Nat} {A:Option Addr} {xs:List Bs} (h:Strs w B A xs) (hb:Below B w w'):Strs w' B A xs:=h.keep fun _ hp=>hb.cell hp
theorem Strs.get {w:World} {B:Nat} {A:Option Addr} {xs:List Bs} (h:Strs w B A xs) {k:Nat} (hk:k<xs.length) :
  ∃ad x,A=some ad∧ad.block<B∧xs[k]?=some x∧w.cell? (ad.add k)=some (Sv x):=by
 obtain ⟨ad,e,hb,hc⟩:=h (by omega)
 exact ⟨ad,xs[k],e,hb,List.getElem?_eq_getElem hk,hc k _ (List.getElem?_eq_getElem hk)⟩
def Own (w':World) (B:Nat) (A:Option Addr) (c:Nat) (xs:List Bs):Prop:=w'.ownsRow B 9 1 (.slice A xs.length c) xs.length (xs.map Sv)
theorem Own.strs {w':World} {B:Nat} {A:Option Addr} {c:Nat} {xs:List Bs} (h:Own w' B A c xs):Strs w' w'.heap.size A xs:=by
 intro hn
 rcases h.2 with ⟨e,h0⟩|⟨g,cap,cur,hv,hb,hg,_⟩
 ·omega
 ·injection hv with hA
  subst hA
  refine ⟨_,rfl,(Array.getElem?_eq_some_iff.1 hg).1,fun j x hx=>?_⟩
  exact World.ownsRow.cells h (g:=g) rfl j (Sv x) (by rw [List.getElem?_map,hx];rfl)
theorem Own.keep {w w':World} {B:Nat} {A:Option Addr} {c:Nat} {xs:List Bs} (h:Own w B A c xs) (hb:Below w.heap.size w w'):Own w' B A c xs:=by
 unfold Own at h ⊢
 exact h.kept (row:=none) ⟨hb.os,hb.tape,hb.output,hb.size,fun k hk _=>hb.block k hk⟩ (by cases hv:(Value.slice A xs.length c).ownBlock <;> simp)
theorem own_base {w:World} {B B':Nat} {e:TypeId} {size:Nat} {v:Value} {n:Nat} {xs:List Value} (h:w.ownsRow B e size v n xs) (hB:B'≤B):w.ownsRow B' e size v n xs:=by
 refine ⟨h.1,?_⟩
 rcases h.2 with h2|⟨g,cap,cur,hv,hb,r⟩
 ·exact .inl h2
 ·exact .inr ⟨g,cap,cur,hv,by omega,r⟩
theorem Own.base {w:World} {B B':Nat} {A:Option Addr} {c:Nat} {xs:List Bs} (h:Own w B A c xs) (hB:B'≤B):Own w B' A c xs:=own_base h hB
theorem Own.set {w:World} {B:Nat} {A:Option Addr} {c:Nat} {xs:List Bs} (h:Own w B A c xs) {a:Addr} (ha:a.block<B) (u:Value):Own (w.setCell a u) B A c xs:=ownsRow_setCell_below h ha u
theorem own_form {w:World} {B n:Nat} {v:Value} {xs:List Bs} (h:w.ownsRow B 9 1 v n (xs.map Sv)):∃A c,v=.slice A xs.length c∧Own w B A c xs∧n=xs.length:=by
 have hn:n=xs.length:=by have:=h.1;simp at this;omega
 subst hn
 rcases h.2 with ⟨e,h0⟩|⟨g,cap,cur,hv,_⟩
 ·refine ⟨none,0,by rw [e,h0],?_,rfl⟩
  unfold Own
  rw [h0,←e,←h0]
  exact h
 ·refine ⟨_,cap,hv,?_,rfl⟩
  unfold Own
  rw [←hv]
  exact h
theorem drop_take_snoc (l:Bs) (i j:Nat) (hij:i≤j) (hj:j<l.length):(l.drop i).take (j+1 - i)=(l.drop i).take (j - i)++[l[j]]:=by
 rw [show j+1 - i=(j - i)+1 from by omega,List.take_succ_eq_append_getElem (by rw [List.length_drop];omega)]
 simp [List.getElem_drop,Nat.add_sub_cancel' hij]
theorem info9:(Tryz.prog.info? 9).map (fun i=>(i.zero,i.size,i.bytes))=some (some (.string ByteArray.empty),1,16):=by kernel_rfl
def OwnE (w:World) (xs:List Bs) (e:Ending) (w':World):Prop:=∃A c,e=.returned (.slice A xs.length c)∧Own w' w.heap.size A c xs∧Below w.heap.size w w'
theorem ownE_of {w w':World} {v:Value} {n:Nat} {xs:List Bs} (h:w'.ownsRow w.heap.size 9 1 v n (xs.map Sv)) (hb:Below w.heap.size w w'):OwnE w xs (.returned v) w':=by
 obtain ⟨A,c,rfl,ho,-⟩:=own_form h
 exact ⟨A,c,rfl,ho,hb⟩
theorem ex_list (s:ByteArray) (k j:Nat):Value.string (s.extract k j)=Sv ((s.data.toList.drop k).take (j - k)):=by rw [Lib.extract_eq]
theorem comps_step (L:Bs) (k j:Nat) (hkj:k≤j) (hj:j<L.length) (hn:∀c∈(L.drop k).take (j - k),c≠47) (h:L[j]=47) :
  comps (L.drop k)=one ((L.drop k).take (j - k))++comps (L.drop (j+1)):=by
 have e:L.drop k=(L.drop k).take (j - k)++47::L.drop (j+1):=by
  have h1:(L.drop k).drop (j - k)=47::L.drop (j+1):=by
   rw [List.drop_drop,show k+(j - k)=j from by omega,List.drop_eq_getElem_cons hj,h]
  rw [←h1,List.take_append_drop]
 conv=>lhs;rw [e]
 rw [comps_mid,comps_one _ hn]
theorem comps_last (L:Bs) (k:Nat) (hk:k<L.length) (hn:∀c∈(L.drop k).take (L.length - k),c≠47):comps (L.drop k)=[(L.drop k).take (L.length - k)]:=by
 have e:L.drop k=(L.drop k).take (L.length - k):=(List.take_of_length_le (by simp)).symm
 conv=>lhs;rw [e]
 rw [comps_one _ hn,one_ne]
 intro h
 have:=congrArg List.length h
 simp at this
 omega
theorem getD_data (s:ByteArray) (j:Nat) (h:j<s.size):s[j]=s.data.toList[j]'(by rw [←Lib.size_eq];exact h):=by rfl
theorem components_any (s:ByteArray) (w:World) (hs:s.size≤400) :
    Calls Tryz.prog 248 #[.string s] w (OwnE w (comps s.data.toList)):=by
  obtain ⟨i0,hi,hz0,hz1,hz2⟩:=info_parts info9
  have HL:=Qa (Lib.size_eq s)
  go_enter Tryz.func248,Tryz.ntmps248
  go_wp2
  go_step3
  go_wp2
  go_step3
  go_wp2
  go_loopg [3,4] s.size (fun g v i wr=>∃(k:Nat) (pre:List Bs),k≤s.size∧g+k=s.size∧i=.int .i64 k∧Hid (comps s.data.toList=pre++comps (s.data.toList.drop k))∧pre.length≤k ∧
      wr.ownsRow w.heap.size 9 1 v pre.length (pre.map Sv)∧Below w.heap.size w wr)
  case atStart=>exact ⟨0,[],by omega,by omega,rfl,(by show _=_;simp),by simp,World.ownsRow_nil _ _ _ _,Below.refl _ _⟩
  case round =>
    obtain ⟨k,pre,hk,hg,rfl,HC,hp,hown,hb⟩:=hrel
    by_cases hlt:k<s.size
    · go_wp2
      go_loopg [3,4,5] s.size (fun g2 v3 v4 e wy=>u3=v3∧v4=.int .i64 k∧∃j:Nat,k≤j∧j≤s.size∧g2+j=s.size+k∧e=.int .i64 j∧Hid (∀c∈(s.data.toList.drop k).take (j - k),c≠47)∧wr=wy)
      case atStart=>exact ⟨rfl,rfl,k,Nat.le_refl _,hk,by omega,rfl,(by show ∀_,_;simp),rfl⟩
      case round =>
        obtain ⟨rfl,rfl,j,hkj,hj,hg2,rfl,HN,rfl⟩:=hrel
        by_cases ja:j<s.size
        · have xa:j<s.data.toList.length:=by rw [←Lib.size_eq];exact ja
          by_cases h47:s[j]=47
          · have hT:(((s[j]).toNat:Int) != 47)=false:=by rw [h47];rfl
            have HS:=Qa (comps_step s.data.toList k j hkj xa HN.out (by rw [←getD_data s j ja];exact h47))
            clear h47
            by_cases hjk:k<j
            · go_wp2_with (at_builtin;refine wpList_append_own _ rfl (.tmp 24) (.tmp 29) 43 rfl w.heap.size 9 i0 _ 1 16 Tryz.underlying43 hi hz0 hz1 hz2 rfl (by decide) u3 pre.length (pre.map Sv) rfl (hown.alloc _) ⟨wr.heap.size,0,none⟩ 1 1 [.string (s.extract k j)] rfl rfl (cell_one_new _ _ _) (by intro u hu;simp at hu;subst hu;rfl) (by unfold maxLen;omega) (by omega) (by have:=hb.size;simp;omega) ?_;intro v1 w1 hown1 hgrow1 _)
              go_roundg (s.size - (j+1))
              case measure=>omega
              case rel =>
                have Qb:=HS.out
                rw [one_ne _ (by intro h;have:=congrArg List.length h;simp at this;omega)] at Qb
                refine ⟨j+1,pre++[(s.data.toList.drop k).take (j - k)],by omega,by omega,by go_num,?_,by simp;omega,?_,?_⟩
                · show _=_
                  rw [HC.out,Qb,List.append_assoc]
                · rw [ex_list] at hown1
                  simpa using hown1
                · exact (hb.alloc hb.size _).grown hgrow1 (by have:=hb.size;simp;omega) (fun g hg'=>(hown.lt g hg').1)
            · have qa:j=k:=by omega
              subst qa
              go_wp2
              go_roundg (s.size - (j+1))
              case measure=>omega
              case rel =>
                have Qb:=HS.out
                rw [Nat.sub_self,List.take_zero,one_nil,List.nil_append] at Qb
                exact ⟨j+1,pre,by omega,by omega,by go_num,(by show _=_;rw [HC.out,Qb]),by omega,hown,hb⟩
          · have hT:(((s[j]).toNat:Int) != 47)=true:=by
              simp only [bne_iff_ne,ne_eq]
              intro h
              exact h47 (UInt8.toNat_inj.1 (by have:s[j].toNat=47:=(by omega);simpa using this))
            have Qc:Hid (∀c∈(s.data.toList.drop k).take (j+1 - k),c≠47):=by
              show ∀_,_
              rw [drop_take_snoc _ _ _ hkj xa]
              intro c hc
              rw [List.mem_append,List.mem_singleton] at hc
              rcases hc with hc|rfl
              · exact HN.out c hc
              · rw [←getD_data s j ja];exact h47
            clear h47
            go_wp2
            go_roundg (gk - 1)
            case measure=>omega
            case rel=>exact ⟨rfl,rfl,j+1,by omega,by omega,by omega,by go_num,Qc,rfl⟩
        · have qa:j=s.size:=by omega
          have HS:=Qa (comps_last s.data.toList k (by rw [←Lib.size_eq];exact hlt) (by rw [←Lib.size_eq,←qa];exact HN.out))
          clear ja
          have ja:¬((j:Int)<(s.size:Int)):=by omega
          clear qa
          go_wp2_with (at_builtin;refine wpList_append_own _ rfl (.tmp 33) (.tmp 37) 43 rfl w.heap.size 9 i0 _ 1 16 Tryz.underlying43 hi hz0 hz1 hz2 rfl (by decide) u3 pre.length (pre.map Sv) rfl (hown.alloc _) ⟨wr.heap.size,0,none⟩ 1 1 [.string (s.extract k s.size)] rfl rfl (cell_one_new _ _ _) (by intro u hu;simp at hu;subst hu;rfl) (by unfold maxLen;omega) (by omega) (by have:=hb.size;simp;omega) ?_;intro v1 w1 hown1 hgrow1 _)
          try rw [Exit.noGoto_ret]
          go_ret
          have ma:comps s.data.toList=pre++[(s.data.toList.drop k).take (s.size - k)]:=by rw [HC.out,HS.out,HL.out]
          rw [ma]
          rw [ex_list] at hown1
          refine ownE_of (n:=pre.length+1) (by simpa using hown1) ?_
          exact (hb.alloc hb.size _).grown hgrow1 (by have:=hb.size;simp;omega) (fun g hg'=>(hown.lt g hg').1)
    · have qa:k=s.size:=by omega
      have ma:comps s.data.toList=pre:=by
        rw [HC.out,List.drop_eq_nil_of_le (by rw [←Lib.size_eq];omega),comps_nil,List.append_nil]
      have HF:=Qa ma
      have ya:¬((k:Int)<(s.size:Int)):=by omega
      clear qa ma hlt
      go_wp2
      try rw [Exit.noGoto_ret]
      go_ret
      rw [HF.out]
      exact ownE_of hown hb
def dotB (x:Bs):Bool:=x == [46] || x == [46,46]
theorem dots_any (x:Bs) (w:World):Calls Tryz.prog 251 #[Sv x] w fun e w'=>e=.returned (.bool (dotB x))∧w=w':=by
 go_enter Tryz.func251,Tryz.ntmps251
 go_wp2
 all_goals (go_ret;exact ⟨by simp_all [dotB],rfl⟩)
def endB (L:Bs) (xs:List Bs):Bool:=xs.isEmpty || Lib.hasSuffix L [47] || lastDots xs
theorem ends_none (s:ByteArray) (A:Option Addr) (c:Nat) (w:World) :
  Calls Tryz.prog 249 #[.string s,.slice A 0 c] w fun e w'=>e=.returned (.bool (endB s.data.toList []))∧w=w':=by
 go_enter Tryz.func249,Tryz.ntmps249
 go_wp2
 go_ret
 exact ⟨rfl,rfl⟩
theorem ends_some (s:ByteArray) (A:Option Addr) (c:Nat) (ys:List Bs) (x:Bs) (B:Nat) (w:World) (hs:s.size≤400) (hl:ys.length≤400) (h:Strs w B A (ys++[x])) :
  Calls Tryz.prog 249 #[.string s,.slice A (ys.length+1) c] w fun e w'=>e=.returned (.bool (endB s.data.toList (ys++[x])))∧w=w':=by
 obtain ⟨ad,y,rfl,_,hy,hcell⟩:=h.get (k:=ys.length) (by simp)
 rw [List.getElem?_append_right (Nat.le_refl _)] at hy
 simp at hy
 subst hy
 have HF:=Qa (show endB s.data.toList (ys++[x])=(Lib.hasSuffix s.data.toList [47] || dotB x) by unfold endB;rw [show (ys++[x]).isEmpty=false by cases ys <;> rfl];simp [lastDots,dotB])
 clear h
 go_enter Tryz.func249,Tryz.ntmps249
 go_wp2_with (first
  | (go_at_call 254;refine (Tryz.strings_HasSuffix _ _ _ (by omega)).mono ?_;rintro e w' ⟨rfl,rfl⟩)
  | (go_at_call 251;refine (dots_any _ _).mono ?_;rintro e w' ⟨rfl,rfl⟩))
 all_goals (go_ret;refine ⟨?_,rfl⟩;rw [HF.out])
 ·have h2:(((ys.length:Int)+1 == 0)=true∨Lib.hasSuffix s.data.toList [47]=true):=by assumption
  have h3:Lib.hasSuffix s.data.toList [47]=true:=by
   rcases h2 with h2|h2
   ·rw [beq_iff_eq] at h2;omega
   ·exact h2
  rw [h3];rfl
 ·have h2:(((ys.length:Int)+1 == 0)=false∧Lib.hasSuffix s.data.toList [47]=false):=by assumption
  rw [h2.2];rfl
theorem ends_any (s:ByteArray) (A:Option Addr) (n c:Nat) (xs:List Bs) (B:Nat) (w:World) (hn:n=xs.length) (hs:s.size≤400) (hl:xs.length≤400) (h:Strs w B A xs) :
  Calls Tryz.prog 249 #[.string s,.slice A n c] w fun e w'=>e=.returned (.bool (endB s.data.toList xs))∧w=w':=by
 subst hn
 rcases List.eq_nil_or_concat xs with rfl|⟨ys,x,rfl⟩
 ·exact ends_none s A c w
 ·rw [List.concat_eq_append] at h hl ⊢
  rw [List.length_append]
  exact ends_some s A c ys x B w hs (by simp at hl;omega) h
abbrev Pv (A:Option Addr) (n c:Nat) (d:Bool):Value:=.agg #[.slice A n c,.bool d]
def LastNo (w:World) (e:Ending) (w':World):Prop:=e=.returned (.tuple #[Pv none 0 0 false,Sv [],.int .i64 16])∧Below w.heap.size w w'
def LastYes (w:World) (ys:List Bs) (x:Bs) (e:Ending) (w':World):Prop :=
 ∃A c,e=.returned (.tuple #[Pv A ys.length c true,Sv x,.int .i64 0])∧Own w' w.heap.size A c ys∧Below w.heap.size w w'
theorem last_none (A:Option Addr) (c:Nat) (d:Bool) (w:World):Calls Tryz.prog 238 #[Pv A 0 c d] w (LastNo w):=by
 go_enter Tryz.func238,Tryz.ntmps238
 go_wp2
 exact bodyPost_ret (v:=.tuple #[Pv none 0 0 false,Sv [],.int .i64 16]) (by simp [results,Tryz.results238,go_sem]) rfl ⟨rfl,((Below.refl _ _).alloc (Nat.le_refl _) _).alloc (by simp) _⟩
theorem last_get {w:World} {B:Nat} {A:Option Addr} {ys:List Bs} {x:Bs} (h:Strs w B A (ys++[x])) :
  ∃ad,A=some ad∧ad.block<B∧w.cell? (ad.add ys.length)=some (Sv x)∧∀(j:Nat) y,ys[j]?=some y→w.cell? (ad.add j)=some (Sv y):=by
 obtain ⟨ad,rfl,hb,hc⟩:=h (by simp)
 refine ⟨ad,rfl,hb,hc _ _ (by simp),fun j y hy=>hc j y ?_⟩
 rw [List.getElem?_append_left (List.getElem?_eq_some_iff.1 hy).1]
 exact hy
theorem last_dots (A:Option Addr) (c B:Nat) (d:Bool) (ys:List Bs) (x:Bs) (w:World) (hl:ys.length≤65536) (hB:B≤w.heap.size) (hx:Strs w B A (ys++[x])) (hd:dotB x=true) :
  Calls Tryz.prog 238 #[Pv A (ys.length+1) c d] w (LastNo w):=by
 obtain ⟨ad,rfl,hb,hcell,-⟩:=last_get hx
 have ma:∀o1 o2,((w.alloc o1).alloc o2).cell? (ad.add ys.length)=some (Sv x):=fun o1 o2=>by
  rw [World.cell?_alloc_lt _ _ _ (by rw [addr_block];simp;omega),World.cell?_alloc_lt _ _ _ (by rw [addr_block];omega)];exact hcell
 clear hcell hx
 generalize ys.length=n at *
 go_enter Tryz.func238,Tryz.ntmps238
 go_wp2_with (go_at_call 251;refine (dots_any _ _).mono ?_;rintro e w' ⟨rfl,rfl⟩)
 exact bodyPost_ret (v:=.tuple #[Pv none 0 0 false,Sv [],.int .i64 16]) (by simp [results,Tryz.results238,go_sem]) rfl ⟨rfl,((Below.refl _ _).alloc (Nat.le_refl _) _).alloc (by simp) _⟩
theorem last_yes (A:Option Addr) (c B:Nat) (d:Bool) (ys:List Bs) (x:Bs) (w:World) (hl:ys.length≤65536) (hc:ys.length+1≤c) (hB:B≤w.heap.size) (hx:Strs w B A (ys++[x])) (hd:dotB x=false) :
  Calls Tryz.prog 238 #[Pv A (ys.length+1) c d] w (LastYes w ys x):=by
 obtain ⟨i0,hi,hz0,hz1,hz2⟩:=info_parts info9
 obtain ⟨ad,rfl,hb,hcell,hcs⟩:=last_get hx
 have hk:∀o1 o2 p,p.block<B→((w.alloc o1).alloc o2).cell? p=w.cell? p:=fun o1 o2 p hp=>by
  rw [World.cell?_alloc_lt _ _ _ (by simp;omega),World.cell?_alloc_lt _ _ _ (by omega)]
 have qa:∀o1 o2,((w.alloc o1).alloc o2).cell? (ad.add ys.length)=some (Sv x):=fun o1 o2=>(hk _ _ _ (by rw [addr_block];exact hb)).trans hcell
 have HC:=Qa (show ∀o1 o2 (j:Nat) u,(ys.map Sv)[j]?=some u→((w.alloc o1).alloc o2).cell? (ad.add j)=some u by
  intro o1 o2 j u hu
  rw [List.getElem?_map,Option.map_eq_some_iff] at hu
  obtain ⟨y,hy,rfl⟩:=hu
  exact (hk _ _ _ (by rw [addr_block];exact hb)).trans (hcs j y hy))
 clear hcell hx hcs hk
 obtain ⟨n,hn⟩:∃n,n=ys.length:=⟨_,rfl⟩
 have HN:=Qa hn
 rw [←hn] at qa hl hc ⊢
 clear hn
 go_enter Tryz.func238,Tryz.ntmps238
 go_wp2_with (first
  | (go_at_call 251;refine (dots_any _ _).mono ?_;rintro e w' ⟨rfl,rfl⟩)
  | (at_builtin;go_must (refine wpList_append_own _ rfl _ (.tmp 25) 43 rfl (w.heap.size+2) 9 i0 _ 1 16 Tryz.underlying43 hi hz0 hz1 hz2 rfl (by decide) (.slice none 0 0) 0 [] rfl (World.ownsRow_nil _ _ _ _) ad n c (ys.map Sv) rfl (by rw [List.length_map,←HN.out];omega) (HC.out _ _) (by intro u hu;simp at hu;obtain ⟨_,_,rfl⟩:=hu;rfl) (by unfold maxLen;omega) (by omega) (by simp) ?_);intro v1 w2 hown1 hgrow1 _))
 have ma:Below (w.heap.size+2) ((w.alloc (.cells #[.slice (some ad) (n+1) c,.bool d] 292)).alloc (.cells #[.slice none 0 0,.bool false] 292)) w2 :=
  (Below.refl _ _).grown hgrow1 (by simp) (fun k hk=>by simp [Value.ownBlock] at hk)
 have xa:Below w.heap.size w w2:=(((Below.refl _ _).alloc (Nat.le_refl _) _).alloc (by simp) _).trans (ma.mono (by omega))
 have sz:w.heap.size+2≤w2.heap.size:=by have:=ma.size;simpa using this
 have q0:w2.cell? ⟨w.heap.size,0,none⟩=some (.slice (some ad) (n+1) c):=by rw [ma.cell (p:=⟨w.heap.size,0,none⟩) (by simp)];simp [World.cell?_alloc_past]
 have r0:w2.cell? ⟨w.heap.size+1,0,none⟩=some (.slice none 0 0):=by rw [ma.cell (p:=⟨w.heap.size+1,0,none⟩) (by simp)];simp
 have r1:w2.cell? ⟨w.heap.size+1,1,none⟩=some (.bool false):=by rw [ma.cell (p:=⟨w.heap.size+1,1,none⟩) (by simp)];simp
 have f0:w2.frozen? ⟨w.heap.size+1,0,none⟩=false:=by rw [ma.frozen (p:=⟨w.heap.size+1,0,none⟩) (by simp)];simp
 have f1:w2.frozen? ⟨w.heap.size+1,1,none⟩=false:=by rw [ma.frozen (p:=⟨w.heap.size+1,1,none⟩) (by simp)];simp
 have ya:w2.cell? (ad.add n)=some (Sv x):=by rw [ma.cell (p:=ad.add n) (by rw [addr_block];omega)];exact qa _ _
 rw [List.nil_append] at hown1
 obtain ⟨A1,c1,rfl,hown,-⟩:=own_form hown1
 clear qa ma hgrow1 hown1
 have da:∀u1 u2,((w2.setCell ⟨w.heap.size+1,0,none⟩ u1).setCell ⟨w.heap.size+1,1,none⟩ u2).cell? (ad.add n)=some (Sv x):=fun u1 u2=>by
  have ja:∀i,ad.add n≠⟨w.heap.size+1,i,none⟩:=fun i e=>by
   have:=congrArg Addr.block e
   rw [addr_block] at this
   simp at this
   omega
  rw [World.cell?_setCell_other _ _ _ _ (fun e=>ja _ e.symm),World.cell?_setCell_other _ _ _ _ (fun e=>ja _ e.symm)]
  exact ya
 go_region
 all_goals go_wp2
 refine bodyPost_ret (v:=.tuple #[Pv A1 ys.length c1 true,Sv x,.int .i64 0]) (by simp [results,Tryz.results238,go_sem,r0,r1]) rfl ⟨A1,c1,rfl,?_,?_⟩
 ·exact ((hown.set (by simp) _).set (by simp) _).base (by omega)
 ·exact ((xa.setCell (by simp) _).setCell (by simp) _).drew
def lastNo (xs:List Bs):Bool:=match xs.getLast? with|some x=>dotB x|none=>true
theorem last_any (A:Option Addr) (n c B:Nat) (d:Bool) (xs:List Bs) (w:World) (hn:n=xs.length) (hl:n≤65536) (hc:n≤c) (hB:B≤w.heap.size) (hx:Strs w B A xs) :
  (lastNo xs=true∧Calls Tryz.prog 238 #[Pv A n c d] w (LastNo w))∨∃ys x,xs=ys++[x]∧dotB x=false∧Calls Tryz.prog 238 #[Pv A n c d] w (LastYes w ys x):=by
 subst hn
 rcases List.eq_nil_or_concat xs with rfl|⟨ys,x,rfl⟩
 ·exact .inl ⟨rfl,last_none A c d w⟩
 ·rw [List.concat_eq_append] at hx hl hc ⊢
  rw [List.length_append,List.length_singleton] at hl hc ⊢
  cases hd:dotB x
  ·exact .inr ⟨ys,x,rfl,hd,last_yes A c B d ys x w (by omega) hc hB hx hd⟩
  ·exact .inl ⟨by simp [lastNo,hd],last_dots A c B d ys x w (by omega) hB hx hd⟩
def ParseE (w:World) (L:Bs) (e:Ending) (w':World):Prop :=
 ∃A c,e=.returned (.tuple #[.agg #[.slice A (pnames L).length c,.bool (pdirE L)],.int .i64 (perr L)])∧Own w' w.heap.size A c (pnames L)∧Below w.heap.size w w'
theorem parseE_no {w w':World} {L:Bs} {n:Int} (h:perr L=n) (hn:n≠0) (hb:Below w.heap.size w w') :
  ParseE w L (.returned (.tuple #[.agg #[.slice none 0 0,.bool false],.int .i64 n])) w':=by
 subst h
 refine ⟨none,0,?_,?_,hb⟩
 ·rw [pnames_no hn,pdirE_no hn];rfl
 ·rw [pnames_no hn]
  exact World.ownsRow_nil _ _ _ _
theorem parse_empty (w:World):Calls Tryz.prog 236 #[.string ⟨#[]⟩] w (ParseE w []):=by
 go_enter Tryz.func236,Tryz.ntmps236
 go_wp2
 exact bodyPost_ret (v:=.tuple #[.agg #[.slice none 0 0,.bool false],.int .i64 2]) (by simp [results,Tryz.results236,go_sem]) rfl (parseE_no (by decide) (by decide) ((Below.refl _ _).alloc (Nat.le_refl _) _))
theorem parse_long (s:ByteArray) (w:World) (hs:400<s.size):Calls Tryz.prog 236 #[.string s] w (ParseE w s.data.toList):=by
 have ma:s.toList.isEmpty=false:=by
  rw [Lib.toList_data]
  cases h:s.data.toList with
  | nil=>rw [Lib.size_eq,h] at hs;simp at hs
  | cons _ _=>rfl
 have HP:=Qa (show perr s.data.toList=36 by
  unfold perr
  rw [Lib.size_eq] at hs
  rw [Ja (by intro h;rw [h] at hs;simp at hs),Jb hs])
 go_enter Tryz.func236,Tryz.ntmps236
 go_wp2
 exact bodyPost_ret (v:=.tuple #[.agg #[.slice none 0 0,.bool false],.int .i64 36]) (by simp [results,Tryz.results236,go_sem]) rfl (parseE_no HP.out (by decide) ((Below.refl _ _).alloc (Nat.le_refl _) _))
theorem index_no (l:Bs) (c:UInt8) (h:c∉l):Lib.indexByte l c=-1:=by
 induction l with
 | nil=>rfl
 | cons b l ih =>
  rw [List.mem_cons,not_or] at h
  have hb:(b == c)=false:=by rw [beq_eq_false_iff_ne];exact fun e=>h.1 e.symm
  simp [Lib.indexByte,hb,ih h.2]
theorem index_yes (l:Bs) (c:UInt8) (h:c∈l):0≤Lib.indexByte l c:=by
 induction l with
 | nil=>simp at h
 | cons b l ih =>
  by_cases hb:b=c
  ·simp [Lib.indexByte,hb]
  ·have ma:(b == c)=false:=by rw [beq_eq_false_iff_ne];exact hb
   have:=ih (by rcases List.mem_cons.1 h with h|h;exact absurd h.symm hb;exact h)
   have h2:¬(Lib.indexByte l c=-1):=by omega
   simp [Lib.indexByte,ma,h2]
   omega
theorem nul_no (s:ByteArray) (w:World) (h:(0:UInt8)∉s.data.toList):Calls Tryz.prog 244 #[.string s,.int .u8 0] w fun e w'=>e=.returned (.int .i64 (-1))∧w=w' :=
 (Tryz.strings_IndexByte s 0 w).mono fun e w' ⟨he,hw⟩=>⟨by rw [he,show (Int.toNat 0).toUInt8=0 from rfl,index_no _ _ h],hw.symm⟩
def NulYes (w:World) (e:Ending) (w':World):Prop:=∃n:Int,0≤n∧e=.returned (.int .i64 n)∧w=w'
theorem nul_yes (s:ByteArray) (w:World) (h:(0:UInt8)∈s.data.toList):Calls Tryz.prog 244 #[.string s,.int .u8 0] w (NulYes w) :=
 (Tryz.strings_IndexByte s 0 w).mono fun e w' ⟨he,hw⟩=>⟨_,index_yes _ _ h,by rw [he];rfl,hw.symm⟩
theorem notEmpty {s:ByteArray} (h:s.data.toList≠[]):s.toList.isEmpty=false:=by
 rw [Lib.toList_data]
 cases h':s.data.toList with
 | nil=>exact absurd h' h
 | cons _ _=>rfl
theorem parse_nul (s:ByteArray) (w:World) (h0:s.data.toList≠[]) (hs:s.size≤400) (h:(0:UInt8)∈s.data.toList):Calls Tryz.prog 236 #[.string s] w (ParseE w s.data.toList):=by
 have ma:=notEmpty h0
 have HP:=Qa (show perr s.data.toList=22 by
  unfold perr
  rw [Lib.size_eq] at hs
  rw [Ja h0,Ja (by omega),Jb h])
 have HN:=fun w=>nul_yes s w h
 clear h h0
 go_enter Tryz.func236,Tryz.ntmps236
 go_wp2_with (go_at_call 244;refine (HN _).mono ?_;rintro e w' ⟨n,hn,rfl,rfl⟩)
 exact bodyPost_ret (v:=.tuple #[.agg #[.slice none 0 0,.bool false],.int .i64 22]) (by simp [results,Tryz.results236,go_sem]) rfl (parseE_no HP.out (by decide) ((Below.refl _ _).alloc (Nat.le_refl _) _))
theorem gath_take (xs:List Bs) (k:Nat) (x:Bs) (h:xs[k]?=some x):gath (xs.take (k+1))=gath (xs.take k)++if x=[46] then [] else [x]:=by
 obtain ⟨hk,rfl⟩:=List.getElem?_eq_some_iff.1 h
 rw [List.take_succ_eq_append_getElem hk,gath_snoc]
theorem parse_main (s:ByteArray) (w:World) (h0:s.data.toList≠[]) (hs:s.size≤400) (h:(0:UInt8)∉s.data.toList):Calls Tryz.prog 236 #[.string s] w (ParseE w s.data.toList):=by
 obtain ⟨i0,hi,hz0,hz1,hz2⟩:=info_parts info9
 have da:=notEmpty h0
 have HN:=fun w=>nul_no s w h
 have ma:(comps s.data.toList).length≤400:=by have:=comps_count s.data.toList;rw [←Lib.size_eq] at this;omega
 have HE:=fun A n c B w hn hS=>ends_any s A n c (comps s.data.toList) B w hn hs ma hS
 have HC:=components_any s (w.alloc (.cells #[.slice none 0 0,.bool false] 292)) hs
 have H0:=Qa (And.intro h0 h)
 clear h h0
 generalize hx:comps s.data.toList=xs at *
 have HX:=Qa hx
 clear hx
 go_enter Tryz.func236,Tryz.ntmps236
 go_wp2_with (first
  | (go_at_call 244;refine (HN _).mono ?_;rintro e w' ⟨rfl,rfl⟩)
  | (go_at_call 248;refine HC.mono ?_;rintro e w1 ⟨A,c,rfl,hown,hb⟩))
 have ja:Strs w1 w1.heap.size A xs:=hown.strs
 have sz1:w.heap.size+1≤w1.heap.size:=by have:=hb.size;simpa using this
 have qa:Below w.heap.size w w1:=((Below.refl _ _).alloc (Nat.le_refl _) _).trans (hb.mono (by simp))
 have r0:w1.cell? ⟨w.heap.size,0,none⟩=some (.slice none 0 0):=by rw [hb.cell (p:=⟨w.heap.size,0,none⟩) (by simp)];simp
 have r1:w1.cell? ⟨w.heap.size,1,none⟩=some (.bool false):=by rw [hb.cell (p:=⟨w.heap.size,1,none⟩) (by simp)];simp
 have f0:w1.frozen? ⟨w.heap.size,0,none⟩=false:=by rw [hb.frozen (p:=⟨w.heap.size,0,none⟩) (by simp)];simp
 have f1:w1.frozen? ⟨w.heap.size,1,none⟩=false:=by rw [hb.frozen (p:=⟨w.heap.size,1,none⟩) (by simp)];simp
 clear hb
 go_loopg [5,26] xs.length (fun g v i wr=>∃k:Nat,k≤xs.length∧g+k=xs.length∧i=.int .i64 k∧Hid (∀x∈xs.take k,x.length≤60) ∧
  wr.ownsRow w1.heap.size 9 1 v (gath (xs.take k)).length ((gath (xs.take k)).map Sv)∧Below w1.heap.size w1 wr)
 case atStart=>exact ⟨0,by omega,by omega,rfl,(by show ∀_,_;simp),World.ownsRow_nil _ _ _ _,Below.refl _ _⟩
 case round =>
  obtain ⟨k,hk,hg,rfl,HA,hrow,hbr⟩:=hrel
  have szr:w.heap.size+1≤wr.heap.size:=by have:=hbr.size;omega
  have R0:wr.cell? ⟨w.heap.size,0,none⟩=some (.slice none 0 0):=(hbr.cell (p:=⟨w.heap.size,0,none⟩) (by simp;omega)).trans r0
  have R1:wr.cell? ⟨w.heap.size,1,none⟩=some (.bool false):=(hbr.cell (p:=⟨w.heap.size,1,none⟩) (by simp;omega)).trans r1
  have F0:wr.frozen? ⟨w.heap.size,0,none⟩=false:=(hbr.frozen (p:=⟨w.heap.size,0,none⟩) (by simp;omega)).trans f0
  have F1:wr.frozen? ⟨w.heap.size,1,none⟩=false:=(hbr.frozen (p:=⟨w.heap.size,1,none⟩) (by simp;omega)).trans f1
  by_cases hlt:k<xs.length
  ·obtain ⟨ad,x,rfl,hab,hx,hcell⟩:=ja.get hlt
   have ga:wr.cell? (ad.add k)=some (Sv x):=(hbr.cell (p:=ad.add k) (by rw [addr_block];exact hab)).trans hcell
   have HG:=Qa (gath_take xs k x hx)
   have xa:(gath (xs.take k)).length≤k:=by have:=gath_le (xs.take k);rw [List.length_take] at this;omega
   have HM:=Qa (List.mem_of_getElem? hx)
   have HT:=Qa (show xs.take (k+1)=xs.take k++[x] by
    obtain ⟨ya,rfl⟩:=List.getElem?_eq_some_iff.1 hx
    exact List.take_succ_eq_append_getElem ya)
   clear hcell hx
   by_cases h60:60<x.length
   ·have HP:=Qa (show perr s.data.toList=36 by
     unfold perr
     rw [Ja H0.out.1,Ja (by rw [←Lib.size_eq];omega),Ja H0.out.2,Jb ⟨x,by rw [HX.out];exact HM.out,h60⟩])
    go_wp2
    exact bodyPost_ret (v:=.tuple #[.agg #[.slice none 0 0,.bool false],.int .i64 36]) (by simp [results,Tryz.results236,go_sem, *]) rfl (parseE_no HP.out (by decide) (((qa.trans (hbr.mono (by omega))).setCell (Nat.le_refl _) _).setCell (Nat.le_refl _) _))
   ·have Qc:Hid (∀x∈xs.take (k+1),x.length≤60):=by
     show ∀_,_
     rw [HT.out]
     intro y hy
     rcases List.mem_append.1 hy with hy|hy
     ·exact HA.out y hy
     ·simp at hy;subst hy;omega
    by_cases hd:x=[46]
    ·subst hd
     go_wp2
     go_roundg (gk - 1)
     case measure=>omega
     case rel=>exact ⟨k+1,by omega,by omega,by go_num,Qc,by rw [HG.out];simpa using hrow,hbr⟩
    ·have sa:(!x == [46])=true:=by simp [hd]
     have Qd:=Qa (show gath (xs.take (k+1))=gath (xs.take k)++[x] by rw [HG.out,Ja hd])
     clear hd
     go_wp2_with (at_builtin;go_must (refine wpList_append_own _ rfl (.tmp 36) (.tmp 38) 43 rfl w1.heap.size 9 i0 _ 1 16 Tryz.underlying43 hi hz0 hz1 hz2 rfl (by decide) u5 (gath (xs.take k)).length ((gath (xs.take k)).map Sv) rfl (hrow.alloc _) ⟨wr.heap.size,0,none⟩ 1 1 [Sv x] rfl rfl (cell_one_new _ _ _) (by intro u hu;simp at hu;subst hu;rfl) (by unfold maxLen;omega) (by omega) (by have:=hbr.size;simp;omega) ?_);intro v1 w2 hown1 hgrow1 _)
     go_roundg (gk - 1)
     case measure=>omega
     case rel =>
      refine ⟨k+1,by omega,by omega,by go_num,Qc,?_,?_⟩
      ·rw [Qd.out];simpa using hown1
      ·exact (hbr.alloc hbr.size _).grown hgrow1 (by have:=hbr.size;simp;omega) (fun g hg'=>(hrow.lt g hg').1)
  ·have HK:=Qa (show xs.take k=xs by rw [List.take_of_length_le (by omega)])
   have la:¬((k:Int)<(xs.length:Int)):=by omega
   have xa:(gath (xs.take k)).length≤k:=by have:=gath_le (xs.take k);rw [List.length_take] at this;omega
   clear hlt
   have Qb:=Qa (show nms s.data.toList=gath (xs.take k) by rw [←gath_comps,HX.out,HK.out])
   obtain ⟨A2,c2,rfl,hown2,hn2⟩:=own_form hrow
   clear hn2
   by_cases h40:40<(gath (xs.take k)).length
   ·have HP:=Qa (show perr s.data.toList=36 by
     unfold perr
     rw [Ja H0.out.1,Ja (by rw [←Lib.size_eq];omega),Ja H0.out.2,Ja (by
      rintro ⟨x,hx,hl⟩
      have:=HA.out x (by rw [HK.out,←HX.out];exact hx)
      omega),Jb (by rw [Qb.out];exact h40)])
    go_wp2
    exact bodyPost_ret (v:=.tuple #[.agg #[.slice none 0 0,.bool false],.int .i64 36]) (by simp [results,Tryz.results236,go_sem, *]) rfl (parseE_no HP.out (by decide) (((qa.trans (hbr.mono (by omega))).setCell (Nat.le_refl _) _).setCell (Nat.le_refl _) _))
   ·have HP:=Qa (show perr s.data.toList=0 by
     rw [perr_zero]
     exact ⟨H0.out.1,by rw [←Lib.size_eq];omega,H0.out.2,fun x hx=>HA.out x (by rw [HK.out,←HX.out];exact hx),by rw [Qb.out];omega⟩)
    go_wp2_with (go_at_call 249;refine (HE _ _ _ _ _ rfl (ja.below hbr)).mono ?_;rintro e w' ⟨rfl,rfl⟩)
    refine bodyPost_ret (v:=.tuple #[.agg #[.slice A2 (gath (xs.take k)).length c2,.bool (endB s.data.toList xs)],.int .i64 0]) (by simp [results,Tryz.results236,go_sem, *]) rfl ?_
    have e1:pnames s.data.toList=gath (xs.take k):=by rw [pnames_ok HP.out,Qb.out]
    have e2:pdirE s.data.toList=endB s.data.toList xs:=by rw [pdirE_ok HP.out,pdir,HX.out];rfl
    refine ⟨A2,c2,?_,?_,?_⟩
    ·rw [e1,e2,HP.out]
    ·rw [e1]
     exact ((hown2.set (by simp;omega) _).set (by simp;omega) _).base (by omega)
    ·exact ((qa.trans (hbr.mono (by omega))).setCell (Nat.le_refl _) _).setCell (Nat.le_refl _) _
theorem parse_any (s:ByteArray) (w:World):Calls Tryz.prog 236 #[.string s] w (ParseE w s.data.toList):=by
 by_cases h0:s.data.toList=[]
 ·have e:s=⟨#[]⟩:=by rw [←Lib.mk_data s,h0]
  subst e
  exact parse_empty w
 ·by_cases hs:400<s.size
  ·exact parse_long s w hs
  ·by_cases h:(0:UInt8)∈s.data.toList
   ·exact parse_nul s w h0 (by omega) h
   ·exact parse_main s w h0 (by omega) h
def nerr (L:Bs):Int:=if L=[] then 2 else if 60<L.length then 36 else if (0:UInt8)∈L∨(47:UInt8)∈L then 22 else 0
def NameE (w:World) (L:Bs) (e:Ending) (w':World):Prop:=e=.returned (.int .i64 (nerr L))∧Below w.heap.size w w'
theorem below_alloc (w:World) (o:Obj):Below w.heap.size w (w.alloc o):=(Below.refl _ _).alloc (Nat.le_refl _) _
theorem rhas_any (s:ByteArray) (c:UInt8) (b:Bool) (w:World) (hm:s.size≤9223372036854775807) (hb:decide (c∈s.data.toList)=b):Calls Tryz.prog 212 #[.string s,.int .u8 (c.toNat:Int)] w fun e w'=>e=.returned (.bool b)∧w=w':=by
 have HB:=Qa hb
 clear hb
 go_enter Tryz.func212,Tryz.ntmps212
 go_wp2_with fail
 go_loopg [5] s.size (fun g i wr=>∃j:Nat,j≤s.size∧g+j=s.size∧i=.int .i64 j∧Hid (∀x∈s.data.toList.take j,x≠c)∧w=wr)
 case atStart=>exact ⟨0,by omega,by omega,rfl,(by show ∀_,_;simp),rfl⟩
 case round =>
  obtain ⟨j,hj,hg,rfl,HN,rfl⟩:=hrel
  by_cases hjl:j<s.size
  ·have qa:j<s.data.toList.length:=by rw [←Lib.size_eq];exact hjl
   by_cases h:s[j]=c
   ·have hT:(((s[j]).toNat:Int) == (c.toNat:Int))=true:=by rw [h];simp
    have ma:b=true:=by
     rw [←HB.out]
     exact decide_eq_true (by rw [←h,getD_data s j hjl];exact List.getElem_mem _)
    subst ma
    clear h
    go_wp2_with fail
    try rw [Exit.noGoto_ret]
    go_ret
    exact ⟨rfl,rfl⟩
   ·have hT:(((s[j]).toNat:Int) == (c.toNat:Int))=false:=by
     rw [beq_eq_false_iff_ne]
     intro e
     exact h (UInt8.toNat_inj.1 (by omega))
    have Qb:Hid (∀x∈s.data.toList.take (j+1),x≠c):=by
     show ∀_,_
     rw [List.take_succ_eq_append_getElem qa]
     intro x hx
     rw [List.mem_append,List.mem_singleton] at hx
     rcases hx with hx|rfl
     ·exact HN.out x hx
     ·rw [←getD_data s j hjl];exact h
    clear h
    go_wp2_with fail
    go_roundg (gk - 1)
    case measure=>omega
    case rel=>exact ⟨j+1,by omega,by omega,by go_num,Qb,rfl⟩
  ·have ma:b=false:=by
    rw [←HB.out]
    refine decide_eq_false (fun hc=>?_)
    have:=HN.out c (by rw [List.take_of_length_le (by rw [←Lib.size_eq];omega)];exact hc)
    exact this rfl
   subst ma
   have ja:¬((j:Int)<(s.size:Int)):=by omega
   clear hjl
   go_wp2_with fail
   go_ret
   exact ⟨rfl,rfl⟩
theorem rhas0 (s:ByteArray) (b:Bool) (w:World) (hm:s.size≤9223372036854775807) (hb:decide ((0:UInt8)∈s.data.toList)=b):Calls Tryz.prog 212 #[.string s,.int .u8 0] w fun e w'=>e=.returned (.bool b)∧w=w':=rhas_any s 0 b w hm hb
theorem rhas47 (s:ByteArray) (b:Bool) (w:World) (hm:s.size≤9223372036854775807) (hb:decide ((47:UInt8)∈s.data.toList)=b):Calls Tryz.prog 212 #[.string s,.int .u8 47] w fun e w'=>e=.returned (.bool b)∧w=w':=rhas_any s 47 b w hm hb
theorem rname_any (s:ByteArray) (w:World) (hm:s.size≤9223372036854775807):Calls Tryz.prog 162 #[.string s] w (NameE w s.data.toList):=by
 by_cases h0:s.size=0
 ·have HR:=Qa (show nerr s.data.toList=2 by unfold nerr;rw [Jb (List.eq_nil_of_length_eq_zero (by rw [←Lib.size_eq];exact h0))])
  go_enter Tryz.func162,Tryz.ntmps162
  go_wp2_with fail
  go_ret
  exact ⟨by rw [HR.out];rfl,Below.refl _ _⟩
 ·have ma:s.data.toList≠[]:=fun e=>h0 (by rw [Lib.size_eq,e];rfl)
  by_cases h60:60<s.size
  ·have HR:=Qa (show nerr s.data.toList=36 by unfold nerr;rw [Ja ma,Jb (by rw [←Lib.size_eq];exact h60)])
   clear ma
   go_enter Tryz.func162,Tryz.ntmps162
   go_wp2_with fail
   go_ret
   exact ⟨by rw [HR.out];rfl,Below.refl _ _⟩
  ·have HF:=Qa (show nerr s.data.toList=if (decide ((0:UInt8)∈s.data.toList) || decide ((47:UInt8)∈s.data.toList))=true then 22 else 0 by
    unfold nerr;rw [Ja ma,Ja (by rw [←Lib.size_eq];exact h60)];simp)
   clear ma
   have hA:=fun w=>rhas0 s _ w hm rfl
   have hB:=fun w=>rhas47 s _ w hm rfl
   generalize decide ((0:UInt8)∈s.data.toList)=b0 at *
   generalize decide ((47:UInt8)∈s.data.toList)=b47 at *
   unfold NameE
   cases b0
   ·cases b47
    ·go_enter Tryz.func162,Tryz.ntmps162
     go_wp2_with fail
     refine (hA _).mono ?_
     rintro e w' ⟨rfl,rfl⟩
     go_wp2_with fail
     refine (hB _).mono ?_
     rintro e w' ⟨rfl,rfl⟩
     go_wp2_with fail
     go_ret
     exact ⟨by rw [HF.out];rfl,Below.refl _ _⟩
    ·go_enter Tryz.func162,Tryz.ntmps162
     go_wp2_with fail
     refine (hA _).mono ?_
     rintro e w' ⟨rfl,rfl⟩
     go_wp2_with fail
     refine (hB _).mono ?_
     rintro e w' ⟨rfl,rfl⟩
     go_wp2_with fail
     go_ret
     exact ⟨by rw [HF.out];rfl,Below.refl _ _⟩
   ·go_enter Tryz.func162,Tryz.ntmps162
    go_wp2_with fail
    refine (hA _).mono ?_
    rintro e w' ⟨rfl,rfl⟩
    go_wp2_with fail
    go_ret
    exact ⟨by rw [HF.out];rfl,Below.refl _ _⟩
theorem strs_lit (w:World) (B:Nat) (hB:B≤w.heap.size):(w.alloc (.cells #[] 9)).ownsRow B 9 1 (.slice (some ⟨w.heap.size,0,none⟩) 0 0) 0 [] :=
 World.ownsRow_lit w #[] 0 hB (by unfold maxLen;omega) (by simp)
theorem parts_any (s:ByteArray) (w:World) (hs:s.size≤400) :
    Calls Tryz.prog 229 #[.string s] w (OwnE w (comps s.data.toList)):=by
  obtain ⟨i0,hi,hz0,hz1,hz2⟩:=info_parts info9
  have HL:=Qa (Lib.size_eq s)
  go_enter Tryz.func229,Tryz.ntmps229
  go_wp2_with fail
  go_loopg [3,4,5] (s.size+1) (fun g v f i wr=>∃(k j:Nat) (pre:List Bs),k≤j∧j≤s.size+1∧g+j=s.size+1∧f=.int .i64 k∧i=.int .i64 j∧(j=s.size+1→k=s.size+1)∧pre.length≤k ∧
      Hid (comps s.data.toList=pre++comps (s.data.toList.drop k))∧Hid (∀c∈(s.data.toList.drop k).take (j - k),c≠47) ∧
      wr.ownsRow w.heap.size 9 1 v pre.length (pre.map Sv)∧Below w.heap.size w wr)
  case atStart=>exact ⟨0,0,[],by omega,by omega,by omega,rfl,rfl,by omega,by simp,(by show _=_;simp),(by show ∀_,_;simp),strs_lit w _ (Nat.le_refl _),below_alloc w _⟩
  case round =>
    obtain ⟨k,j,pre,hkj,hj,hg,rfl,rfl,hend,hp,HC,HN,hown,hb⟩:=hrel
    by_cases hjl:j<s.size
    · have qa:j<s.data.toList.length:=by rw [←Lib.size_eq];exact hjl
      clear hend
      by_cases h47:s[j]=47
      · have hT:(((s[j]).toNat:Int) == 47)=true:=by rw [h47];rfl
        have HS:=Qa (comps_step s.data.toList k j hkj qa HN.out (by rw [←getD_data s j hjl];exact h47))
        clear h47
        by_cases hjk:k<j
        · go_wp2_with (at_builtin;go_must (refine wpList_append_own _ rfl (.tmp 26) (.tmp 31) 43 rfl w.heap.size 9 i0 _ 1 16 Tryz.underlying43 hi hz0 hz1 hz2 rfl (by decide) u3 pre.length (pre.map Sv) rfl (hown.alloc _) ⟨wr.heap.size,0,none⟩ 1 1 [.string (s.extract k j)] rfl rfl (cell_one_new _ _ _) (by intro u hu;simp at hu;subst hu;rfl) (by unfold maxLen;omega) (by omega) (by have:=hb.size;simp;omega) ?_);intro v1 w1 hown1 hgrow1 _)
          go_roundg (gk - 1)
          case measure=>omega
          case rel =>
            have Qb:=HS.out
            rw [one_ne _ (by intro h;have:=congrArg List.length h;simp at this;omega)] at Qb
            refine ⟨j+1,j+1,pre++[(s.data.toList.drop k).take (j - k)],by omega,by omega,by omega,by go_num,by go_num,by omega,by simp;omega,?_,?_,?_,?_⟩
            · show _=_
              rw [HC.out,Qb,List.append_assoc]
            · show ∀_,_
              simp
            · rw [ex_list] at hown1
              simpa using hown1
            · exact (hb.alloc hb.size _).grown hgrow1 (by have:=hb.size;simp;omega) (fun g hg'=>(hown.lt g hg').1)
        · have ma:j=k:=by omega
          subst ma
          go_wp2_with fail
          go_roundg (gk - 1)
          case measure=>omega
          case rel =>
            have Qb:=HS.out
            rw [Nat.sub_self,List.take_zero,one_nil,List.nil_append] at Qb
            exact ⟨j+1,j+1,pre,by omega,by omega,by omega,by go_num,by go_num,by omega,by omega,(by show _=_;rw [HC.out,Qb]),(by show ∀_,_;simp),hown,hb⟩
      · have hT:(((s[j]).toNat:Int) == 47)=false:=by
          rw [beq_eq_false_iff_ne]
          intro h
          exact h47 (UInt8.toNat_inj.1 (by have:s[j].toNat=47:=(by omega);simpa using this))
        have Qc:Hid (∀c∈(s.data.toList.drop k).take (j+1 - k),c≠47):=by
          show ∀_,_
          rw [drop_take_snoc _ _ _ hkj qa]
          intro c hc
          rw [List.mem_append,List.mem_singleton] at hc
          rcases hc with hc|rfl
          · exact HN.out c hc
          · rw [←getD_data s j hjl];exact h47
        clear h47
        go_wp2_with fail
        go_roundg (gk - 1)
        case measure=>omega
        case rel=>exact ⟨k,j+1,pre,by omega,by omega,by omega,rfl,by go_num,by omega,hp,HC,Qc,hown,hb⟩
    · by_cases ma:j=s.size
      · subst ma
        clear hend
        by_cases hjk:k<s.size
        · have HS:=Qa (comps_last s.data.toList k (by rw [←Lib.size_eq];exact hjk) (by rw [←Lib.size_eq];exact HN.out))
          go_wp2_with (at_builtin;go_must (refine wpList_append_own _ rfl (.tmp 26) (.tmp 31) 43 rfl w.heap.size 9 i0 _ 1 16 Tryz.underlying43 hi hz0 hz1 hz2 rfl (by decide) u3 pre.length (pre.map Sv) rfl (hown.alloc _) ⟨wr.heap.size,0,none⟩ 1 1 [.string (s.extract k s.size)] rfl rfl (cell_one_new _ _ _) (by intro u hu;simp at hu;subst hu;rfl) (by unfold maxLen;omega) (by omega) (by have:=hb.size;simp;omega) ?_);intro v1 w1 hown1 hgrow1 _)
          go_roundg (gk - 1)
          case measure=>omega
          case rel =>
            refine ⟨s.size+1,s.size+1,pre++[(s.data.toList.drop k).take (s.size - k)],by omega,by omega,by omega,by go_num,by go_num,by omega,by simp;omega,?_,?_,?_,?_⟩
            · show _=_
              have e1:s.data.toList.drop (s.size+1)=[]:=List.drop_eq_nil_of_le (by rw [←HL.out];omega)
              rw [e1,comps_nil,List.append_nil,HC.out,HS.out,←HL.out]
            · show ∀_,_
              simp
            · rw [ex_list] at hown1
              simpa using hown1
            · exact (hb.alloc hb.size _).grown hgrow1 (by have:=hb.size;simp;omega) (fun g hg'=>(hown.lt g hg').1)
        · have ja:k=s.size:=by omega
          subst ja
          go_wp2_with fail
          go_roundg (gk - 1)
          case measure=>omega
          case rel =>
            refine ⟨s.size+1,s.size+1,pre,by omega,by omega,by omega,by go_num,by go_num,by omega,by omega,?_,?_,hown,hb⟩
            · show _=_
              rw [HC.out,List.drop_eq_nil_of_le (by rw [←HL.out];omega),List.drop_eq_nil_of_le (by rw [←HL.out];omega)]
            · show ∀_,_
              simp
      · have xa:=hend (by omega)
        have HF:=Qa (show comps s.data.toList=pre by rw [HC.out,List.drop_eq_nil_of_le (by rw [←HL.out];omega),comps_nil,List.append_nil])
        have ya:¬((j:Int)≤(s.size:Int)):=by omega
        clear hend hjl ma xa
        go_wp2_with fail
        go_ret
        rw [HF.out]
        exact ownE_of hown hb
theorem suffix_last (l:Bs) (c:UInt8):Lib.hasSuffix l [c]=(l.getLast? == some c):=by
 unfold Lib.hasSuffix
 rw [Bool.eq_iff_iff,List.isSuffixOf_iff_suffix,beq_iff_eq]
 constructor
 ·rintro ⟨t,rfl⟩
  simp
 ·intro h
  obtain ⟨ys,rfl⟩:=List.getLast?_eq_some_iff.1 h
  exact ⟨ys,rfl⟩
theorem rparse_empty (s:ByteArray) (w:World) (h:s.size=0):Calls Tryz.prog 214 #[.string s] w (ParseE w s.data.toList):=by
 have HP:=Qa (show perr s.data.toList=2 by
  unfold perr
  rw [Jb (List.eq_nil_of_length_eq_zero (by rw [←Lib.size_eq];exact h))])
 go_enter Tryz.func214,Tryz.ntmps214
 go_wp2_with fail
 exact bodyPost_ret (v:=.tuple #[.agg #[.slice none 0 0,.bool false],.int .i64 2]) (by simp [results,Tryz.results214,go_sem]) rfl (parseE_no HP.out (by decide) ((below_alloc w _).alloc (by simp) _))
theorem rparse_long (s:ByteArray) (w:World) (hs:400<s.size):Calls Tryz.prog 214 #[.string s] w (ParseE w s.data.toList):=by
 have HP:=Qa (show perr s.data.toList=36 by
  unfold perr
  rw [Lib.size_eq] at hs
  rw [Ja (by intro h;rw [h] at hs;simp at hs),Jb hs])
 have h0:¬s.size=0:=by omega
 go_enter Tryz.func214,Tryz.ntmps214
 go_wp2_with fail
 exact bodyPost_ret (v:=.tuple #[.agg #[.slice none 0 0,.bool false],.int .i64 36]) (by simp [results,Tryz.results214,go_sem]) rfl (parseE_no HP.out (by decide) ((below_alloc w _).alloc (by simp) _))
theorem rparse_nul (s:ByteArray) (w:World) (h0:¬s.size=0) (hs:s.size≤400) (h:(0:UInt8)∈s.data.toList):Calls Tryz.prog 214 #[.string s] w (ParseE w s.data.toList):=by
 have HP:=Qa (show perr s.data.toList=22 by
  unfold perr
  rw [Ja (fun e=>h0 (by rw [Lib.size_eq,e];rfl)),Ja (by rw [←Lib.size_eq];omega),Jb h])
 have HN:=fun w=>rhas0 s true w (by omega) (decide_eq_true h)
 clear h
 go_enter Tryz.func214,Tryz.ntmps214
 go_wp2_with fail
 refine (HN _).mono ?_
 rintro e w' ⟨rfl,rfl⟩
 go_wp2_with fail
 exact bodyPost_ret (v:=.tuple #[.agg #[.slice none 0 0,.bool false],.int .i64 22]) (by simp [results,Tryz.results214,go_sem]) rfl (parseE_no HP.out (by decide) ((below_alloc w _).alloc (by simp) _))
theorem rparse_main (s:ByteArray) (w:World) (m:Nat) (h0:s.size=m+1) (hs:s.size≤400) (h:(0:UInt8)∉s.data.toList):Calls Tryz.prog 214 #[.string s] w (ParseE w s.data.toList):=by
  obtain ⟨i0,hi,hz0,hz1,hz2⟩:=info_parts info9
  have HN:=fun w=>rhas0 s false w (by omega) (decide_eq_false h)
  have xa:(comps s.data.toList).length≤400:=by have:=comps_count s.data.toList;rw [←Lib.size_eq] at this;omega
  have HC:=fun w=>parts_any s w hs
  have H0:=Qa (And.intro (show s.data.toList≠[] from fun e=>by rw [Lib.size_eq,e] at h0;simp at h0) h)
  clear h
  generalize hx:comps s.data.toList=xs at *
  have HX:=Qa hx
  clear hx
  go_enter Tryz.func214,Tryz.ntmps214
  go_wp2_with fail
  refine (HN _).mono ?_
  rintro e w' ⟨rfl,rfl⟩
  go_wp2_with fail
  refine (HC _).mono ?_
  rintro e w1 ⟨A,c,rfl,hown,hb⟩
  have da:m<s.size:=by omega
  have qa:Strs w1 w1.heap.size A xs:=hown.strs
  have sz1:w.heap.size+2≤w1.heap.size:=by have:=hb.size;simpa using this
  have ga:Below w.heap.size w w1:=(((Below.refl _ _).alloc (Nat.le_refl _) _).alloc (by simp) _).trans (hb.mono (by simp;omega))
  have r0:w1.cell? ⟨w.heap.size,0,none⟩=some (.slice none 0 0):=by rw [hb.cell (p:=⟨w.heap.size,0,none⟩) (by simp;omega)];simp [World.cell?_alloc_past]
  have r1:w1.cell? ⟨w.heap.size,1,none⟩=some (.bool false):=by rw [hb.cell (p:=⟨w.heap.size,1,none⟩) (by simp;omega)];simp [World.cell?_alloc_past]
  have f0:w1.frozen? ⟨w.heap.size,0,none⟩=false:=by rw [hb.frozen (p:=⟨w.heap.size,0,none⟩) (by simp;omega),(below_alloc (w.alloc _) _).frozen (p:=⟨w.heap.size,0,none⟩) (by simp)];simp
  have f1:w1.frozen? ⟨w.heap.size,1,none⟩=false:=by rw [hb.frozen (p:=⟨w.heap.size,1,none⟩) (by simp;omega),(below_alloc (w.alloc _) _).frozen (p:=⟨w.heap.size,1,none⟩) (by simp)];simp
  have n0:w1.cell? ⟨w.heap.size+1,0,none⟩=some (.slice none 0 0):=by rw [hb.cell (p:=⟨w.heap.size+1,0,none⟩) (by simp)];simp
  have n1:w1.cell? ⟨w.heap.size+1,1,none⟩=some (.bool false):=by rw [hb.cell (p:=⟨w.heap.size+1,1,none⟩) (by simp)];simp
  clear hb hown
  obtain ⟨en,hen⟩:∃en:Bool,(((s[m]).toNat:Int) == 47)=en:=⟨_,rfl⟩
  have HE:=Qa (show Lib.hasSuffix s.data.toList [47]=en by
    have hL:m<s.data.toList.length:=by rw [←Lib.size_eq];exact da
    have e1:s.data.toList.getLast?=some s[m]:=by
      rw [List.getLast?_eq_getElem?,show s.data.toList.length - 1=m from by rw [←Lib.size_eq];omega,List.getElem?_eq_getElem hL,getD_data s m da]
    rw [suffix_last,e1,←hen]
    by_cases h:s[m]=47
    · rw [h];rfl
    · rw [show (some s[m] == some (47:UInt8))=false by rw [beq_eq_false_iff_ne];simpa using h,eq_comm,beq_eq_false_iff_ne]
      intro h2
      exact h (UInt8.toNat_inj.1 (by have:s[m].toNat=47:=(by omega);simpa using this)))
  go_wp2_with fail
  clear hen
  go_loopg [7] xs.length (fun g i wr=>∃(k:Nat) (v:Value),k≤xs.length∧g+k=xs.length∧i=.int .i64 k∧Hid (∀x∈xs.take k,x.length≤60) ∧
    wr.cell? ⟨w1.heap.size,0,none⟩=some v∧wr.cell? ⟨w1.heap.size,1,none⟩=some (.bool en)∧wr.frozen? ⟨w1.heap.size,0,none⟩=false∧wr.frozen? ⟨w1.heap.size,1,none⟩=false ∧
    wr.ownsRow (w1.heap.size+1) 9 1 v (gath (xs.take k)).length ((gath (xs.take k)).map Sv)∧Below w1.heap.size w1 wr∧w1.heap.size+1≤wr.heap.size)
  case atStart=>exact ⟨0,.slice none 0 0,by omega,by omega,rfl,(by show ∀_,_;simp),by simp,by simp,by simp,by simp,World.ownsRow_nil _ _ _ _,below_alloc _ _,by simp⟩
  case round =>
    obtain ⟨k,v,hk,hg,rfl,HA,p0,p1,q0,q1,hrow,hbr,hsz⟩:=hrel
    have szr:w.heap.size+2≤wr.heap.size:=by omega
    have R0:wr.cell? ⟨w.heap.size,0,none⟩=some (.slice none 0 0):=(hbr.cell (p:=⟨w.heap.size,0,none⟩) (by simp;omega)).trans r0
    have R1:wr.cell? ⟨w.heap.size,1,none⟩=some (.bool false):=(hbr.cell (p:=⟨w.heap.size,1,none⟩) (by simp;omega)).trans r1
    have F0:wr.frozen? ⟨w.heap.size,0,none⟩=false:=(hbr.frozen (p:=⟨w.heap.size,0,none⟩) (by simp;omega)).trans f0
    have F1:wr.frozen? ⟨w.heap.size,1,none⟩=false:=(hbr.frozen (p:=⟨w.heap.size,1,none⟩) (by simp;omega)).trans f1
    have N0:wr.cell? ⟨w.heap.size+1,0,none⟩=some (.slice none 0 0):=(hbr.cell (p:=⟨w.heap.size+1,0,none⟩) (by simp;omega)).trans n0
    have N1:wr.cell? ⟨w.heap.size+1,1,none⟩=some (.bool false):=(hbr.cell (p:=⟨w.heap.size+1,1,none⟩) (by simp;omega)).trans n1
    by_cases hlt:k<xs.length
    · obtain ⟨ad,x,rfl,hab,hx,hcell⟩:=qa.get hlt
      have ba:wr.cell? (ad.add k)=some (Sv x):=(hbr.cell (p:=ad.add k) (by rw [addr_block];exact hab)).trans hcell
      have HG:=Qa (gath_take xs k x hx)
      have fa:(gath (xs.take k)).length≤k:=by have:=gath_le (xs.take k);rw [List.length_take] at this;omega
      have HM:=Qa (List.mem_of_getElem? hx)
      have HT:=Qa (show xs.take (k+1)=xs.take k++[x] by
        obtain ⟨kb,rfl⟩:=List.getElem?_eq_some_iff.1 hx
        exact List.take_succ_eq_append_getElem kb)
      clear hcell hx
      by_cases h60:60<x.length
      · have HP:=Qa (show perr s.data.toList=36 by
          unfold perr
          rw [Ja H0.out.1,Ja (by rw [←Lib.size_eq];omega),Ja H0.out.2,Jb ⟨x,by rw [HX.out];exact HM.out,h60⟩])
        go_wp2_with fail
        exact bodyPost_ret (v:=.tuple #[.agg #[.slice none 0 0,.bool false],.int .i64 36]) (by simp [results,Tryz.results214,go_sem, *]) rfl (parseE_no HP.out (by decide) (((ga.trans (hbr.mono (by omega))).setCell (Nat.le_refl _) _).setCell (Nat.le_refl _) _))
      · have Qd:Hid (∀x∈xs.take (k+1),x.length≤60):=by
          show ∀_,_
          rw [HT.out]
          intro y hy
          rcases List.mem_append.1 hy with hy|hy
          · exact HA.out y hy
          · simp at hy;subst hy;omega
        by_cases hd:x=[46]
        · subst hd
          go_wp2_with fail
          go_roundg (gk - 1)
          case measure=>omega
          case rel=>exact ⟨k+1,v,by omega,by omega,by go_num,Qd,p0,p1,q0,q1,by rw [HG.out];simpa using hrow,hbr,hsz⟩
        · have mb:(!x == [46])=true:=by simp [hd]
          have Qe:=Qa (show gath (xs.take (k+1))=gath (xs.take k)++[x] by rw [HG.out,Ja hd])
          have ja:some w1.heap.size≠v.ownBlock:=fun e=>by have:=(hrow.lt _ e.symm).1;omega
          have jb:some ad.block≠v.ownBlock:=fun e=>by have:=(hrow.lt _ e.symm).1;omega
          have P0:=fun o=>((below_alloc wr o).drew.cell (p:=⟨w1.heap.size,0,none⟩) (by simp;omega)).trans p0
          have P1:=fun o=>((below_alloc wr o).drew.cell (p:=⟨w1.heap.size,1,none⟩) (by simp;omega)).trans p1
          have PC:=fun o=>((below_alloc wr o).drew.cell (p:=ad.add k) (by rw [addr_block];omega)).trans ba
          have Q0:=fun o=>((below_alloc wr o).drew.frozen (p:=⟨w1.heap.size,0,none⟩) (by simp;omega)).trans q0
          have Q1:=fun o=>((below_alloc wr o).drew.frozen (p:=⟨w1.heap.size,1,none⟩) (by simp;omega)).trans q1
          clear hd
          go_wp2_with fail
          go_region_law (first|(refine step_append_lies _ (by rfl) _ _ _ (by rfl) (w1.heap.size+1) 9 i0 _ 1 16 Tryz.underlying43 hi hz0 hz1 hz2 (by rfl) (by decide) v (gath (xs.take k)).length ((gath (xs.take k)).map Sv) (by rfl) ((hrow.alloc _).drew) ⟨wr.heap.size,0,none⟩ 1 1 [Sv x] (by rfl) (by rfl) (World.news_of_block (cs:=#[Sv x]) (t:=9) (fr:=(0,0)) (heap_alloc_new wr _)) (by intro u hu;simp at hu;subst hu;rfl) (by decide) (by unfold maxLen;omega) (by omega) (by simp;omega) (wr.heap.size+1) (by simp) ?_;intro gg cap w3 hown1 hgrow hat hlt3;have k0:=(hgrow.cell_far ⟨w1.heap.size,0,none⟩ (by simp;omega) ja).trans (P0 _);have k1:=(hgrow.cell_far ⟨w1.heap.size,1,none⟩ (by simp;omega) ja).trans (P1 _);have k2:=(hgrow.frozen_far ⟨w1.heap.size,0,none⟩ (by simp;omega) ja).trans (Q0 _);have k3:=(hgrow.frozen_far ⟨w1.heap.size,1,none⟩ (by simp;omega) ja).trans (Q1 _)))
          all_goals
            go_wp2_with fail
            go_roundg (gk - 1)
            case measure=>omega
            case rel =>
              refine ⟨k+1,_,by omega,by omega,by go_num,Qd,World.cell?_setCell_same _ _ _ k0,?_,by simpa using k2,by simpa using k3,?_,?_,?_⟩
              · rw [World.cell?_setCell_other _ _ _ _ (fun e=>by have:=congrArg Addr.off e;simp at this)];exact k1
              · rw [Qe.out]
                exact ownsRow_setCell_below (by simpa using hown1) (by simp) _
              · exact ((((hbr.alloc hbr.size _).drew).grown hgrow (by have:=hbr.size;simp;omega) (fun g hg'=>by have:=(hrow.lt g hg').1;omega)).setCell (Nat.le_refl _) _)
              · have:=hgrow.size
                simp at this ⊢
                omega
    · have HK:=Qa (show xs.take k=xs by rw [List.take_of_length_le (by omega)])
      have pb:¬((k:Int)<(xs.length:Int)):=by omega
      have fa:(gath (xs.take k)).length≤k:=by have:=gath_le (xs.take k);rw [List.length_take] at this;omega
      clear hlt
      have Qb:=Qa (show nms s.data.toList=gath (xs.take k) by rw [←gath_comps,HX.out,HK.out])
      have Qc:=Qa (show ∀x∈comps s.data.toList,x.length≤60 from fun x hx=>HA.out x (by rw [HK.out,←HX.out];exact hx))
      obtain ⟨A2,c2,rfl,hown2,hn2⟩:=own_form hrow
      clear hn2 hrow HK HA
      generalize gath (xs.take k)=zs at *
      have ma:=ga.trans (hbr.mono (by omega))
      have ya:=qa.below hbr
      by_cases h40:40<zs.length
      · have HP:=Qa (show perr s.data.toList=36 by
          unfold perr
          rw [Ja H0.out.1,Ja (by rw [←Lib.size_eq];omega),Ja H0.out.2,Ja (by
            rintro ⟨x,hx,hl⟩
            have:=Qc.out x hx
            omega),Jb (by rw [Qb.out];exact h40)])
        go_wp2_with fail
        exact bodyPost_ret (v:=.tuple #[.agg #[.slice none 0 0,.bool false],.int .i64 36]) (by simp [results,Tryz.results214,go_sem, *]) rfl (parseE_no HP.out (by decide) ((ma.setCell (Nat.le_refl _) _).setCell (Nat.le_refl _) _))
      · have HP:=Qa (show perr s.data.toList=0 by
          rw [perr_zero]
          exact ⟨H0.out.1,by rw [←Lib.size_eq];omega,H0.out.2,fun x hx=>Qc.out x hx,by rw [Qb.out];omega⟩)
        have HF:=Qa (show ∀(D:Bool) (W:World),pdir s.data.toList=D→Own W w.heap.size A2 c2 zs→Below w.heap.size w W →
            ParseE w s.data.toList (.returned (.tuple #[.agg #[.slice A2 zs.length c2,.bool D],.int .i64 0])) W from fun D W hD hO hB=>by
          refine ⟨A2,c2,?_,?_,hB⟩
          · rw [pnames_ok HP.out,pdirE_ok HP.out,Qb.out,hD,HP.out]
          · rw [pnames_ok HP.out,Qb.out];exact hO)
        have HD:=Qa (show pdir s.data.toList=(xs.isEmpty || en || lastDots xs) by unfold pdir;rw [HX.out,HE.out])
        generalize hnx:xs.length=n at *
        cases n with
        | zero =>
          have HT:=Qa (show pdir s.data.toList=true by rw [HD.out,List.eq_nil_of_length_eq_zero hnx];rfl)
          clear HD ya qa xa HC HX
          go_wp2_with fail
          refine bodyPost_ret (v:=.tuple #[.agg #[.slice A2 zs.length c2,.bool true],.int .i64 0]) (by simp [results,Tryz.results214,go_sem, *]) rfl (HF.out true _ HT.out ?_ ?_)
          · exact (((hown2.set (by simp) _).set (by simp;omega) _).set (by simp;omega) _).base (by omega)
          · exact ((ma.setCell (by simp;omega) _).setCell (by simp) _).setCell (by simp) _
        | succ j =>
          obtain ⟨ad,y,rfl,hab,hy,hcy⟩:=ya.get (k:=j) (by omega)
          have sa:lastDots xs=(y == [46] || y == [46,46]):=by
            unfold lastDots
            rw [List.getLast?_eq_getElem?,hnx,Nat.add_sub_cancel,hy]
          have la:xs.isEmpty=false:=by cases xs with
            | nil=>simp at hnx
            | cons _ _=>rfl
          rw [la,sa,Bool.false_or] at HD
          clear sa la ya qa HC HX hy
          by_cases h1:y=[46]
          · have HT:=Qa (show pdir s.data.toList=true by rw [HD.out,h1];simp)
            clear HD
            subst h1
            go_wp2_with fail
            refine bodyPost_ret (v:=.tuple #[.agg #[.slice A2 zs.length c2,.bool true],.int .i64 0]) (by simp [results,Tryz.results214,go_sem, *]) rfl (HF.out true _ HT.out ?_ ?_)
            · exact (((hown2.set (by simp) _).set (by simp;omega) _).set (by simp;omega) _).base (by omega)
            · exact ((ma.setCell (by simp;omega) _).setCell (by simp) _).setCell (by simp) _
          · by_cases h2:y=[46,46]
            · have HT:=Qa (show pdir s.data.toList=true by rw [HD.out,h2];simp)
              clear HD h1
              subst h2
              go_wp2_with fail
              refine bodyPost_ret (v:=.tuple #[.agg #[.slice A2 zs.length c2,.bool true],.int .i64 0]) (by simp [results,Tryz.results214,go_sem, *]) rfl (HF.out true _ HT.out ?_ ?_)
              · exact (((hown2.set (by simp) _).set (by simp;omega) _).set (by simp;omega) _).base (by omega)
              · exact ((ma.setCell (by simp;omega) _).setCell (by simp) _).setCell (by simp) _
            · have b1:(y == [46])=false:=by rw [beq_eq_false_iff_ne];exact h1
              have b2:(y == [46,46])=false:=by rw [beq_eq_false_iff_ne];exact h2
              have HT:=Qa (show pdir s.data.toList=en by rw [HD.out,b1,b2];simp)
              clear HD h1 h2
              go_wp2_with fail
              refine bodyPost_ret (v:=.tuple #[.agg #[.slice A2 zs.length c2,.bool en],.int .i64 0]) (by simp [results,Tryz.results214,go_sem, *]) rfl (HF.out en _ HT.out ?_ ?_)
              · exact ((hown2.set (by simp;omega) _).set (by simp;omega) _).base (by omega)
              · exact (ma.setCell (by simp) _).setCell (by simp) _
theorem rparse_any (s:ByteArray) (w:World):Calls Tryz.prog 214 #[.string s] w (ParseE w s.data.toList):=by
 by_cases h0:s.size=0
 ·exact rparse_empty s w h0
 ·by_cases hs:400<s.size
  ·exact rparse_long s w hs
  ·by_cases h:(0:UInt8)∈s.data.toList
   ·exact rparse_nul s w h0 (by omega) h
   ·exact rparse_main s w (s.size - 1) (by omega) (by omega) h
end pa
end Go.Proofs.YtgoddboicjfkcaaGreat
