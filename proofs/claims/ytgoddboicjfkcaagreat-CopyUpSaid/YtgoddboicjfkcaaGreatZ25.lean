/- Contracts and mathematics, part 25. -/
import Derived.Test.YtgoddboicjfkcaaGreatZ24
import Derived.Test.YtgoddboicjfkcaaGreatZ17
import Derived.Lib.ConvBytes
set_option linter.unusedVariables false
set_option linter.unusedSimpArgs false
set_option maxRecDepth 100000
set_option maxHeartbeats 8000000
namespace Go.Proofs.YtgoddboicjfkcaaGreat
namespace pa
open Go.RowKit
theorem rlast_none (A:Option Addr) (c:Nat) (d:Bool) (w:World):Calls Tryz.prog 215 #[Pv A 0 c d] w (LastNo w):=by
 go_enter Tryz.func215,Tryz.ntmps215
 go_wp2_with fail
 exact bodyPost_ret (v:=.tuple #[Pv none 0 0 false,Sv [],.int .i64 16]) (by simp [results,Tryz.results215,go_sem]) rfl ⟨rfl,(below_alloc w _).alloc (by simp) _⟩
theorem rlast_dots (A:Option Addr) (n c B:Nat) (d:Bool) (ys:List Bs) (x:Bs) (w:World) (hn:n=ys.length) (hl:n≤65536) (hB:B≤w.heap.size) (hx:Strs w B A (ys++[x])) (hd:dotB x=true) :
  Calls Tryz.prog 215 #[Pv A (n+1) c d] w (LastNo w):=by
 obtain ⟨ad,rfl,hb,hcell,-⟩:=last_get hx
 rw [←hn] at hcell
 have ma:∀o1 o2,((w.alloc o1).alloc o2).cell? (ad.add n)=some (Sv x):=fun o1 o2=>by
  rw [World.cell?_alloc_lt _ _ _ (by rw [addr_block];simp;omega),World.cell?_alloc_lt _ _ _ (by rw [addr_block];omega)];exact hcell
 clear hcell hx hn
 by_cases h1:x=[46]
 ·subst h1
  go_enter Tryz.func215,Tryz.ntmps215
  go_wp2_with fail
  exact bodyPost_ret (v:=.tuple #[Pv none 0 0 false,Sv [],.int .i64 16]) (by simp [results,Tryz.results215,go_sem]) rfl ⟨rfl,(below_alloc w _).alloc (by simp) _⟩
 ·have h2:x=[46,46]:=by
   unfold dotB at hd
   simp [h1] at hd
   exact hd
  subst h2
  go_enter Tryz.func215,Tryz.ntmps215
  go_wp2_with fail
  exact bodyPost_ret (v:=.tuple #[Pv none 0 0 false,Sv [],.int .i64 16]) (by simp [results,Tryz.results215,go_sem]) rfl ⟨rfl,(below_alloc w _).alloc (by simp) _⟩
structure RL (w w2:World):Prop where
 c0:w2.cell? ⟨w.heap.size+1,0,none⟩=some (.slice none 0 0)
 c1:w2.cell? ⟨w.heap.size+1,1,none⟩=some (.bool false)
 f0:w2.frozen? ⟨w.heap.size+1,0,none⟩=false
 f1:w2.frozen? ⟨w.heap.size+1,1,none⟩=false
 bl:Below w.heap.size w w2
 sz:w.heap.size+3≤w2.heap.size
theorem rl_facts {w w2:World} {v0 v1:Value} (h:(((w.alloc (.cells #[v0,v1] 292)).alloc (.cells #[.slice none 0 0,.bool false] 292)).alloc (.cells #[] 9)).grownBy w2 (Value.slice (some ⟨w.heap.size+1+1,0,none⟩) 0 0).ownBlock):RL w w2:=by
 have ma:Below (w.heap.size+2) (((w.alloc (.cells #[v0,v1] 292)).alloc (.cells #[.slice none 0 0,.bool false] 292)).alloc (.cells #[] 9)) w2 :=
  (Below.refl _ _).grown h (by simp) (fun k hk=>by simp [Value.ownBlock] at hk;omega)
 have b3:Below w.heap.size w (((w.alloc (.cells #[v0,v1] 292)).alloc (.cells #[.slice none 0 0,.bool false] 292)).alloc (.cells #[] 9)):=((below_alloc w _).alloc (by simp) _).alloc (by simp;omega) _
 refine ⟨?_,?_,?_,?_,b3.trans (ma.mono (by omega)),by have:=ma.size;simpa using this⟩
 ·rw [ma.cell (p:=⟨w.heap.size+1,0,none⟩) (by simp)];simp [World.cell?_alloc_past]
 ·rw [ma.cell (p:=⟨w.heap.size+1,1,none⟩) (by simp)];simp [World.cell?_alloc_past]
 ·rw [ma.frozen (p:=⟨w.heap.size+1,0,none⟩) (by simp),(below_alloc ((w.alloc _).alloc _) _).frozen (p:=⟨w.heap.size+1,0,none⟩) (by simp)];simp
 ·rw [ma.frozen (p:=⟨w.heap.size+1,1,none⟩) (by simp),(below_alloc ((w.alloc _).alloc _) _).frozen (p:=⟨w.heap.size+1,1,none⟩) (by simp)];simp
theorem rlast_yes (A:Option Addr) (n c B:Nat) (d:Bool) (ys:List Bs) (x:Bs) (w:World) (hn:n=ys.length) (hl:n≤65536) (hc:n+1≤c) (hB:B≤w.heap.size) (hx:Strs w B A (ys++[x])) (hd:dotB x=false) :
  Calls Tryz.prog 215 #[Pv A (n+1) c d] w (LastYes w ys x):=by
 obtain ⟨i0,hi,hz0,hz1,hz2⟩:=info_parts info9
 obtain ⟨ad,rfl,hb,hcell,hcs⟩:=last_get hx
 rw [←hn] at hcell
 have hk:∀o1 o2 p,p.block<B→((w.alloc o1).alloc o2).cell? p=w.cell? p:=fun o1 o2 p hp=>by
  rw [World.cell?_alloc_lt _ _ _ (by simp;omega),World.cell?_alloc_lt _ _ _ (by omega)]
 have qa:∀o1 o2,((w.alloc o1).alloc o2).cell? (ad.add n)=some (Sv x):=fun o1 o2=>(hk _ _ _ (by rw [addr_block];exact hb)).trans hcell
 have HC:=Qa (show ∀o1 o2 o3 (j:Nat) u,(ys.map Sv)[j]?=some u→(((w.alloc o1).alloc o2).alloc o3).cell? (ad.add j)=some u by
  intro o1 o2 o3 j u hu
  rw [List.getElem?_map,Option.map_eq_some_iff] at hu
  obtain ⟨y,hy,rfl⟩:=hu
  rw [World.cell?_alloc_lt _ _ _ (by rw [addr_block];simp;omega)]
  exact (hk _ _ _ (by rw [addr_block];exact hb)).trans (hcs j y hy))
 have b1:(x == [46])=false:=by
  unfold dotB at hd
  simp at hd
  rw [beq_eq_false_iff_ne];exact hd.1
 have b2:(x == [46,46])=false:=by
  unfold dotB at hd
  simp at hd
  rw [beq_eq_false_iff_ne];exact hd.2
 have HN:=Qa hn
 have ma:=strs_lit ((w.alloc (.cells #[.slice (some ad) (n+1) c,.bool d] 292)).alloc (.cells #[.slice none 0 0,.bool false] 292)) (w.heap.size+2) (by simp)
 simp only [World.size_alloc] at ma
 have Qb:=Qa ma
 clear hcell hx hcs hk hn hd ma
 go_enter Tryz.func215,Tryz.ntmps215
 go_wp2_with (at_builtin;go_must (refine wpList_append_own _ rfl (.tmp 26) (.tmp 33) 43 rfl (w.heap.size+2) 9 i0 _ 1 16 Tryz.underlying43 hi hz0 hz1 hz2 rfl (by decide) (.slice (some ⟨w.heap.size+1+1,0,none⟩) 0 0) 0 [] rfl Qb.out ad n c (ys.map Sv) rfl (by rw [List.length_map,←HN.out];omega) (HC.out _ _ _) (by intro u hu;simp at hu;obtain ⟨_,_,rfl⟩:=hu;rfl) (by unfold maxLen;omega) (by omega) (by simp) ?_);intro v1 w2 hown1 hgrow1 _;rw [List.nil_append] at hown1;have HR:=rl_facts hgrow1;have q0:=HR.c0;have q1:=HR.c1;have q2:=HR.f0;have q3:=HR.f1;have q4:=HR.sz;obtain ⟨A1,c1,rfl,hown,-⟩:=own_form hown1)
 refine bodyPost_ret (v:=.tuple #[Pv A1 ys.length c1 true,Sv x,.int .i64 0]) (by simp [results,Tryz.results215,go_sem,q0,q1]) rfl ⟨A1,c1,rfl,?_,?_⟩
 ·exact ((hown.set (by simp) _).set (by simp) _).base (by omega)
 ·exact (HR.bl.setCell (by simp) _).setCell (by simp) _
theorem rlast_any (A:Option Addr) (n c B:Nat) (d:Bool) (xs:List Bs) (w:World) (hn:n=xs.length) (hl:n≤65536) (hc:n≤c) (hB:B≤w.heap.size) (hx:Strs w B A xs) :
  (lastNo xs=true∧Calls Tryz.prog 215 #[Pv A n c d] w (LastNo w))∨∃ys x,xs=ys++[x]∧dotB x=false∧Calls Tryz.prog 215 #[Pv A n c d] w (LastYes w ys x):=by
 subst hn
 rcases List.eq_nil_or_concat xs with rfl|⟨ys,x,rfl⟩
 ·exact .inl ⟨rfl,rlast_none A c d w⟩
 ·rw [List.concat_eq_append] at hx hl hc ⊢
  rw [List.length_append,List.length_singleton] at hl hc ⊢
  cases hd:dotB x
  ·exact .inr ⟨ys,x,rfl,hd,rlast_yes A ys.length c B d ys x w rfl (by omega) hc hB hx hd⟩
  ·exact .inl ⟨by simp [lastNo,hd],rlast_dots A ys.length c B d ys x w rfl (by omega) hB hx hd⟩
end pa
namespace fl
open Go.RowKit
open br (BS Ino Inv Good)
open cb (BrX RetW RetI No)
open bl (Pq)
open pa (Bs)
def pfx (s:ByteArray):Bool:=Lib.hasPrefix s.data.toList [47]
def splitM (s:ByteArray):Option (List Bs×Bs) :=
 if pa.perr s.data.toList≠0∨pfx s=false∨pa.lastNo (pa.pnames s.data.toList)=true then none
 else some ((pa.pnames s.data.toList).dropLast,(pa.pnames s.data.toList).getLast?.getD [])
def SplitE (w:World) (s:ByteArray) (e:Ending) (w':World):Prop :=
 (splitM s=none∧e=.returned (.tuple #[.slice none 0 0,.string ⟨#[]⟩,.bool false])∧Below w.heap.size w w') ∨
 (∃ys x A c,splitM s=some (ys,x)∧e=.returned (.tuple #[.slice A ys.length c,pa.Sv x,.bool true])∧pa.Own w' w.heap.size A c ys∧Below w.heap.size w w')
theorem split_no {s:ByteArray} (h:pa.perr s.data.toList≠0∨pfx s=false∨pa.lastNo (pa.pnames s.data.toList)=true):splitM s=none:=Jb h
theorem split_yes {s:ByteArray} (ys:List Bs) (x:Bs) (h1:pa.perr s.data.toList=0) (h2:pfx s=true) (h3:pa.pnames s.data.toList=ys++[x]) (h4:pa.dotB x=false):splitM s=some (ys,x):=by
 unfold splitM
 rw [Ja,h3]
 ·simp
 ·rw [h3]
  simp [h1,h2,pa.lastNo,h4]
theorem names_len {l:Bs} (h:pa.perr l=0):(pa.pnames l).length≤40:=by
 unfold pa.pnames;rw [Jb h];exact (pa.perr_zero.1 h).2.2.2.2
theorem own_fits {w:World} {B:Nat} {A:Option Addr} {c:Nat} {xs:List Bs} (h:pa.Own w B A c xs):xs.length≤c∧c≤maxLen:=by
 rcases h.2 with ⟨e,h0⟩|⟨g,cap,cur,hv,hb,hg,h1,h2,_⟩
 ·injection e with _ _ e;subst e;exact ⟨by omega,by unfold maxLen;omega⟩
 ·injection hv with _ _ e;subst e;exact ⟨h1,h2⟩
theorem split_any (s:ByteArray) (w:World):Calls Tryz.prog 226 #[.string s] w (SplitE w s):=by
 have HP:=Qa (pa.parse_any s w)
 have HX:=Qa (fun W=>Tryz.strings_HasPrefix s ⟨#[47]⟩ W)
 rw [show Lib.hasPrefix s.data.toList (⟨#[47]⟩:ByteArray).data.toList=pfx s from rfl] at HX
 have HN:=Qa (@split_no s)
 have HY:=Qa (@split_yes s)
 have HL:=Qa (@names_len s.data.toList)
 unfold SplitE
 unfold pa.ParseE at HP
 generalize pfx s=px at *
 generalize pa.perr s.data.toList=pe at *
 generalize pa.pnames s.data.toList=ns at *
 generalize pa.pdirE s.data.toList=pd at *
 generalize splitM s=sm at *
 go_enter Tryz.func226,Tryz.ntmps226
 go_wp2_with fail
 refine HP.out.mono ?_
 rintro _ w1 ⟨A,c,rfl,hown,hb1⟩
 obtain ⟨m,hm⟩:∃m,ns.length=m:=⟨_,rfl⟩
 have HM:=Qa hm
 have HC:=Qa (own_fits hown)
 have Qg:=Qa (fun ob=>(hown.strs).keep (w':=w1.alloc ob) (fun p hp=>World.cell?_alloc_lt _ _ _ hp))
 have Qh:=Qa hb1
 rw [hm] at HC
 rw [hm]
 obtain ⟨w2,hw2⟩:∃w2,w1.alloc (.cells #[.slice A m c,.bool pd] 292)=w2:=⟨_,rfl⟩
 have Qi:=Qa (show pa.Strs w2 w1.heap.size A ns by rw [←hw2];exact Qg.out _)
 have Qj:=Qa (show Below w1.heap.size w1 w2 by rw [←hw2];exact (Below.refl _ _).alloc (Nat.le_refl _) _)
 have HZ:=Qa (show w2.heap.size=w1.heap.size+1 by rw [←hw2,World.size_alloc])
 have Qb:=Qa (Qh.out.trans (Qj.out.mono Qh.out.size))
 have u0:w2.cell? ⟨w1.heap.size,0,none⟩=some (.slice A m c):=by rw [←hw2];simp
 have u1:w2.cell? ⟨w1.heap.size,1,none⟩=some (.bool pd):=by rw [←hw2];simp
 obtain ⟨g,hg⟩:∃g,w1.heap.size=g:=⟨_,rfl⟩
 rw [hg] at u0 u1
 have Qm:=Qa hg
 clear hown hb1 hm Qg HP
 by_cases e0:pe=0
 case neg =>
  have q0:(pe != 0)=true:=by simpa using e0
  have Qc:=Qa (HN.out (.inl e0))
  clear HN HY
  go_wp2_with fail
  go_ret3
  exact .inl ⟨Qc.out,rfl,Qb.out⟩
 subst e0
 cases px with
 | false =>
  have Qc:=Qa (HN.out (.inr (.inl rfl)))
  clear HN HY
  go_wp2_with fail
  refine (HX.out _).mono ?_
  rintro _ w3 ⟨rfl,rfl⟩
  go_wp2_with fail
  go_ret3
  exact .inl ⟨Qc.out,rfl,Qb.out⟩
 | true =>
  go_wp2_with fail
  refine (HX.out _).mono ?_
  rintro _ w3 ⟨rfl,rfl⟩
  have Qf:=Qa (pa.last_any A m c w1.heap.size pd ns w3 HM.out.symm (by have:=HL.out (by first|rfl|trivial);have:=HM.out;omega) HC.out.1 (by have:=HZ.out;omega) Qi.out)
  rcases Qf.out with ⟨hl,hc⟩|⟨ys,x,he,hx,hc⟩
  ·have Qc:=Qa (HN.out (.inr (.inr hl)))
   have Qd:=Qa hc
   unfold pa.LastNo at Qd
   clear HN HY hl hc Qf HX
   go_wp2_with fail
   refine Qd.out.mono ?_
   rintro _ w4 ⟨rfl,hb4⟩
   have Qe:=Qa (Qb.out.trans (hb4.mono Qb.out.size))
   clear hb4
   go_wp2_with fail
   go_ret3
   exact .inl ⟨Qc.out,rfl,Qe.out.trans ((Below.refl _ _).alloc Qe.out.size _)⟩
  ·have Qk:=Qa (HY.out ys x (by first|rfl|trivial) (by first|rfl|trivial) he hx)
   have Qd:=Qa hc
   unfold pa.LastYes at Qd
   clear HN HY he hx hc Qf HX
   go_wp2_with fail
   refine Qd.out.mono ?_
   rintro _ w4 ⟨A4,c4,rfl,hown4,hb4⟩
   have Qe:=Qa (Qb.out.trans (hb4.mono Qb.out.size))
   have Ql:=Qa (hown4.base Qb.out.size)
   clear hb4 hown4
   go_wp2_with fail
   go_ret3
   exact .inr ⟨ys,x,A4,c4,Qk.out,rfl,Ql.out.keep ((Below.refl _ _).alloc (Nat.le_refl _) _),Qe.out.trans ((Below.refl _ _).alloc Qe.out.size _)⟩
def goM (S:BS):Int→List Bs→Int×Int
 | d,[]=>(d,0)
 | d,y::ys=>if (S.get d ⟨y.toArray⟩).2≠0 then (0,(S.get d ⟨y.toArray⟩).2) else goM S (S.get d ⟨y.toArray⟩).1 ys
def placeM (S:BS) (s:ByteArray):(Int×ByteArray)×Int :=
 match splitM s with
 | none=>((0,⟨#[]⟩),22)
 | some (ys,x) =>
  if (goM S 1 ys).2≠0 then ((0,⟨#[]⟩),(goM S 1 ys).2)
  else if S.kindOf (goM S 1 ys).1≠2 then ((0,⟨#[]⟩),20) else (((goM S 1 ys).1,⟨x.toArray⟩),0)
abbrev PlV (r:(Int×ByteArray)×Int):Value:=.tuple #[.int .i64 r.1.1,.string r.1.2,.int .i64 r.2]
theorem goM_drop {S:BS} {ys:List Bs} {j:Nat} {y:Bs} {d:Int} (h:ys[j]?=some y):goM S d (ys.drop j)=if (S.get d ⟨y.toArray⟩).2≠0 then (0,(S.get d ⟨y.toArray⟩).2) else goM S (S.get d ⟨y.toArray⟩).1 (ys.drop (j+1)):=by
 have hj:=(List.getElem?_eq_some_iff.1 h).1
 rw [List.drop_eq_getElem_cons hj]
 have:ys[j]=y:=(List.getElem?_eq_some_iff.1 h).2
 rw [this];rfl
theorem place_any {w0 w:World} {P room T:Nat} {X:Nat→Prop} {S:BS} (h:BrX w0 w P X S room T) (s:ByteArray):Calls Tryz.prog 204 #[Pq P,.string s] w (RetW w (PlV (placeM S s))):=by
 have HS:=Qa (split_any s w)
 have HG:=Qa (fun W (hb:Below w.heap.size w W) d y=>cb.x_get (h.below hb) d y)
 have HK:=Qa (fun W (hb:Below w.heap.size w W) d=>cb.x_kind (h.below hb) d)
 unfold RetW at HG
 unfold RetI at HK
 have HP:=Qa (show placeM S s=match splitM s with
  | none=>((0,⟨#[]⟩),22)
  | some (ys,x)=>if (goM S 1 ys).2≠0 then ((0,⟨#[]⟩),(goM S 1 ys).2)
  else if S.kindOf (goM S 1 ys).1≠2 then ((0,⟨#[]⟩),20) else (((goM S 1 ys).1,⟨x.toArray⟩),0) from rfl)
 generalize placeM S s=pm at *
 unfold SplitE at HS
 obtain ⟨sm,hsm⟩:∃m,splitM s=m:=⟨_,rfl⟩
 rw [hsm] at HS HP
 have Qe:=Qa (show ∀(v:Value) (W:World),v=PlV pm→Below w.heap.size w W→RetW w (PlV pm) (.returned v) W from fun v W e hb=>⟨by rw [e],hb⟩)
 clear h hsm
 go_enter Tryz.func204,Tryz.ntmps204
 go_wp2_with fail
 refine HS.out.mono ?_
 rintro e w1 (⟨rfl,rfl,hb1⟩|⟨ys,x,A,c,rfl,rfl,hown,hb1⟩)
 ·have HB:=Qa hb1
  clear hb1 HS
  dsimp only at HP
  go_wp2_with fail
  go_ret3
  exact Qe.out _ _ (by rw [HP.out];rfl) HB.out
 dsimp only at HP
 have Qb:=Qa hb1
 have Qk:=Qa (fun W (hb:Below w1.heap.size w1 W)=>(hown.strs).keep (w':=W) (fun p hp=>hb.cell hp))
 obtain ⟨m,hm⟩:∃m,ys.length=m:=⟨_,rfl⟩
 have HM:=Qa hm
 have HC:=Qa (own_fits hown)
 rw [hm] at HC
 rw [hm]
 have ma:m≤9223372036854775807:=by have h1:=HC.out;unfold maxLen at h1;omega
 have Ql:=Qa (show ∀j,j<m→∃x,ys[j]?=some x from fun j hj=>⟨ys[j]'(by omega),List.getElem?_eq_getElem _⟩)
 clear hown hb1 HS hm
 go_upto_region 6 with fail
 go_loopg [10,25] m (fun gh s10 s25 wr=>∃(j:Nat) (d:Int),gh+j=m∧s10=.int .i64 d∧s25=.int .i64 j∧Hid (goM S 1 ys=goM S d (ys.drop j))∧Hid (Below w1.heap.size w1 wr))
 case atStart=>exact ⟨0,1,by omega,rfl,rfl,Qa rfl,Qa (Below.refl _ _)⟩
 case round =>
  obtain ⟨j,d,hgj,rfl,rfl,Qg,Qc⟩:=hrel
  by_cases hj:j<m
  ·obtain ⟨y,hy⟩:=Ql.out j hj
   have HD:=Qa (goM_drop (S:=S) (d:=d) hy)
   obtain ⟨ad,hA,hlt,hcell⟩:=Qk.out _ Qc.out (by have:=HM.out;omega)
   have e1:=hcell j y hy
   subst hA
   have Qf:=Qa (HG.out wr (Qb.out.trans (Qc.out.mono Qb.out.size)) d ⟨y.toArray⟩)
   obtain ⟨gr,hgr⟩:∃r,S.get d ⟨y.toArray⟩=r:=⟨_,rfl⟩
   rw [hgr] at Qf HD
   obtain ⟨g1,g2⟩:=gr
   dsimp only at Qf HD
   clear hy hlt hcell hgr
   go_wp2_with fail
   refine Qf.out.mono ?_
   rintro _ w2 ⟨rfl,hb2⟩
   have Qi:=Qa (Qc.out.trans (hb2.mono Qc.out.size))
   have Qd:=Qa (Qb.out.trans (Qi.out.mono Qb.out.size))
   clear hb2 Qf Qc
   by_cases e0:g2=0
   ·subst e0
    rw [Ja (fun e=>e rfl)] at HD
    go_wp2_with fail
    go_roundg (gk - 1)
    case measure=>omega
    case rel=>exact ⟨j+1,g1,by omega,rfl,by go_num,Qa (Qg.out.trans HD.out),Qi⟩
   ·have q0:(g2 != 0)=true:=by simpa using e0
    rw [Jb e0] at HD
    have HE:=Qa (Qg.out.trans HD.out)
    rw [HE.out,Jb e0] at HP
    go_wp2_with fail
    go_ret3
    exact Qe.out _ _ (by rw [HP.out];rfl) Qd.out
  ·obtain rfl:j=m:=by omega
   have HE:=Qa (show goM S 1 ys=(d,0) by rw [Qg.out,List.drop_eq_nil_of_le (by have:=HM.out;omega)];rfl)
   rw [HE.out,Ja (fun e=>e rfl)] at HP
   dsimp only at HP
   have Qd:=Qa (Qb.out.trans (Qc.out.mono Qb.out.size))
   have Qh:=Qa (HK.out wr Qd.out d)
   obtain ⟨k,hk⟩:∃k,S.kindOf d=k:=⟨_,rfl⟩
   rw [hk] at Qh HP
   clear hk
   go_wp2_with fail
   refine Qh.out.mono ?_
   rintro _ w2 ⟨rfl,hb2⟩
   have Qj:=Qa (Qd.out.trans (hb2.mono Qd.out.size))
   clear hb2 Qh
   by_cases e2:k=2
   ·subst e2
    rw [Ja (fun e=>e rfl)] at HP
    go_wp2_with fail
    go_ret3
    exact Qe.out _ _ (by rw [HP.out];rfl) Qj.out
   ·have q2:(k != 2)=true:=by simpa using e2
    rw [Jb e2] at HP
    go_wp2_with fail
    go_ret3
    exact Qe.out _ _ (by rw [HP.out];rfl) Qj.out
end fl
namespace fl
open Go.RowKit
open br (BS Ino Inv Good abE sumF)
open cb (BrX RetW RetI No WrI MadeI)
open bl (Pq AB wr WR IsStop okW usedW thW cnt)
open pa (Bs)
def bF (s:ByteArray):Nat→UInt8:=fun j=>s.data.toList.getD j 0
def nch (n:Nat):Nat:=(n+15) / 16
theorem cnt_lt (N:Nat) (c:Nat) (h:c≤N):cnt N (fun k=>decide (k<c))=c:=by
 unfold cnt
 have e:(List.range N).filter (fun k=>decide (k<c))=List.range c:=by
  obtain ⟨d,rfl⟩:∃d,N=c+d:=⟨N - c,by omega⟩
  rw [List.range_add,List.filter_append,List.filter_eq_self.2 (fun a ha=>by simpa using ha),List.filter_eq_nil_iff.2,List.append_nil]
  intro a ha
  rw [List.mem_map] at ha
  obtain ⟨x,_,rfl⟩:=ha
  simp
 rw [e,List.length_range]
theorem thW_new (a:Nat):thW abE 0 a=fun k=>decide (k<nch a):=by
 funext k
 unfold thW abE nch
 simp only [Bool.false_or]
 exact decide_eq_decide.2 ⟨fun h=>by omega,fun h=>by omega⟩
theorem cnt_new {a:Nat} (h:a≤65536):cnt 4096 (thW abE 0 a)=nch a:=by
 rw [thW_new,cnt_lt _ _ (by unfold nch;omega)]
theorem used_new {u a:Nat} (h:a≤65536):usedW abE u 0 (0+a)=u+nch a:=by
 unfold usedW
 rw [Nat.zero_add,cnt_new h,br.abE_n];omega
theorem ok_new {u room q:Nat} (h:q≤65536):okW abE u room 0 q↔(q % 16≠0∨u+nch q<room):=by
 unfold okW
 rw [used_new h,Nat.zero_add,thW_new]
 simp only [decide_eq_true_eq]
 have:q / 16<nch q↔q % 16≠0:=by unfold nch;omega
 rw [this]
theorem stop_new {u room len p:Nat} (hl:0<len) (h:IsStop abE u room 0 (min len (65536 - 0)) p):p=len↔len≤65536∧u+nch len≤room:=by
 constructor
 ·intro e
  subst e
  have h1:=h.le
  refine ⟨by omega,?_⟩
  have h2:=h.ok (16*((p - 1) / 16)) (by omega)
  rw [ok_new (by omega)] at h2
  rcases h2 with h2|h2
  ·omega
  ·unfold nch at h2 ⊢;omega
 ·rintro ⟨h1,h2⟩
  rcases h.stop with e|e
  ·omega
  ·have h3:=h.le
   by_cases hp:p=len
   ·exact hp
   ·exfalso
    apply e
    rw [ok_new (by omega)]
    by_cases h4:p % 16=0
    ·right;unfold nch at h2 ⊢;omega
    ·exact .inl h4
theorem wr_new_n {len:Nat} {f:Nat→UInt8} (h:len≤65536):(wr abE 0 len f).n=nch len:=by
 show cnt 4096 (thW abE (0:Int).toNat ((0:Int).toNat+len))=_
 rw [show (0:Int).toNat=0 from rfl,Nat.zero_add,cnt_new h]
theorem file_write {S S':BS} {room n len p:Nat} {f:Nat→UInt8} {err:Int} (h1:1≤n) (h2:n≤200) (hk:(S.ino n).kind=1) (hb:(S.ino n).body=abE) (h:WrI S room (n:Int) 0 len f p err S') :
  (len≤65536∧S.used+nch len≤room→err=0∧p=len∧S'=S.wrote (n:Int) 0 len f)∧(¬(len≤65536∧S.used+nch len≤room)→err≠0∨p<len):=by
 have hf:S.fileE (n:Int)=0:=by
  have:S.kindOf (n:Int)=1:=by
   unfold BS.kindOf BS.isI
   rw [br.at_nat,decide_eq_true ⟨by omega,by omega,by rw [hk];decide⟩,hk];rfl
  unfold BS.fileE;rw [this];rfl
 rcases h with ⟨h,_⟩|⟨_,hw,hu,_,rfl⟩
 ·exact absurd hf h
 rw [br.at_nat,hb] at hw hu
 rcases hw with ⟨h,_⟩|⟨_,rfl,rfl,rfl⟩|⟨h,_⟩|⟨_,_,hl,hs,rfl⟩
 ·omega
 ·refine ⟨fun _=>⟨rfl,rfl,rfl⟩,fun hn=>absurd ⟨Nat.zero_le _,?_⟩ hn⟩
  have e:(wr abE 0 0 f).n=0:=(wr_new_n (Nat.zero_le _)).trans (by decide)
  rw [e,br.abE_n] at hu
  show S.used+nch 0≤room
  have:nch 0=0:=by decide
  omega
 ·omega
 ·have ma:=stop_new hl hs
  refine ⟨fun hh=>?_,fun hh=>?_⟩
  ·have e:=ma.2 hh
   subst e
   exact ⟨Ja (by omega),rfl,rfl⟩
  ·right
   have h3:=hs.le
   have:p≠len:=fun e=>hh (ma.1 e)
   omega
def fileF (room:Nat) (S:BS) (d:Int) (x data:ByteArray):Option BS :=
 if (S.make d x 1 ⟨#[]⟩).1.2≠0 then none
 else if data.size≤65536∧(S.make d x 1 ⟨#[]⟩).2.used+nch data.size≤room then some ((S.make d x 1 ⟨#[]⟩).2.wrote (S.make d x 1 ⟨#[]⟩).1.1 0 data.size (bF data)) else none
def makeF (S:BS) (d:Int) (x:ByteArray) (k:Int) (t:ByteArray):Option BS:=if (S.make d x k t).1.2≠0 then none else some (S.make d x k t).2
def putF (room:Nat) (S:BS) (x:Ln):Option BS :=
 if (placeM S x.path).2≠0 then none
 else if x.kind=1 then fileF room S (placeM S x.path).1.1 (placeM S x.path).1.2 x.data
 else if x.kind=2 then makeF S (placeM S x.path).1.1 (placeM S x.path).1.2 2 ⟨#[]⟩
 else if x.kind=3 then makeF S (placeM S x.path).1.1 (placeM S x.path).1.2 3 x.data
 else none
def treeF (room:Nat):BS→List Ln→Option BS
 | S,[]=>some S
 | S,x::l=>match putF room S x with|none=>none|some S'=>treeF room S' l
theorem treeF_drop {room:Nat} {S S':BS} {l:List Ln} {j:Nat} {x:Ln} (h:l[j]?=some x) (hp:putF room S x=some S'):treeF room S (l.drop j)=treeF room S' (l.drop (j+1)):=by
 have hj:=(List.getElem?_eq_some_iff.1 h).1
 rw [List.drop_eq_getElem_cons hj,(List.getElem?_eq_some_iff.1 h).2]
 show (match putF room S x with|none=>none|some S'=>treeF room S' (l.drop (j+1)))=_
 rw [hp]
theorem treeF_stop {room:Nat} {S:BS} {l:List Ln} {j:Nat} {x:Ln} (h:l[j]?=some x) (hp:putF room S x=none):treeF room S (l.drop j)=none:=by
 have hj:=(List.getElem?_eq_some_iff.1 h).1
 rw [List.drop_eq_getElem_cons hj,(List.getElem?_eq_some_iff.1 h).2]
 show (match putF room S x with|none=>none|some S'=>treeF room S' (l.drop (j+1)))=_
 rw [hp]
end fl
namespace fl
open Go.RowKit
open br (BS Ino Inv Good abE sumF)
open cb (BrX RetW RetI No WrI MadeI)
open bl (Pq AB U8)
open pa (Bs)
def PutE (w0 w:World) (P room T:Nat) (X:Nat→Prop) (r:Option BS) (k:Int→Prop) (e:Ending) (w':World):Prop :=
 ∃(err:Int) (S':BS),e=.returned (.int .i64 err)∧BrX w0 w' P X S' room T∧dn.Same X w w'∧((err=0∧r=some S')∨(err≠0∧r=none∧k err))
theorem same_trans {X:Nat→Prop} {a b c:World} (h:dn.Same X a b) (k:dn.Same X b c):dn.Same X a c:=fun x hx=>(k x hx).trans (h x hx)
theorem conv_in (w:World) (s:ByteArray) (hs:s.size≤1000000):∃c w',(convert 9 53 (.string s)).run Tryz.prog w=.ok (.slice (some ⟨w.heap.size,0,none⟩) s.size c) w'∧s.size≤c∧c≤maxLen∧Below w.heap.size w w'∧w.heap.size<w'.heap.size∧∀j,j<s.size→w'.cell? ⟨w.heap.size,0+j,none⟩=some (U8 (bF s j)):=by
 refine ⟨_,_,Lib.run_convert_string_bytes w 9 53 5 s Tryz.underlying9 Tryz.underlying53 Tryz.underlying5,grownCap_ge _ _ _ _,grownCap_le_maxLen _ _ _ _ (by unfold maxLen;omega),?_,by rw [Lib.bytesWorld_size];omega,fun j hj=>?_⟩
 ·refine ⟨?_,?_,?_,by rw [Lib.bytesWorld_size];omega,fun k hk=>Lib.bytesWorld_at_old w 5 s k hk⟩
  ·simp [Lib.bytesWorld,World.freeze] <;> rfl
  ·simp [Lib.bytesWorld,World.freeze] <;> rfl
  ·simp [Lib.bytesWorld,World.freeze] <;> rfl
 ·rw [Nat.zero_add];exact Lib.bytesWorld_cell w 5 s j hj
theorem brx_lt {w0 w:World} {P room T:Nat} {X:Nat→Prop} {S:BS} (h:BrX w0 w P X S room T) {b:Nat} (hb:X b):b<w.heap.size:=by
 obtain ⟨_,_,_,_,_,_,_,_,_,_,_,_,h7⟩:=h
 exact (h7 b hb).1
theorem putFile_any {w0 w:World} {P room T:Nat} {X:Nat→Prop} {S:BS} (h:BrX w0 w P X S room T) (hT:T≤990) (d:Int) (x data:ByteArray) (hx:x.size≤1000000) (hd:data.size≤1000000) (k:Int→Prop) (hk:∀n,k n) :
  Calls Tryz.prog 205 #[Pq P,.int .i64 d,.string x,.string data] w (PutE w0 w P room (T+2) X (fileF room S d x data) k):=by
 have HM:=Qa (cb.x_make h (by omega) d x 1 ⟨#[]⟩ (by omega) (by decide))
 have HG:=Qa h.good
 have HF:=Qa (show fileF room S d x data=if (S.make d x 1 ⟨#[]⟩).1.2≠0 then none
 else if data.size≤65536∧(S.make d x 1 ⟨#[]⟩).2.used+nch data.size≤room then some ((S.make d x 1 ⟨#[]⟩).2.wrote (S.make d x 1 ⟨#[]⟩).1.1 0 data.size (bF data)) else none from rfl)
 have Qb:=Qa (fun hh=>cb.made_of HG.out (d:=d) (s:=x) (t:=⟨#[]⟩) (kind:=1) hh)
 have HK:=Qa hk
 generalize fileF room S d x data=fr at *
 obtain ⟨mk,hmk⟩:∃m,S.make d x 1 ⟨#[]⟩=m:=⟨_,rfl⟩
 rw [hmk] at HM HF Qb
 obtain ⟨⟨m1,m2⟩,S1⟩:=mk
 dsimp only at HM HF Qb
 clear h hmk hk
 have Qc:=Qa (show ∀(err:Int) (S':BS) (W:World),BrX w0 W P X S' room (T+2)→dn.Same X w W→((err=0∧fr=some S')∨(err≠0∧fr=none))→PutE w0 w P room (T+2) X fr k (.returned (.int .i64 err)) W from fun err S' W a b c=>⟨err,S',rfl,a,b,c.imp id fun ⟨c1,c2⟩=>⟨c1,c2,HK.out _⟩⟩)
 go_enter Tryz.func205,Tryz.ntmps205
 go_wp2_with fail
 refine HM.out.mono ?_
 rintro _ w1 ⟨rfl,h1,hs1⟩
 have H1:=Qa h1
 have Qg:=Qa hs1
 clear h1 hs1 HM
 by_cases e0:m2=0
 case neg =>
  have q0:(m2 != 0)=true:=by simpa using e0
  rw [Jb e0] at HF
  go_wp2_with fail
  go_ret
  exact Qc.out m2 S1 w1 (H1.out.up (by omega)) Qg.out (.inr ⟨e0,HF.out⟩)
 subst e0
 rw [Ja (fun e=>e rfl)] at HF
 obtain ⟨D,n,-,rfl,hmi,hbo⟩:=Qb.out (by first|rfl|trivial)
 have Qj:=Qa (fun (len p:Nat) (f:Nat→UInt8) (err:Int) (S':BS) (hw:WrI S1 room (n:Int) 0 len f p err S')=>file_write (S:=S1) (S':=S') (room:=room) (n:=n) (len:=len) (p:=p) (f:=f) (err:=err) hmi.n1 hmi.n2 hmi.eN.1 hbo hw)
 obtain ⟨c,w2,hcv,hc1,hc2,hb2,hlt,hcell⟩:=conv_in w1 data hd
 have Qm:=Qa hb2
 have Qk:=Qa (fun b (hb:X b)=>hb2.block b (brx_lt H1.out hb))
 have HW:=Qa (cb.x_write (H1.out.over hb2) (n:Int) 0 (some ⟨w1.heap.size,0,none⟩) data.size c (bF data) (fun j hj=>⟨w1.heap.size,0,rfl,.inr (.inl ⟨Nat.le_refl _,hlt⟩),hcell j hj⟩) hc1 hc2)
 obtain ⟨g,hg⟩:∃g,w1.heap.size=g:=⟨_,rfl⟩
 rw [hg] at hcv
 have Qe:=Qa (show Calls Tryz.prog 39 #[Pq P,.int .i64 (n:Int),.int .i64 0,.slice (some ⟨g,0,none⟩) data.size c] w2 (fun e w'=>∃(p:Nat) (err:Int) (S':BS),Hid (WrI S1 room (n:Int) 0 data.size (bF data) p err S')∧e=.returned (.tuple #[.int .i64 (p:Int),.int .i64 err])∧Hid (BrX w0 w' P X S' room (T+2))∧Hid (dn.Same X w2 w')) by
  rw [←hg]
  refine HW.out.mono ?_
  rintro e w' ⟨p,err,S',a,b,cc,dd⟩
  exact ⟨p,err,S',Qa a,b,Qa (cc.sub fun b hb=>.inl hb),Qa fun b hb=>dd b (.inl hb)⟩)
 obtain ⟨ds,hds⟩:∃d,data.size=d:=⟨_,rfl⟩
 rw [hds] at HF Qe hcv hd
 have Qn:=Qa hds
 have ma:=hds
 clear hb2 hlt hcell hg hmi hbo HW hc1 hc2 Qb hds
 go_wp2_with fail
 refine Qe.out.mono ?_
 rintro _ w3 ⟨p,err,S',Qh,rfl,H3,Qi⟩
 have Qd:=Qa (Qj.out ds p (bF data) err S' Qh.out)
 have Qf:=Qa (same_trans Qg.out (same_trans (fun b hb=>Qk.out b hb) Qi.out))
 clear Qh Qi Qe
 by_cases e1:err=0
 case neg =>
  have q1:(err != 0)=true:=by simpa using e1
  have HN:=Qa (show ¬(ds≤65536∧S1.used+nch ds≤room) from fun hh=>e1 (Qd.out.1 hh).1)
  rw [Ja HN.out] at HF
  clear hcv
  go_wp2_with fail
  go_ret
  exact Qc.out err S' w3 H3.out Qf.out (.inr ⟨e1,HF.out⟩)
 subst e1
 by_cases e2:p<ds
 ·have HN:=Qa (show ¬(ds≤65536∧S1.used+nch ds≤room) from fun hh=>by have:=(Qd.out.1 hh).2.1;omega)
  rw [Ja HN.out] at HF
  clear hcv
  go_wp2_with fail
  go_ret
  exact Qc.out 28 S' w3 H3.out Qf.out (.inr ⟨by decide,HF.out⟩)
 ·have HY:=Qa (show ds≤65536∧S1.used+nch ds≤room from Classical.byContradiction fun hn=>by
   rcases Qd.out.2 hn with k1|k1
   ·exact k1 (by first|rfl|trivial)
   ·exact e2 k1)
  rw [Jb HY.out] at HF
  have Ql:=Qa (Qd.out.1 HY.out).2.2
  clear hcv
  go_wp2_with fail
  go_ret
  exact Qc.out 0 S' w3 H3.out Qf.out (.inl ⟨rfl,by rw [HF.out,Ql.out]⟩)
end fl
namespace fl
open Go.RowKit
open br (BS Ino Inv abE sumF)
open cb (BrX RetW RetI No WrI MadeI)
open bl (Pq AB U8)
open pa (Bs)
abbrev Lv (x:Ln):Value:=.agg #[.string x.path,.int .i64 x.kind,.string x.data]
def Pk (S:BS) (x:Ln) (err:Int):Prop:=(placeM S x.path).2≠0→err=(placeM S x.path).2
theorem place_size {S:BS} {s:ByteArray}:(placeM S s).1.2.size≤1000000:=by
 unfold placeM
 split
 ·decide
 ·rename_i ys x h
  have hx:x.length≤60:=by
   unfold splitM at h
   split at h
   ·cases h
   ·rename_i hn
    injection h with h
    injection h with h1 h2
    simp only [not_or] at hn
    have h0:pa.perr s.data.toList=0:=Classical.byContradiction fun e=>hn.1 e
    have hc:=(pa.perr_zero.1 h0).2.2.2.1
    subst h2
    cases hl:(pa.pnames s.data.toList).getLast? with
    | none=>exact Nat.zero_le _
    | some y =>
     have hm:=List.mem_of_getLast? hl
     unfold pa.pnames at hm
     rw [Jb h0] at hm
     exact hc y (List.mem_filter.1 (by unfold pa.nms at hm;exact hm)).1
  split
  ·exact (show (⟨#[]⟩:ByteArray).size≤1000000 by decide)
  ·split
   ·exact (show (⟨#[]⟩:ByteArray).size≤1000000 by decide)
   ·show x.toArray.size≤_
    simp only [List.size_toArray];omega
theorem put_any {w0 w:World} {P room T:Nat} {X:Nat→Prop} {S:BS} (h:BrX w0 w P X S room T) (hT:T≤990) (x:Ln) (hd:x.data.size≤1000000) :
  Calls Tryz.prog 154 #[Pq P,Lv x] w (PutE w0 w P room (T+2) X (putF room S x) (Pk S x)):=by
 obtain ⟨xp,xk,xd⟩:=x
 obtain ⟨w1,hw1⟩:∃w1,w.alloc (.cells #[.string xp,.int .i64 xk,.string xd] 104)=w1:=⟨_,rfl⟩
 have ma:Below w.heap.size w w1:=by rw [←hw1];exact (Below.refl _ _).alloc (Nat.le_refl _) _
 have t0:w1.cell? ⟨w.heap.size,0,none⟩=some (.string xp):=by rw [←hw1];simp
 have t1:w1.cell? ⟨w.heap.size,1,none⟩=some (.int .i64 xk):=by rw [←hw1];simp
 have t2:w1.cell? ⟨w.heap.size,2,none⟩=some (.string xd):=by rw [←hw1];simp
 have Qi:=Qa (fun b (hb:X b)=>brx_lt h hb)
 have H1:=Qa (h.below ma)
 have HP:=Qa (place_any H1.out xp)
 unfold RetW at HP
 have qa:=place_size (S:=S) (s:=xp)
 have HF:=Qa (show putF room S ⟨xp,xk,xd⟩=if (placeM S xp).2≠0 then none
 else if xk=1 then fileF room S (placeM S xp).1.1 (placeM S xp).1.2 xd
 else if xk=2 then makeF S (placeM S xp).1.1 (placeM S xp).1.2 2 ⟨#[]⟩
 else if xk=3 then makeF S (placeM S xp).1.1 (placeM S xp).1.2 3 xd
 else none from rfl)
 have Qg:=Qa (show ∀e,Pk S ⟨xp,xk,xd⟩ e↔((placeM S xp).2≠0→e=(placeM S xp).2) from fun e=>Iff.rfl)
 generalize putF room S ⟨xp,xk,xd⟩=pr at *
 generalize Pk S ⟨xp,xk,xd⟩=kk at *
 generalize placeM S xp=pm at *
 obtain ⟨⟨d,s⟩,pe⟩:=pm
 dsimp only at HP HF Qg qa hd
 have Qh:=Qa ma
 have Qc:=Qa (show ∀(err:Int) (S':BS) (W2 W:World),Below w.heap.size w W2→BrX w0 W P X S' room (T+2)→dn.Same X W2 W→((err=0∧pr=some S')∨(err≠0∧pr=none∧kk err))→PutE w0 w P room (T+2) X pr kk (.returned (.int .i64 err)) W from
  fun err S' W2 W hb a b c=>⟨err,S',rfl,a,same_trans (fun y hy=>hb.block y (Qi.out y hy)) b,c⟩)
 obtain ⟨g,hg⟩:∃g,w.heap.size=g:=⟨_,rfl⟩
 rw [hg] at t0 t1 t2
 clear h ma
 go_enter Tryz.func154,Tryz.ntmps154
 go_wp2_with fail
 refine HP.out.mono ?_
 rintro _ w2 ⟨rfl,hb2⟩
 have H2:=Qa (H1.out.below hb2)
 have Qd:=Qa (Qh.out.trans (hb2.mono Qh.out.size))
 have u1:=(hb2.cell (p:=⟨g,1,none⟩) (World.block_lt_of_cell? _ _ t1)).trans t1
 have u2:=(hb2.cell (p:=⟨g,2,none⟩) (World.block_lt_of_cell? _ _ t2)).trans t2
 clear hb2 HP t0 t1 t2 hw1
 by_cases e0:pe=0
 case neg =>
  have q0:(pe != 0)=true:=by simpa using e0
  rw [Jb e0] at HF
  go_wp2_with fail
  go_ret
  exact Qc.out pe S w2 w2 Qd.out (H2.out.up (by omega)) (fun _ _=>rfl) (.inr ⟨e0,HF.out,(Qg.out _).2 fun _=>rfl⟩)
 subst e0
 rw [Ja (fun e=>e rfl)] at HF
 have Qe:=Qa (show ∀e,kk e from fun e=>(Qg.out e).2 fun hn=>absurd (by first|rfl|trivial) hn)
 by_cases e1:xk=1
 ·subst e1
  rw [Jb rfl] at HF
  have Qf:=Qa (putFile_any H2.out hT d s xd qa hd kk Qe.out)
  rw [←HF.out] at Qf
  unfold PutE at Qf
  go_wp2_with fail
  refine Qf.out.mono ?_
  rintro _ w3 ⟨err,S',rfl,h3,hs3,hc⟩
  have HE:=Qa (Qc.out err S' w2 w3 Qd.out h3 hs3 hc)
  clear h3 hs3 hc Qf
  go_wp2_with fail
  go_ret
  exact HE.out
 have q1:(xk == 1)=false:=by simpa using e1
 rw [Ja e1] at HF
 by_cases e2:xk=2
 ·subst e2
  rw [Jb rfl] at HF
  have Qb:=Qa (cb.x_make H2.out (by omega) d s 2 ⟨#[]⟩ (by omega) (by decide))
  unfold makeF at HF
  obtain ⟨mk,hmk⟩:∃m,S.make d s 2 ⟨#[]⟩=m:=⟨_,rfl⟩
  rw [hmk] at Qb HF
  obtain ⟨⟨m1,m2⟩,S1⟩:=mk
  dsimp only at Qb HF
  clear hmk
  go_wp2_with fail
  refine Qb.out.mono ?_
  rintro _ w3 ⟨rfl,h3,hs3⟩
  have HE:=Qa (Qc.out m2 S1 w2 w3 Qd.out (h3.up (by omega)) hs3 (by
   by_cases e:m2=0
   ·exact .inl ⟨e,by rw [HF.out,Ja (fun hh=>hh e)]⟩
   ·exact .inr ⟨e,by rw [HF.out,Jb e],Qe.out _⟩))
  clear h3 hs3 Qb
  go_wp2_with fail
  go_ret
  exact HE.out
 have q2:(xk == 2)=false:=by simpa using e2
 rw [Ja e2] at HF
 by_cases e3:xk=3
 ·subst e3
  rw [Jb rfl] at HF
  have Qb:=Qa (cb.x_make H2.out (by omega) d s 3 xd (by omega) (by omega))
  unfold makeF at HF
  obtain ⟨mk,hmk⟩:∃m,S.make d s 3 xd=m:=⟨_,rfl⟩
  rw [hmk] at Qb HF
  obtain ⟨⟨m1,m2⟩,S1⟩:=mk
  dsimp only at Qb HF
  clear hmk
  go_wp2_with fail
  refine Qb.out.mono ?_
  rintro _ w3 ⟨rfl,h3,hs3⟩
  have HE:=Qa (Qc.out m2 S1 w2 w3 Qd.out (h3.up (by omega)) hs3 (by
   by_cases e:m2=0
   ·exact .inl ⟨e,by rw [HF.out,Ja (fun hh=>hh e)]⟩
   ·exact .inr ⟨e,by rw [HF.out,Jb e],Qe.out _⟩))
  clear h3 hs3 Qb
  go_wp2_with fail
  go_ret
  exact HE.out
 ·have q3:(xk == 3)=false:=by simpa using e3
  rw [Ja e3] at HF
  go_wp2_with fail
  go_ret
  exact Qc.out 22 S w2 w2 Qd.out (H2.out.up (by omega)) (fun _ _=>rfl) (.inr ⟨by decide,HF.out,Qe.out _⟩)
end fl
end Go.Proofs.YtgoddboicjfkcaaGreat
