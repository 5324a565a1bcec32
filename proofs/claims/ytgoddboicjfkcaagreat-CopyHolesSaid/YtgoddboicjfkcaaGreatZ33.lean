/- Part 33 of what is known of the program's functions and of the document's words: contracts, and the mathematics beneath them. -/
import Derived.Test.YtgoddboicjfkcaaGreatProg
import Derived.Test.YtgoddboicjfkcaaGreatZ32
import Derived.Test.YtgoddboicjfkcaaGreatZ28
import Derived.Test.YtgoddboicjfkcaaGreatZ30
import Derived.Defers
set_option linter.unusedVariables false
set_option linter.unusedSimpArgs false
set_option maxRecDepth 100000
set_option maxHeartbeats 8000000
namespace Go.Proofs.YtgoddboicjfkcaaGreat.cu
open Go.RowKit Go.Deep
open br (BS Ino Inv at_nat abE)
open cb (BrX RetW RetI No KB KD Res HB Stab NxR Same WrI Wz ReadI)
open bl (Pq Only U8 AB wr cut cutR)
open mg (Vx Nd Nv Nb R2 R3 bel_step bel_alloc kindV getV rootV set_below set2_below set3_below heap_set readN AllV statN targN)
theorem file_stat {w:World} {V P1 P2:Nat} {u l:Int} {S L:BS} {r1 r2:Nat} (h:Vx w V P1 P2 u l S L) (hS:Inv S r1) (hL:Inv L r2) {y:Nat} (h1:1≤y) (h2:y≤200) (hk:(L.ino y).kind=1) :
  Calls Tryz.prog 23 #[Pq V,Nv (0,(y:Int))] w (RetW w (.tuple #[.agg #[.int .i64 1,.int .i64 ((L.ino y).body.size:Int),.int .i64 (L.ino y).links],.int .i64 0])):=by
 refine (mg.stat_any h hS hL (0,(y:Int))).mono ?_
 rintro e w' ⟨ns,_,rfl,hb⟩
 have hky:L.kindOf (y:Int)=1:=by rw [cb.kind_of h1 h2];exact hk
 have hkv:kindV S L (0,(y:Int))=1:=by unfold mg.kindV;simp [hky]
 have hst:L.stat (y:Int)=((1,(L.ino y).body.size,(L.ino y).links),0):=by
  rw [cb.stat_of h1 h2 (by rw [hk];decide),hk]
  unfold br.Ino.sizeOf
  rw [hk];rfl
 refine ⟨?_,hb⟩
 have e1:statN S L (0,(y:Int)) (ns.length:Int)=((1,((L.ino y).body.size:Int),(L.ino y).links),0):=by
  unfold mg.statN
  rw [hkv,if_neg (by decide),if_neg (show ¬ ((0:Int),(y:Int)).1≠0 by simp),hst]
  rfl
 rw [e1]
theorem R3.put {w:World} {g:Nat} {x y z:Int} (h:R3 w g x y z) (a b d:Int):(((w.setCell ⟨g,0,none⟩ (.int .i64 a)).setCell ⟨g,1,none⟩ (.int .i64 b)).setCell ⟨g,2,none⟩ (.int .i64 d)).cell? ⟨g,1,none⟩=some (.int .i64 b):=by
 have ne:(⟨g,2,none⟩:Addr)≠⟨g,1,none⟩:=fun e=>by injection e with _ e;cases e
 have ne0:(⟨g,0,none⟩:Addr)≠⟨g,1,none⟩:=fun e=>by injection e with _ e;cases e
 rw [World.cell?_setCell_other _ _ _ _ ne]
 exact World.cell?_setCell_same' _ _ _ (by rw [World.cell?_setCell_other _ _ _ _ ne0,h.c1];rfl)
theorem fill_any {w0 w:World} {c:Cp} {S L:BS} {I r T:Nat} {M:List Res} {X:Nat→Prop} (h:Zs w0 w c S L r T M X) (i1:1≤I) (i2:I≤200) (hk:(S.ino I).kind=1) (hb:(S.ino I).body=abE)
  {y:Nat} (h1:1≤y) (h2:y≤200) (hky:(L.ino y).kind=1) :
  Calls Tryz.prog 174 #[Pq c.C,.int .i64 (I:Int),Nv (0,(y:Int))] w (FillE w0 w c S L I r (T+4098) M X (fun b'=>b'=copyB (L.ino y).body) (r<S.used+(copyB (L.ino y).body).n)):=by
 have ok:=h.good2.1.body y
 obtain ⟨w1,hw1⟩:∃ w1,w.alloc (.cells #[.int .i64 0,.int .i64 (y:Int)] 24)=w1:=⟨_,rfl⟩
 obtain ⟨g,hg⟩:∃ g,w.heap.size=g:=⟨_,rfl⟩
 have hb1:Below w.heap.size w w1:=by rw [← hw1];exact bel_alloc _ _
 have hz1:w1.heap.size=g+1:=by rw [← hw1,← hg,World.size_alloc]
 have HX1:=Lib.hid (h.box (Y:=fun b=>X b∨b=g) hb1 (fun b hb=>hb.imp id fun e=>by rw [e];omega) (.inl h.xC) (.inl h.xV))
 have HCV:=Lib.hid (And.intro h.xC h.xV)
 have HSX:=Lib.hid (same_below h hb1)
 have HG1:=Lib.hid (show Nb w1 g (0,(y:Int)) by rw [← hw1,← hg];exact Nb.new w 0 y)
 have HRD:=Lib.hid (fun W (hb:Below w1.heap.size w1 W)=>show Rd W c g 0 (y:Int) from ⟨(HX1.out.below hb).x.c1,(HG1.out.below hb).c0,(HG1.out.below hb).c1⟩)
 have HSTAT:=Lib.hid (fun W (hb:Below w1.heap.size w1 W)=>file_stat (HX1.out.below hb).vx (HX1.out.good1).1 (HX1.out.good2).1 h1 h2 hky)
 unfold RetW at HSTAT
 have HE:=Lib.hid (show ∀ (W:World) (er:Int) (b':AB) (T':Nat),T'≤T+4098→((er=0∧b'=copyB (L.ino y).body)∨(er=28∧r<S.used+(copyB (L.ino y).body).n))→Zs w0 W c (setB S I b') L r T' M X→Same X w W→FillE w0 w c S L I r (T+4098) M X (fun b'=>b'=copyB (L.ino y).body) (r<S.used+(copyB (L.ino y).body).n) (.returned (.int .i64 er)) W from
  fun W er b' T' hT a d k=>⟨er,b',rfl,a,d.up hT,k⟩)
 obtain ⟨PQ,hPQ⟩:∃ P,FillE w0 w c S L I r (T+4098) M X (fun b'=>b'=copyB (L.ino y).body) (r<S.used+(copyB (L.ino y).body).n)=P:=⟨_,rfl⟩
 rw [hPQ] at HE ⊢
 have HCHK:=Lib.hid (fun (W:World) (Y:Nat→Prop) (T' m:Nat) (b:AB) (hz:Zs w0 W c (setB S I b) L r T' M Y) (hm:16*m<(L.ino y).body.size) (hp:PB (L.ino y).body b m)=>chunk_any hz i1 i2 hk h1 h2 hky hm hp)
 unfold FillE at HCHK
 obtain ⟨BAD,hBAD⟩:∃ P,(r<S.used+(copyB (L.ino y).body).n)=P:=⟨_,rfl⟩
 simp only [hBAD] at HE HCHK
 clear hBAD
 have HP0:=Lib.hid (PB.zero (L.ino y).body)
 have HPL:=Lib.hid (fun (b:AB) (m:Nat) (hp:PB (L.ino y).body b m) (hm:(L.ino y).body.size≤16*m)=>hp.last ok hm)
 have HCT:=Lib.hid (fun (b:AB)=>setB_cut (b:=b) i1 i2 hk ((L.ino y).body.size:Int))
 have HS0:=Lib.hid (setB_abE hb)
 have hsz:=ok.size
 obtain ⟨lk,hlk⟩:∃ x,(L.ino y).links=x:=⟨_,rfl⟩
 rw [hlk] at HSTAT
 obtain ⟨ka,hka⟩:∃ x:Int,(1:Int)=x:=⟨_,rfl⟩
 rw [hka] at HSTAT
 clear hka
 generalize (L.ino y).body=B at *
 obtain ⟨sz,hsze⟩:∃ x,B.size=x:=⟨_,rfl⟩
 rw [hsze] at HSTAT HCHK HPL HCT hsz
 have HCR:=Lib.hid (show cutR (sz:Int)=0 by unfold bl.cutR;rw [if_neg (by omega),if_neg (by omega)])
 generalize PB B=PP at *
 generalize copyB B=CBB at *
 clear h hb1 hPQ hky ok hb hlk hz1
 obtain ⟨cC,hcC⟩:∃ x,x=c.C:=⟨_,rfl⟩
 rw [← hcC]
 go_enter Tryz.func174,Tryz.ntmps174
 go_upto_region 1 with fail
 try rw [hw1]
 try rw [hg]
 clear hw1
 subst hcC
 go_cut [7,8] from 12 to 46 (fun va vb wx=>∃ G,va=.pointer (some ⟨G,0,none⟩)∧vb=.int .i64 0∧Hid (Below w1.heap.size w1 wx)∧Hid (wx.cell? ⟨G,1,none⟩=some (.int .i64 (sz:Int))))
 case first =>
  have S0:=HRD.out w1 (Below.refl _ _)
  have HAB:=Lib.hid (bel_alloc w1 (.cells #[.int .i64 0,.int .i64 0,.int .i64 0] 47))
  have HAD:=Lib.hid (bel_step HAB.out (Below.refl _ (w1.alloc (.cells #[.int .i64 0,.int .i64 0,.int .i64 0] 47))).drew)
  have SA:=HRD.out _ HAB.out
  have HGd:=Lib.hid (HSTAT.out w1.drew (Below.refl w1.heap.size w1).drew)
  have HGA:=Lib.hid (HSTAT.out (w1.alloc (.cells #[.int .i64 0,.int .i64 0,.int .i64 0] 47)).drew HAD.out)
  have HZA:=Lib.hid (show R3 (w1.alloc (.cells #[.int .i64 0,.int .i64 0,.int .i64 0] 47)).drew w1.heap.size 0 0 0 from (R3.new w1 0 0 0).below (Below.refl _ _).drew)
  clear HX1 HSTAT
  go_region_held3 (fun W=>W.cell? ⟨c.C,1,none⟩=some (Pq c.V)∧W.cell? ⟨g,0,none⟩=some (.int .i64 0)∧W.cell? ⟨g,1,none⟩=some (.int .i64 (y:Int)))
   (first|with_reducible exact S0|with_reducible exact S5|with_reducible exact SA|with_reducible exact ST|assumption|go_keep)
   (first
    | (go_at_call 23;((with_reducible refine HGd.out.mono ?_);rintro _ w5 ⟨rfl,hb5⟩;have HB5:=Lib.hid (bel_step (Below.refl w1.heap.size w1).drew hb5);have S5:=HRD.out w5 HB5.out;have HF5:=Lib.hid (show ∃ G,w5.heap.size=G∧Below w1.heap.size w1 (w5.alloc (.cells #[.int .i64 ka,.int .i64 (sz:Int),.int .i64 lk] 47))∧(w5.alloc (.cells #[.int .i64 ka,.int .i64 (sz:Int),.int .i64 lk] 47)).cell? ⟨G,1,none⟩=some (.int .i64 (sz:Int)) from ⟨_,rfl,bel_step HB5.out (bel_alloc _ _),(R3.new w5 ka sz lk).c1⟩);clear hb5))
    | (go_at_call 23;((with_reducible refine HGA.out.mono ?_);rintro _ w5 ⟨rfl,hb5⟩;have HB5:=Lib.hid (bel_step HAD.out hb5);have S5:=HRD.out w5 HB5.out;have HZ5:=Lib.hid (HZA.out.below hb5);obtain ⟨z0,z1,z2,f0,f1,f2⟩:=HZ5.out;have HBT:=Lib.hid (show Below w1.heap.size w1 (((w5.setCell ⟨w1.heap.size,0,none⟩ (.int .i64 ka)).setCell ⟨w1.heap.size,1,none⟩ (.int .i64 (sz:Int))).setCell ⟨w1.heap.size,2,none⟩ (.int .i64 lk)) from set3_below HB5.out (Nat.le_refl _) _ _ _);have ST:=HRD.out _ HBT.out;have HFG:=Lib.hid (R3.put HZ5.out ka sz lk);clear hb5)))
  all_goals
   go_wp2_with fail
   go_meet
   case rel=>first|exact ⟨_,rfl,rfl,HBT,HFG⟩|(obtain ⟨G,hG,h1,h2⟩:=HF5.out;subst hG;exact ⟨_,rfl,rfl,Lib.hid h1,Lib.hid h2⟩)
 case rest =>
  obtain ⟨G,rfl,rfl,HBX,HGZ⟩:=hcut
  obtain ⟨wx,rfl⟩:∃ x,x=wc:=⟨_,rfl⟩
  have HXX:=Lib.hid (show Zs w0 wx c (setB S I abE) L r T M (fun b=>X b∨b=g) by rw [HS0.out];exact HX1.out.below HBX.out)
  have HSY:=Lib.hid (show Same X w wx from same_trans HSX.out (fun b hb=>HBX.out.block b (HX1.out.lt (.inl hb))))
  have HNX:=Lib.hid (HG1.out.below HBX.out)
  have s1:=HGZ.out
  have hsz0:(0:Int)≤(sz:Int):=by omega
  clear HX1 HSX HG1 HRD HSTAT HBX HGZ HS0
  go_upto_region 6 with fail
  clear s1
  go_loopg [10] (sz+1) (fun gh s10 wr=>∃ (m T':Nat) (b:AB),gh+m=sz+1∧T'≤T+m∧m≤4096∧s10=.int .i64 ((16*m:Nat):Int)∧Hid (PP b m)∧Hid (Zs w0 wr c (setB S I b) L r T' M (fun b=>X b∨b=g))∧Hid (Nb wr g (0,(y:Int)))∧Hid (Same X w wr))
  case atStart=>exact ⟨0,T,abE,by omega,by omega,by omega,rfl,HP0,HXX,HNX,HSY⟩
  case round =>
   obtain ⟨m,T',b,hgj,hT',hm4,rfl,HPM,HXM,HNM,HSM⟩:=hrel
   obtain ⟨of,hof⟩:∃ z,((16*m:Nat):Int)=z:=⟨_,rfl⟩
   by_cases hj:16*m<sz
   ·have HC:=Lib.hid (HCHK.out wr _ T' m b HXM.out hj HPM.out)
    rw [hof] at HC ⊢
    obtain ⟨k0,k1⟩:=HNM.out
    dsimp only at k0 k1
    have hlt:of<(sz:Int):=by omega
    go_wp2_with fail
    refine HC.out.mono ?_
    rintro _ w5 ⟨er,b5,rfl,her,hz5,hs5⟩
    have HX5:=Lib.hid hz5
    have HN5:=Lib.hid (HNM.out.same (hs5 g (.inr rfl)))
    have HS5:=Lib.hid (same_trans HSM.out fun b hb=>hs5 b (.inl hb))
    clear hz5 hs5 k0 k1 HXM HNM HSM HC
    rcases her with ⟨rfl,hp5⟩|⟨rfl,hbad⟩
    ·have HP5:=Lib.hid hp5
     have ho1:0≤of:=by omega
     have ho2:of≤70000:=by omega
     clear hp5
     go_wp2_with fail
     go_roundg (gk - 1)
     case measure=>omega
     case rel=>exact ⟨m+1,T'+1,b5,by omega,by omega,by omega,by go_num,HP5,HX5,HN5,HS5⟩
    ·have HF:=Lib.hid (HE.out w5 28 b5 (T'+1) (by omega) (.inr ⟨rfl,hbad⟩) (HX5.out.sub (fun b hb=>.inl hb) HCV.out.1 HCV.out.2) HS5.out)
     go_wp2_with fail
     exact HF.out
   ·have hlt:¬ of<(sz:Int):=by omega
    rw [hof]
    have HM:=Lib.hid (HXM.out.cut (I:Int) (sz:Int))
    rw [HCT.out b] at HM
    dsimp only at HM
    rw [HPL.out b m HPM.out (by omega),HCR.out] at HM
    have k0:=HXM.out.x.c0
    go_wp2_with fail
    refine HM.out.mono ?_
    rintro _ w5 ⟨rfl,hz5,hs5⟩
    have HF:=Lib.hid (HE.out w5 0 CBB (T'+1) (by omega) (.inl ⟨rfl,rfl⟩) (hz5.sub (fun b hb=>.inl hb) HCV.out.1 HCV.out.2) (same_trans HSM.out fun b hb=>hs5 b (.inl hb)))
    clear hz5 hs5
    go_wp2_with fail
    exact HF.out
end Go.Proofs.YtgoddboicjfkcaaGreat.cu
namespace Go.Proofs.YtgoddboicjfkcaaGreat.cu
open Go.RowKit
open dn (En lget lset ldel nerr dotB Sorted lessB)
open br (BS Ino Inv at_nat upd_same upd_other badKind vacant_ok free_spec abE nameE)
open cb (newI)
open mg (Nd opq kindV lstV belV seenV pairV getV rootV kind_zero get_kind get_zero)
section
variable {S S0 S2 S' L:BS} {room room2 D n:Nat} {s:ByteArray} {x:Ino}
theorem kind_at {i:Int} (h:S.kindOf i≠0):∃ I:Nat,i=(I:Int)∧1≤I∧I≤200∧S.kindOf i=(S.ino I).kind:=by
 unfold BS.kindOf at h ⊢
 cases e:S.isI i with
 | false=>rw [e] at h;exact absurd rfl h
 | true =>
  obtain ⟨I,rfl,h1,h2,h3⟩:=br.isI_yes e
  exact ⟨I,rfl,h1,h2,by simp [at_nat]⟩
theorem get_lget {d:Int} {t:ByteArray} (hI:Inv S room) (hk:S.kindOf d=2) (h:(S.get d t).1=0):∃ D:Nat,d=(D:Int)∧1≤D∧D≤200∧(S.ino D).kind=2∧lget t (S.ino D).dir=none:=by
 obtain ⟨D,rfl,h1,h2,h3⟩:=kind_at (S:=S) (i:=d) (by rw [hk];decide)
 refine ⟨D,rfl,h1,h2,h3▸hk,?_⟩
 cases e:lget t (S.ino D).dir with
 | none=>rfl
 | some v =>
  rw [cb.get_of h1 h2 (h3▸hk) e] at h
  obtain ⟨_,_,I,e2,i1,_⟩:=hI.lead e
  dsimp only at h
  omega
theorem name_ok {d:Int} {t:ByteArray} (hI:Inv S room) (h:(S.get d t).1≠0):nameE t=0:=by
 have h2:(S.get d t).2=0:=Classical.byContradiction fun e=>h ((get_zero hI d t).2 e)
 obtain ⟨D,rfl,_,_,_,h5⟩:=br.get_ok h2
 have:=hI.good D _ ((dn.lget_some (hI.sorted D)).1 h5)
 exact cb.nameE_yes ⟨this.1,this.2.1⟩
theorem vac_of {d:Int} {t:ByteArray} (hI:Inv S room) (hk:S.kindOf d=2) (hl:(S.at d).links≠0) (h:(S.get d t).1=0) (hn:nameE t=0):S.vacant d t=0:=by
 obtain ⟨D,rfl,h1,h2,h3,h4⟩:=get_lget hI hk h
 rw [at_nat] at hl
 unfold BS.vacant
 rw [cb.dirE_yes h1 h2 h3 hl,hn,at_nat,h4]
 simp
theorem getV_low {a:Nd} {t:ByteArray} {y:Int} (hI:Inv S room) (h:getV S L a t=((0,y),0)):(S.get a.1 t).1=0∧(L.get (belV S a) t).1=y∧y≠0:=by
 unfold mg.getV at h
 by_cases h1:lstV S L a=0
 case neg=>rw [if_pos h1] at h;exact absurd (congrArg Prod.snd h) h1
 rw [if_neg (by simpa using h1)] at h
 by_cases h2:seenV S L (pairV S L a t)=(0,0)
 ·rw [if_pos h2] at h;exact absurd (show (2:Int)=0 from congrArg Prod.snd h) (by decide)
 rw [if_neg h2] at h
 have h3:=congrArg Prod.fst h
 dsimp only at h3
 have e1:(pairV S L a t).1=(S.get a.1 t).1:=rfl
 have e2:(pairV S L a t).2=(L.get (belV S a) t).1:=rfl
 rw [← e1,← e2]
 have hy:y≠0:=fun e=>h2 (by rw [h3,e])
 generalize hp:pairV S L a t=p at *
 have hk:S.kindOf p.1=0↔p.1=0:=by rw [e1];exact get_kind hI _ _
 unfold mg.seenV at h3
 by_cases q0:S.kindOf p.1=0
 ·rw [if_pos q0] at h3
  refine ⟨hk.1 q0,?_,hy⟩
  split at h3
  ·exact absurd (congrArg Prod.snd h3).symm hy
  ·exact congrArg Prod.snd h3
 rw [if_neg q0] at h3
 exfalso
 split at h3
 ·exact absurd (congrArg Prod.snd h3).symm hy
 ·split at h3
  ·exact q0 (hk.2 (congrArg Prod.fst h3))
  ·exact q0 (hk.2 (congrArg Prod.fst h3))
theorem kindV_low {y:Int}:kindV S L (0,y)=if L.kindOf y=4 then 0 else L.kindOf y:=by unfold mg.kindV;simp
theorem got_kind {a c:Nd} {t:ByteArray} (hI:Inv S room) (hL:Inv L room2) (h:getV S L a t=(c,0)):kindV S L c≠0:=by
 unfold mg.getV at h
 by_cases h1:lstV S L a=0
 case neg=>rw [if_pos h1] at h;exact absurd (congrArg Prod.snd h) h1
 rw [if_neg (by simpa using h1)] at h
 by_cases h2:seenV S L (pairV S L a t)=(0,0)
 ·rw [if_pos h2] at h;exact absurd (show (2:Int)=0 from congrArg Prod.snd h) (by decide)
 rw [if_neg h2] at h
 have h3:=congrArg Prod.fst h
 dsimp only at h3
 have hkL:=get_kind hL (belV S a) t
 have hkU:=get_kind hI a.1 t
 have e1:(pairV S L a t).1=(S.get a.1 t).1:=rfl
 have e2:(pairV S L a t).2=(L.get (belV S a) t).1:=rfl
 rw [← e1] at hkU
 rw [← e2] at hkL
 generalize pairV S L a t=p at *
 have hU:∀ z,S.kindOf p.1≠0→S.kindOf p.1≠4→kindV S L (p.1,z)≠0:=fun z q0 q4=>by
  unfold mg.kindV
  dsimp only
  rw [if_pos (fun e=>q0 (hkU.2 e)),if_neg q4];exact q0
 rw [← h3]
 unfold mg.seenV at h2 ⊢
 by_cases q0:S.kindOf p.1=0
 ·rw [if_pos q0] at h2 ⊢
  by_cases q4:L.kindOf p.2=4
  ·rw [if_pos q4] at h2;exact absurd rfl h2
  ·rw [if_neg q4] at h2 ⊢
   rw [kindV_low,if_neg q4]
   exact fun e=>h2 (by rw [hkL.1 e])
 rw [if_neg q0] at h2 ⊢
 by_cases q4:S.kindOf p.1=4
 ·rw [if_pos q4] at h2;exact absurd rfl h2
 rw [if_neg q4] at h2 ⊢
 split
 ·exact hU p.2 q0 q4
 ·exact hU 0 q0 q4
theorem got_links {d:Int} {t:ByteArray} (hI:Inv S room) (h:(S.get d t).1≠0):(S.at (S.get d t).1).links≠0:=by
 have h2:(S.get d t).2=0:=Classical.byContradiction fun e=>h ((get_zero hI d t).2 e)
 obtain ⟨D,rfl,_,_,_,h5⟩:=br.get_ok h2
 obtain ⟨_,_,I,e,_,_,_,i4,_⟩:=hI.lead h5
 rw [e,at_nat]
 omega
theorem getV_up {a c:Nd} {t:ByteArray} (h:getV S L a t=(c,0)) (hc:c.1≠0):(S.get a.1 t).1=c.1:=by
 unfold mg.getV at h
 by_cases h1:lstV S L a=0
 case neg=>rw [if_pos h1] at h;exact absurd (congrArg Prod.snd h) h1
 rw [if_neg (by simpa using h1)] at h
 by_cases h2:seenV S L (pairV S L a t)=(0,0)
 ·rw [if_pos h2] at h;exact absurd (show (2:Int)=0 from congrArg Prod.snd h) (by decide)
 rw [if_neg h2] at h
 have h3:=congrArg Prod.fst h
 dsimp only at h3
 have e1:(pairV S L a t).1=(S.get a.1 t).1:=rfl
 rw [← e1,← h3]
 rw [← h3] at hc
 generalize pairV S L a t=p at *
 unfold mg.seenV at hc ⊢
 split
 ·rename_i q0
  rw [if_pos q0] at hc
  split at hc <;> exact absurd rfl hc
 ·rename_i q0
  rw [if_neg q0] at hc
  split
  ·rename_i q4;rw [if_pos q4] at hc;exact absurd rfl hc
  ·split <;> rfl
theorem new_bare {d:Int} {D n:Nat} {t:ByteArray} (hm:Mk S S2 D n t (newI 2 d ⟨#[]⟩)):(∀ t,(S2.get (n:Int) t).1=0)∧opq S2 (n:Int)=false∧(S2.at (n:Int)).links≠0 :=
 ⟨hm.getN rfl,hm.opqN (by show (2:Int)≠0;decide) rfl,by rw [at_nat,hm.eN];show (1:Int)≠0;decide⟩
end
end Go.Proofs.YtgoddboicjfkcaaGreat.cu
namespace Go.Proofs.YtgoddboicjfkcaaGreat.cu
open Go.RowKit
open dn (En lget lset ldel nerr dotB Sorted)
open br (BS Ino Inv at_nat upd_same upd_other abE nameE halfD)
open bl (AB)
open cb (newI MadeI)
def fileI (b:AB):Ino:=⟨1,1,0,0,0,b,[],⟨#[]⟩⟩
section
variable {S S1:BS} {r W n T:Nat} {s u:ByteArray} {b:AB} {d:Int}
theorem Mk.made (h:Mk S S1 W n s (newI 1 d ⟨#[]⟩)) (b:AB):MadeI S (setB S1 n b) W n s 1:=by
 have eN:(setB S1 n b).ino n={ S1.ino n with body:=b }:=setB_at _ _ _
 refine ⟨h.d1,h.d2,h.hD,h.hl,h.hn,h.n1,h.n2,h.hz,h.ne,fun k h1 h2=>?_,?_,?_,?_⟩
 ·rw [setB_ino _ _ _ h2,h.oth k h1 h2]
 ·rw [setB_ino _ _ _ (fun e=>h.ne e.symm),h.eD]
 ·rw [eN,h.eN];exact ⟨rfl,rfl,rfl,rfl⟩
 ·rw [eN]
  show S1.used+b.n=S.used+b.n
  rw [h.us]
  show S.used+abE.n+b.n=_
  rw [br.abE_n]
  omega
theorem undo_same (hG:br.Good S r) (h:Mk S S1 W n s (newI 1 d ⟨#[]⟩)) (b:AB):(setB S1 n b).unlink (W:Int) s=(0,S):=cb.back_file hG (h.made b) (by decide)
theorem named_of (hG:br.Good S r) (h:Mk S S1 W n s (newI 1 d ⟨#[]⟩)) (b:AB) {t:Int} (hv:S.vacant t u=0) (hne:t≠(W:Int)) :
  ∃ T:Nat,t=(T:Int)∧((setB S1 n b).rename (W:Int) s t u).1=0∧Mk S ((setB S1 n b).rename (W:Int) s t u).2 T n u (fileI b):=by
 obtain ⟨T,rfl,t1,t2,tk,tl,tg,ts⟩:=br.vacant_ok hv
 have hTW:T≠W:=fun e=>hne (by rw [e])
 have hTn:T≠n:=fun e=>by rw [e,h.hz] at tk;cases tk
 have hWn:W≠n:=fun e=>h.ne e.symm
 obtain ⟨S2,hS2⟩:∃ S2,setB S1 n b=S2:=⟨_,rfl⟩
 have eN:S2.ino n=fileI b:=by rw [← hS2,setB_at,h.eN];rfl
 have eW:S2.ino W={ S.ino W with dir:=lset s (n:Int) (S.ino W).dir }:=by rw [← hS2,setB_ino _ _ _ hWn,h.eD]
 have eO:∀ k,k≠W→k≠n→S2.ino k=S.ino k:=fun k a c=>by rw [← hS2,setB_ino _ _ _ c,h.oth k a c]
 have eU:S2.used=S.used+b.n:=by
  rw [← hS2]
  show S1.used+b.n=S.used+b.n
  rw [h.us]
  show S.used+abE.n+b.n=_
  rw [br.abE_n];omega
 rw [hS2]
 have eT:S2.ino T=S.ino T:=eO T hTW hTn
 have g1:S2.dirE (W:Int) true=0:=cb.dirE_yes h.d1 h.d2 (by rw [eW];exact h.hD) (by rw [eW];exact h.hl)
 have hl:lget s (S2.ino W).dir=some (n:Int):=by rw [eW];exact br.lget_lset (hG.1.sorted W)
 have g2:S2.get (W:Int) s=((n:Int),0):=cb.get_of h.d1 h.d2 (by rw [eW];exact h.hD) hl
 have g3:S2.dirE (T:Int) true=0:=cb.dirE_yes t1 t2 (by rw [eT];exact tk) (by rw [eT];exact tl)
 have g4:nameE u=0:=cb.nameE_yes ts
 have er:S2.rename (W:Int) s (T:Int) u=(0,S2.move (W:Int) s (T:Int) u (n:Int)):=by
  unfold BS.rename
  rw [if_neg (by simpa using g1),g2]
  dsimp only
  rw [if_neg (by decide),if_neg (by simpa using g3),if_neg (by simpa using g4),at_nat,eN,if_neg (fun e=>absurd (show (1:Int)=2 from e.1) (by decide)),at_nat,eT,tg]
 have hm:=br.move_moved (S:=S2) (D:=W) (T:=T) (I:=n) s u (fun e=>hWn e.symm) (fun e=>hTn e.symm)
 rw [er]
 generalize S2.move (W:Int) s (T:Int) u (n:Int)=S3 at *
 have hh:∀ k,k≠W→halfD S2 W s k=(S2.ino k).dir:=fun k e=>if_neg e
 have hW:halfD S2 W s W=(S.ino W).dir:=by
  unfold br.halfD
  rw [if_pos rfl,eW]
  exact br.ldel_lset (hG.1.sorted W) h.hn
 have ext:∀ {x z:Ino},x.kind=z.kind→x.links=z.links→x.holds=z.holds→x.marks=z.marks→x.parent=z.parent→x.body=z.body→x.dir=z.dir→x.target=z.target→x=z:=by
  intro x z a1 a2 a3 a4 a5 a6 a7 a8
  cases x;cases z;simp_all
 have hpar:∀ k,(S3.ino k).parent=(S2.ino k).parent:=fun k=>by
  rw [hm.parent,if_neg (fun e=>by have:=e.2;rw [eN] at this;exact absurd (show (1:Int)=2 from this) (by decide))]
 refine ⟨T,rfl,rfl,⟨t1,t2,tk,tl,tg,h.n1,h.n2,h.hz,fun e=>hTn e.symm,fun k k1 k2=>?_,?_,?_,?_⟩⟩
 ·by_cases e:k=W
  ·subst e
   refine ext ?_ ?_ ?_ ?_ ?_ ?_ ?_ ?_
   ·rw [hm.kind,eW]
   ·rw [hm.links,eW]
   ·rw [hm.holds,eW]
   ·rw [hm.marks,eW]
   ·rw [hpar,eW]
   ·rw [hm.body,eW]
   ·rw [hm.dir,if_neg k1,hW]
   ·rw [hm.target,eW]
  ·have e2:=eO k e k2
   refine ext ?_ ?_ ?_ ?_ ?_ ?_ ?_ ?_
   ·rw [hm.kind,e2]
   ·rw [hm.links,e2]
   ·rw [hm.holds,e2]
   ·rw [hm.marks,e2]
   ·rw [hpar,e2]
   ·rw [hm.body,e2]
   ·rw [hm.dir,if_neg k1,hh k e,e2]
   ·rw [hm.target,e2]
 ·refine ext ?_ ?_ ?_ ?_ ?_ ?_ ?_ ?_
  ·rw [hm.kind,eT]
  ·rw [hm.links,eT]
  ·rw [hm.holds,eT]
  ·rw [hm.marks,eT]
  ·rw [hpar,eT]
  ·rw [hm.body,eT]
  ·rw [hm.dir,if_pos rfl,hh T hTW,eT]
  ·rw [hm.target,eT]
 ·refine ext ?_ ?_ ?_ ?_ ?_ ?_ ?_ ?_
  ·rw [hm.kind,eN]
  ·rw [hm.links,eN]
  ·rw [hm.holds,eN]
  ·rw [hm.marks,eN]
  ·rw [hpar,eN]
  ·rw [hm.body,eN]
  ·rw [hm.dir,if_neg (fun e=>hTn e.symm),hh n (fun e=>hWn e.symm),eN]
  ·rw [hm.target,eN]
 ·rw [hm.used,eU];rfl
end
end Go.Proofs.YtgoddboicjfkcaaGreat.cu
namespace Go.Proofs.YtgoddboicjfkcaaGreat.cu
open Go.RowKit
open dn (En lget lset ldel nerr dotB Sorted)
open br (BS Ino Inv at_nat upd_same upd_other abE nameE badKind)
open bl (AB)
open cb (newI)
open mg (Nd opq kindV getV rootV belV)
def draft:ByteArray:=⟨#[99]⟩
structure Out (S:BS) (W:Nat):Prop where
 w1:1≤W
 w2:W≤200
 kind:(S.ino W).kind=2
 par:(S.ino W).parent=1
 ne:W≠1
section
variable {S S2 S' L:BS} {room room2 D n W:Nat} {s:ByteArray} {x:Ino}
theorem Mk.out (h:Mk S S2 D n s x) (ho:Out S W):Out S2 W:=by
 have hn:W≠n:=fun e=>by have:=ho.kind;rw [e,h.hz] at this;cases this
 have e:=h.at_kind (i:=(W:Int)) (fun e=>hn (Int.ofNat_inj.1 e))
 rw [at_nat,at_nat] at e
 exact ⟨ho.w1,ho.w2,e.1.trans ho.kind,e.2.2.2.2.2.trans ho.par,ho.ne⟩
theorem child_out (hI:Inv S room) (ho:Out S W) {d:Int} {t:ByteArray} (h1:d≠1) (hg:(S.get d t).1≠0):(S.get d t).1≠1∧(S.get d t).1≠(W:Int):=by
 have h2:(S.get d t).2=0:=Classical.byContradiction fun e=>hg ((mg.get_zero hI d t).2 e)
 obtain ⟨D,rfl,_,_,_,h5⟩:=br.get_ok h2
 obtain ⟨_,_,I,e,_,_,i3,_,_⟩:=hI.lead h5
 rw [e] at h5 ⊢
 refine ⟨fun e=>i3 (by omega),fun e2=>?_⟩
 have e3:I=W:=Int.ofNat_inj.1 e2
 subst e3
 have:=hI.up D _ ((dn.lget_some (hI.sorted D)).1 h5) (by rw [at_nat];exact ho.kind)
 rw [at_nat,ho.par] at this
 exact h1 this.symm
theorem desc_out (hL:Inv L room2):∀ (p:List ByteArray) {S:BS} {d:Int} {a:Nd},br.Good S room→a.1=d→S.kindOf d=2→(S.at d).links≠0→d≠1→d≠(W:Int)→Out S W→(descF L S d a p).1.2=0 →
    ((descF L S d a p).2.at (descF L S d a p).1.1.1).links≠0∧(descF L S d a p).1.1.1≠1∧(descF L S d a p).1.1.1≠(W:Int)∧Out (descF L S d a p).2 W
  | [],S,d,a,hG,hd,hk,hl,h1,h2,ho,h=>⟨hl,h1,h2,ho⟩
  | t::p,S,d,a,hG,hd,hk,hl,h1,h2,ho,h=>by
    rw [descF_cons] at h ⊢
    by_cases h0:(enterF S L d a t).1.2=0
    case neg=>rw [if_pos h0] at h;exact absurd h h0
    rw [if_neg (by simpa using h0)] at h ⊢
    obtain ⟨g1,g2,g3,g4,g5,g6⟩:=enter_ok hG hd hk h0
    have hn:=kind_ne g2
    rcases g6 with ⟨a1,a2⟩|⟨a1,a2,D,n,rfl,a4,a5⟩
    · rw [a2] at g1 g2 h ⊢
      have h9:=getV_up a1 hn
      have hl2:=got_links (S:=S) (d:=a.1) (t:=t) hG.1 (by rw [h9];exact hn)
      have hc:=child_out hG.1 ho (d:=a.1) (t:=t) (by rw [hd];exact h1) (by rw [h9];exact hn)
      rw [h9] at hl2 hc
      exact desc_out hL p g1 rfl g2 hl2 hc.1 hc.2 ho h
    · have hb:=(new_bare a5).2.2
      have hn1:(n:Int)≠1:=fun e=>by have:n=1:=(by omega);have h3:=a5.hz;rw [this,hG.1.root.1] at h3;cases h3
      have hnW:(n:Int)≠(W:Int):=fun e=>by have h3:=a5.hz;rw [Int.ofNat_inj.1 e,ho.kind] at h3;cases h3
      exact desc_out hL p g1 rfl g2 (by rw [a4];exact hb) (by rw [a4];exact hn1) (by rw [a4];exact hnW) (a5.out ho) h
theorem low_seen (hG:br.Good S room) (hL:br.Good L room2) {d:Int} {a:Nd} {t:ByteArray} {y:Int} (hd:a.1=d) (hk:S.kindOf d=2) (hl:(S.at d).links≠0) (h:getV S L a t=((0,y),0)) :
  ∃ Y:Nat,y=(Y:Int)∧1≤Y∧Y≤200∧(L.ino Y).kind=kindV S L (0,y)∧S.vacant d t=0:=by
 obtain ⟨g1,g2,g3⟩:=getV_low hG.1 h
 have hk0:=got_kind hG.1 hL.1 h
 have hkl:kindV S L (0,y)=L.kindOf y:=by
  rw [kindV_low] at hk0 ⊢
  split
  ·rename_i e;rw [if_pos e] at hk0;exact absurd rfl hk0
  ·rfl
 rw [hkl] at hk0 ⊢
 obtain ⟨Y,rfl,y1,y2,y3⟩:=kind_at hk0
 rw [hd] at g1
 exact ⟨Y,rfl,y1,y2,y3.symm,vac_of hG.1 hk hl g1 (name_ok hL.1 (by rw [g2];exact g3))⟩
def UpR (r:Nat) (S L:BS) (u l wk:Int) (names:List ByteArray) (v er:Int) (S':BS):Prop :=
 (names=[]∧v=0∧er=22∧S'=S)∨∃ (p:List ByteArray) (t:ByteArray) (d:Int) (a:Nd) (e1:Int) (S1:BS),names=p++[t]∧descF L S u (rootV S L u l) p=(((d,a),e1),S1) ∧
  ((e1≠0∧v=0∧er=e1∧S'=S1) ∨
   (e1=0∧(getV S1 L a t).2≠0∧v=0∧er=(getV S1 L a t).2∧S'=S1) ∨
   (e1=0∧(getV S1 L a t).2=0∧kindV S1 L (getV S1 L a t).1=2∧∃ x,descF L S1 u (rootV S1 L u l) names=(((v,x),er),S')) ∨
   (e1=0∧(getV S1 L a t).2=0∧kindV S1 L (getV S1 L a t).1≠2∧(getV S1 L a t).1.1≠0∧v=(getV S1 L a t).1.1∧er=0∧S'=S1) ∨
   (∃ Y:Nat,e1=0∧getV S1 L a t=((0,(Y:Int)),0)∧1≤Y∧Y≤200∧(L.ino Y).kind=3∧S1.vacant d t=0∧S1.make d t 3 (L.ino Y).target=((v,er),S')) ∨
   (∃ Y:Nat,e1=0∧getV S1 L a t=((0,(Y:Int)),0)∧1≤Y∧Y≤200∧(L.ino Y).kind=1∧S1.vacant d t=0 ∧
    ((er=0∧∃ D n:Nat,d=(D:Int)∧v=(n:Int)∧Mk S1 S' D n t (fileI (copyB (L.ino Y).body)))∨(er≠0∧v=0∧S'=S1∧((er=28∧r<S1.used+(copyB (L.ino Y).body).n)∨er=(S1.make wk draft 1 ⟨#[]⟩).1.2)))))
end
end Go.Proofs.YtgoddboicjfkcaaGreat.cu
namespace Go.Proofs.YtgoddboicjfkcaaGreat.cu
open Go.RowKit Go.Deep
open br (BS Ino Inv at_nat abE)
open cb (BrX RetW RetI No KB KD Res HB Stab NxR Same WrI Wz ReadI)
open bl (Pq Only U8 AB wr cut cutR)
open mg (Vx Nd Nv Nb R2 R3 bel_step bel_alloc kindV getV rootV set_below set2_below set3_below heap_set readN AllV statN targN)
theorem link_any {w0 w:World} {c:Cp} {S L:BS} {r T:Nat} {M:List Res} {X:Nat→Prop} (h:Zs w0 w c S L r T M X) (hT:T≤800000) {y:Nat} (h1:1≤y) (h2:y≤200) (hky:(L.ino y).kind=3) (d:Int) (s:ByteArray) (hs:s.size≤9223372036854775807) :
  Calls Tryz.prog 121 #[Pq c.C,Nv (0,(y:Int)),.int .i64 d,.string s] w (ChainE w0 w c L r (T+1) M X (S.make d s 3 (L.ino y).target).1.1 (S.make d s 3 (L.ino y).target).1.2 (S.make d s 3 (L.ino y).target).2):=by
 obtain ⟨w1,hw1⟩:∃ w1,w.alloc (.cells #[.int .i64 0,.int .i64 (y:Int)] 24)=w1:=⟨_,rfl⟩
 obtain ⟨g,hg⟩:∃ g,w.heap.size=g:=⟨_,rfl⟩
 have hb1:Below w.heap.size w w1:=by rw [← hw1];exact bel_alloc _ _
 have HX1:=Lib.hid (h.below hb1)
 have HSX:=Lib.hid (same_below h hb1)
 have HG1:=Lib.hid (show Nb w1 g (0,(y:Int)) by rw [← hw1,← hg];exact Nb.new w 0 y)
 have htg:targN S L (0,(y:Int))=((L.ino y).target,0):=by
  have hk:L.kindOf (y:Int)=3:=by rw [cb.kind_of h1 h2];exact hky
  have hkv:kindV S L (0,(y:Int))=3:=by unfold mg.kindV;simp [hk]
  unfold mg.targN
  rw [hkv,if_neg (by decide),if_neg (show ¬ ((0:Int),(y:Int)).1≠0 by simp)]
  unfold BS.targetOf
  rw [cb.isI_of h1 h2 (by rw [hky];decide),at_nat,hky]
  rfl
 have HTG:=Lib.hid (mg.target_any HX1.out.drew.vx (0,(y:Int)))
 rw [htg] at HTG
 unfold RetW at HTG
 dsimp only at HTG
 have htz:=h.good2.1.target y
 obtain ⟨tg,htge⟩:∃ t,(L.ino y).target=t:=⟨_,rfl⟩
 rw [htge] at HTG htz ⊢
 have htz2:tg.size≤9223372036854775807:=by omega
 have HCC:=Lib.hid (fun W (hb:Below w1.heap.size w1 W)=>show W.cell? ⟨c.C,1,none⟩=some (Pq c.V)∧W.cell? ⟨g,0,none⟩=some (.int .i64 0)∧W.cell? ⟨g,1,none⟩=some (.int .i64 (y:Int)) from ⟨(HX1.out.below hb).x.c1,(HG1.out.below hb).c0,(HG1.out.below hb).c1⟩)
 have HMK:=Lib.hid (fun W (hb:Below w1.heap.size w1 W)=>(HX1.out.below hb).make hT d s 3 tg hs htz2)
 have HLT:=Lib.hid (fun b (hb:X b)=>HX1.out.lt hb)
 have k0:∀ W,Below w1.heap.size w1 W→W.cell? ⟨c.C,0,none⟩=some (Pq c.P1):=fun W hb=>(HX1.out.below hb).x.c0
 have HK0:=Lib.hid k0
 have S0:=HCC.out w1 (Below.refl _ _)
 unfold ChainE
 generalize S.make d s 3 tg=mk at *
 obtain ⟨⟨m1,m2⟩,S2⟩:=mk
 dsimp only at HMK ⊢
 clear h hb1 htg htz htz2 htge hky hs hT k0
 obtain ⟨cC,hcC⟩:∃ x,x=c.C:=⟨_,rfl⟩
 rw [← hcC] at S0 HCC HK0 ⊢
 clear hcC
 go_enter Tryz.func121,Tryz.ntmps121
 go_upto_region 1 with fail
 try rw [hw1]
 try rw [hg]
 clear hw1 hg
 go_region_held3 (fun W=>W.cell? ⟨cC,1,none⟩=some (Pq c.V)∧W.cell? ⟨g,0,none⟩=some (.int .i64 0)∧W.cell? ⟨g,1,none⟩=some (.int .i64 (y:Int)))
  (first|with_reducible exact S0|with_reducible exact S5|assumption|go_keep)
  (first
   | (go_at_call 26;((with_reducible refine HTG.out.mono ?_);rintro _ w5 ⟨rfl,hb5⟩;have HB5:=Lib.hid (bel_step (Below.refl w1.heap.size w1).drew hb5);have S5:=HCC.out w5 HB5.out;clear hb5)))
 have k0:=HK0.out w5 HB5.out
 have HM:=Lib.hid (HMK.out w5 HB5.out)
 clear S0 S5 HTG HCC HMK HK0
 go_wp2_with fail
 refine HM.out.mono ?_
 rintro _ w7 ⟨rfl,hz7,hs7⟩
 have HZ:=Lib.hid hz7
 have HS:=Lib.hid (same_trans HSX.out fun b hb=>(hs7 b hb).trans (HB5.out.block b (HLT.out b hb)))
 clear hz7 hs7
 go_wp2_with fail
 go_ret2
 exact ⟨rfl,HZ.out,HS.out⟩
theorem undo_no (ge gc:Nat) (u:FrameMode) (w:World) (he:w.cell? ⟨ge,0,none⟩=some (.int .i64 0)) :
  CallsD Tryz.prog 173 #[.pointer (some ⟨ge,0,none⟩),.pointer (some ⟨gc,0,none⟩)] u w fun e u' w'=>u'=u∧(e=.returned (.tuple #[])∧w'=w):=by
 go_enter_d Tryz.func173,Tryz.ntmps173
 go_wp2_with fail
 go_end0
 exact ⟨rfl,rfl⟩
theorem undo_yes {w0 w:World} {c:Cp} {S L:BS} {r T:Nat} {M:List Res} {X:Nat→Prop} (h:Zs w0 w c S L r T M X) (hT:T≤800000) (ge gc:Nat) (u:FrameMode) {er:Int} (her:er≠0) (he:w.cell? ⟨ge,0,none⟩=some (.int .i64 er)) (hc:w.cell? ⟨gc,0,none⟩=some (Pq c.C)) (hgX:X gc) :
  CallsD Tryz.prog 173 #[.pointer (some ⟨ge,0,none⟩),.pointer (some ⟨gc,0,none⟩)] u w fun e u' w'=>u'=u∧(e=.returned (.tuple #[])∧Zs w0 w' c (S.unlink c.wk draft).2 L r (T+1) M X∧Same X w w'):=by
 have HM:=Lib.hid (h.drew.unlink hT c.wk draft)
 have HSX:=Lib.hid (show Same X w w.drew from fun _ _=>rfl)
 have c0:=h.x.c0
 have c3:=h.x.c3
 have q0:(er != 0)=true:=by simpa using her
 unfold draft at HM ⊢
 generalize S.unlink c.wk ⟨#[99]⟩=ul at *
 obtain ⟨u1,S2⟩:=ul
 dsimp only at HM ⊢
 have S0:=And.intro hc (And.intro c0 c3)
 have HSH:=Lib.hid (fun (W:World) (hz:Zs w0 W c S2 L r (T+1) M X) (hs:Same X w W)=>show W.cell? ⟨gc,0,none⟩=some (Pq c.C)∧W.cell? ⟨c.C,0,none⟩=some (Pq c.P1)∧W.cell? ⟨c.C,3,none⟩=some (.int .i64 c.wk) from ⟨(World.cell?_of_block (a:=⟨gc,0,none⟩) (hs gc hgX)).trans hc,hz.x.c0,hz.x.c3⟩)
 clear h hT her hc c0 c3 hgX
 obtain ⟨cC,hcC⟩:∃ x,x=c.C:=⟨_,rfl⟩
 rw [← hcC] at S0 HSH
 clear hcC
 go_enter_d Tryz.func173,Tryz.ntmps173
 go_wp2_with fail
 go_region_held3 (fun W=>W.cell? ⟨gc,0,none⟩=some (Pq cC)∧W.cell? ⟨cC,0,none⟩=some (Pq c.P1)∧W.cell? ⟨cC,3,none⟩=some (.int .i64 c.wk))
  (first|with_reducible exact S0|with_reducible exact S5|assumption|go_keep)
  (first
   | (go_at_call 35;((with_reducible refine HM.out.mono ?_);rintro _ w5 ⟨rfl,hz5,hs5⟩;have HZ5:=Lib.hid hz5;have HS5:=Lib.hid (show Same X w w5 from hs5);have S5:=HSH.out w5 hz5 hs5;clear hz5 hs5)))
 clear S0 S5
 go_wp2_with fail
 go_end0
 exact ⟨rfl,HZ5.out,HS5.out⟩
end Go.Proofs.YtgoddboicjfkcaaGreat.cu
