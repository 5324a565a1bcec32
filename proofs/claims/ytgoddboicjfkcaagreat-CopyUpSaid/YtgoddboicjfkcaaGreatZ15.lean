/- Contracts and mathematics, part 15. -/
import Derived.Test.YtgoddboicjfkcaaGreatZ14
set_option linter.unusedVariables false
set_option linter.unusedSimpArgs false
set_option maxRecDepth 100000
set_option maxHeartbeats 8000000
namespace Go.Proofs.YtgoddboicjfkcaaGreat
namespace cb
open Go.RowKit
open br
open dn (En lget lset ldel nerr dotB Sorted getV DuX LaidX)
open bl (AB Only StoC Pq cut cutR wr WR U8 RF)
open bl.rx (RB RS2 Kp)
theorem still_load {P:Program} {ops:Array Oper} {w:World} {Q:Act→Prop} {a:Act} {o:Oper} {rest:List Oper} (hw:Region.wanted o (yielded ops a.tmps)=true) (ty:TypeId) (x:Operand) (ho:o.op=.load ty x) (b off:Nat) (hx:a.eval x=.pointer (some ⟨b,off,none⟩)) (cs:List Value) (d:TypeDesc) (hc:w.rangeAt b off cs)
  (hu:P.underlying ty=some d) (hd:d.isRow=true) (hi:(P.info? ty).map (·.size)=some cs.length) (h:wpStill P ops w Q rest (a.put o.dst (.agg cs.toArray))):wpStill P ops w Q (o::rest) a:=by
 refine wpStill_step fun K hK=>?_
 rw [Jb hw]
 unfold Oper.still execOp
 simp only [ho,hx,Instr.loadAt,Instr.sureAddr,Sem.run_bind,Sem.run_pure,Result.andThen_ok,run_loadVar_mid w b off ty cs d hc hu hd hi]
 exact ⟨rfl,hK _ h⟩
theorem free_step (S:BS) (k n:Nat):S.free k (n+1)=if (S.ino k).kind=0 then k else S.free (k+1) n:=rfl
section
variable {w w':World} {D lo RS room:Nat} {pl:Nat→Pd} {tag:Nat→Nat} {S:BS}
theorem q_make (h:DB w D lo RS pl tag S room) (hG:br.Good S room) (d:Int) (s:ByteArray) (kd:Int) (tt:ByteArray) (hm:s.size≤9223372036854775807) (hmt:tt.size≤9223372036854775807):Calls Tryz.prog 34 #[Pq D,.int .i64 d,.string s,.int .i64 kd,.string tt] w (RetD w D lo RS tag (.tuple #[.int .i64 (S.make d s kd tt).1.1,.int .i64 (S.make d s kd tt).1.2]) (S.make d s kd tt).2 room):=by
 have rb:(tt.size:Int)≤9223372036854775807:=by omega
 have hE:=emp_eq tt
 have HV:=Qa (q_vacant h hG d s hm)
 unfold RetI at HV
 have HF:=Qa (fun w' (hb:Below w.heap.size w w')=>h.nxb hb)
 by_cases e1:S.vacant d s=0
 case neg =>
  rw [show S.make d s kd tt=((0,S.vacant d s),S) by unfold BS.make;rw [Jb e1]]
  generalize S.vacant d s=x at *
  have hq:(x != 0)=true:=by simpa using e1
  clear h hG e1 hE
  go_enter Tryz.func34,Tryz.ntmps34
  go_wp2_with fail
  refine HV.out.mono ?_
  rintro e w3 ⟨rfl,hb3⟩
  go_wp2_with fail
  go_ret2
  exact ⟨rfl,HF.out _ hb3⟩
 rw [e1] at HV
 by_cases hbad:badKind kd tt=true
 ·rw [show S.make d s kd tt=((0,22),S) by unfold BS.make;rw [Ja (by simpa using e1),Jb hbad]]
  have fa:kd<1∨4<kd∨((kd=1∨kd=2∨kd=4)∧tt≠⟨#[]⟩)∨(kd=3∧tt=⟨#[]⟩)∨(kd=3∧tt≠⟨#[]⟩∧400<tt.size):=by
   unfold badKind at hbad
   have hb:=of_decide_eq_true hbad
   by_cases q1:kd<1
   ·exact .inl q1
   ·by_cases q2:4<kd
    ·exact .inr (.inl q2)
    ·by_cases q3:kd=3
     ·by_cases q4:tt=⟨#[]⟩
      ·exact .inr (.inr (.inr (.inl ⟨q3,q4⟩)))
      ·refine .inr (.inr (.inr (.inr ⟨q3,q4,?_⟩)))
       rcases hb with b|b|b|b
       ·omega
       ·omega
       ·exact absurd q3 b.1
       ·rcases b.2 with c|c
        ·exact absurd c q4
        ·exact c
     ·refine .inr (.inr (.inl ⟨by omega,?_⟩))
      rcases hb with b|b|b|b
      ·omega
      ·omega
      ·exact b.2
      ·exact absurd b.1 q3
  clear h hG e1 hbad
  rcases fa with h1|h1|⟨h1,h2⟩|⟨rfl,h2⟩|⟨rfl,h2,h3⟩
  ·clear hE
   go_enter Tryz.func34,Tryz.ntmps34
   go_wp2_with fail
   refine HV.out.mono ?_
   rintro e w3 ⟨rfl,hb3⟩
   go_wp2_with fail
   go_ret2
   exact ⟨rfl,HF.out _ hb3⟩
  ·have la:¬(kd<1):=by omega
   clear hE
   go_enter Tryz.func34,Tryz.ntmps34
   go_wp2_with fail
   refine HV.out.mono ?_
   rintro e w3 ⟨rfl,hb3⟩
   go_wp2_with fail
   go_ret2
   exact ⟨rfl,HF.out _ hb3⟩
  ·rw [decide_eq_false h2] at hE
   rcases h1 with rfl|rfl|rfl
   all_goals
    go_enter Tryz.func34,Tryz.ntmps34
    go_wp2_with fail
    refine HV.out.mono ?_
    rintro e w3 ⟨rfl,hb3⟩
    go_wp2_with fail
    go_ret2
    exact ⟨rfl,HF.out _ hb3⟩
  ·rw [decide_eq_true h2] at hE
   go_enter Tryz.func34,Tryz.ntmps34
   go_wp2_with fail
   refine HV.out.mono ?_
   rintro e w3 ⟨rfl,hb3⟩
   go_wp2_with fail
   go_ret2
   exact ⟨rfl,HF.out _ hb3⟩
  ·rw [decide_eq_false h2] at hE
   have h4:(400:Int)<(tt.size:Int):=by omega
   go_enter Tryz.func34,Tryz.ntmps34
   go_wp2_with fail
   refine HV.out.mono ?_
   rintro e w3 ⟨rfl,hb3⟩
   go_wp2_with fail
   go_ret2
   exact ⟨rfl,HF.out _ hb3⟩
 obtain ⟨N,rfl,n1,n2,hk,hl,hg,hs⟩:=vacant_ok e1
 have fb:(0:Int)≤(N:Int):=by omega
 have kc:(N:Int)<201:=by omega
 have xb:(S.ino N).dir.length≤4000:=hG.1.dirLen N
 have yb:∀e∈(S.ino N).dir,e.1.size≤9223372036854775807:=fun e he=>by have:=nerr_len (hG.1.good N e he).1;omega
 have fa:=hG.1.sorted N
 have Qi:=Qa (fun (h2:200<S.free 1 200)=>show S.make (N:Int) s kd tt=((0,28),S) by
  unfold BS.make;rw [Ja (by simpa using e1),Ja hbad];dsimp only;rw [Jb h2])
 have Qb:=Qa (fun (n:Nat) (hn:S.free 1 200=n) (h2:n≤200) (xa:n≠N) (par:Int) (hp:(if kd=2 then (N:Int) else 0)=par)=>show S.make (N:Int) s kd tt=(((n:Int),0),(⟨br.upd (br.upd S.ino n ⟨kd,1,0,0,par,abE,[],tt⟩) N { S.ino N with dir:=lset s (n:Int) (S.ino N).dir },S.used⟩:BS)) by
  unfold BS.make
  rw [Ja (by simpa using e1),Ja hbad]
  dsimp only
  rw [hn,Ja (by omega)]
  unfold BS.putDir BS.put
  dsimp only
  rw [Int.toNat_natCast,Int.toNat_natCast,at_nat]
  dsimp only
  rw [upd_other _ _ (fun e=>xa e.symm),hp])
 have Qj:=Qa (fun k (hk:k≤200) w3 (hb:Below w.heap.size w w3)=>((h.below hb).ino k hk).c0)
 have Qm:=Qa (fun n (hz:(S.ino n).kind=0)=>show n≠N from fun e=>by subst e;rw [hz] at hk;cases hk)
 have HS:=Qa (fun n (xa:n≠N) (hn1:1≤n) w4 pl1 tag1 (par:Int) (h1:DB w4 D lo RS pl1 tag1 ⟨br.upd S.ino n ⟨kd,1,0,0,par,abE,[],tt⟩,S.used⟩ room) =>
  show Calls Tryz.prog 98 #[dn.Px D (1+N*9+7),.string s,.int .i64 (n:Int)] w4 (RetD w4 D lo RS tag1 (.int .i64 0) ⟨br.upd (br.upd S.ino n ⟨kd,1,0,0,par,abE,[],tt⟩) N { S.ino N with dir:=lset s (n:Int) (S.ino N).dir },S.used⟩ room) from by
   have ba:(br.upd S.ino n ⟨kd,1,0,0,par,abE,[],tt⟩ N)=S.ino N:=upd_other _ _ (fun e=>xa e.symm)
   have:=q_dset h1 n2 (by dsimp only;rw [ba];exact hk) (by dsimp only;rw [ba];exact fa) (by dsimp only;rw [ba];exact xb) (by dsimp only;rw [ba];exact yb) s (n:Int) hm hs.1 hs.2 (by omega)
   dsimp only at this
   rw [ba] at this
   exact this)
 have Qe:=Qa (fun n (hn:n≤200) w3 (hb:Below w.heap.size w w3) (par:Int)=>And.intro ((h.below hb).there hn) ((h.below hb).lay hn kd 1 0 0 par tt))
 have Qn:=Qa (fun w3 (hb:Below w.heap.size w w3)=>(Stp.below hb:Stp w w3 tag tag))
 have kb:(kd=1∧tt=⟨#[]⟩)∨(kd=2∧tt=⟨#[]⟩)∨(kd=3∧tt≠⟨#[]⟩∧¬(400<tt.size))∨(kd=4∧tt=⟨#[]⟩):=by
  unfold badKind at hbad
  have hb:¬(kd<1∨kd > 4∨(kd≠3∧tt≠⟨#[]⟩)∨(kd=3∧(tt=⟨#[]⟩∨400<tt.size))):=by simpa using hbad
  by_cases q3:kd=3
  ·exact .inr (.inr (.inl ⟨q3,fun e=>hb (.inr (.inr (.inr ⟨q3,.inl e⟩))),fun e=>hb (.inr (.inr (.inr ⟨q3,.inr e⟩)))⟩))
  ·have ht:tt=⟨#[]⟩:=by
    by_cases e:tt=⟨#[]⟩
    ·exact e
    ·exact absurd (.inr (.inr (.inl ⟨q3,e⟩))) hb
   have h1:¬(kd<1):=fun e=>hb (.inl e)
   have h4:¬(kd > 4):=fun e=>hb (.inr (.inl e))
   rcases (show kd=1∨kd=2∨kd=4 by omega) with e|e|e
   ·exact .inl ⟨e,ht⟩
   ·exact .inr (.inl ⟨e,ht⟩)
   ·exact .inr (.inr (.inr ⟨e,ht⟩))
 obtain ⟨r1,r2,rS,hR⟩:∃r1 r2 rS,S.make (N:Int) s kd tt=((r1,r2),rS):=⟨_,_,_,rfl⟩
 rw [hR] at Qi Qb ⊢
 dsimp only
 clear hR
 clear h hG e1 hbad xb yb fa hk hl hg hs
 rcases kb with ⟨rfl,ht⟩|⟨rfl,ht⟩|⟨rfl,ht,hl4⟩|⟨rfl,ht⟩
 ·as_aux_lemma =>
   rw [decide_eq_true ht] at hE
   clear ht
   go_enter Tryz.func34,Tryz.ntmps34
   go_wp2_with fail
   refine HV.out.mono ?_
   rintro e w3 ⟨rfl,hb3⟩
   have Qc:=Qa hb3
   clear hb3 HV
   go_wp2_with fail
   go_loopg [13] 201 (fun g s13 wr=>∃k:Nat,g+k=202∧1≤k∧k≤201∧s13=.int .i64 (k:Int)∧wr=w3∧Hid (S.free k (201 - k)=S.free 1 200))
   case atStart=>exact ⟨1,by omega,by omega,by omega,rfl,rfl,Qa (by rfl)⟩
   case round =>
    obtain ⟨k,hgk,la,hk201,rfl,hwr,HK⟩:=hrel
    have ya:=hwr.symm
    clear hwr
    subst ya
    by_cases hk:k≤200
    ·have c0:=Qj.out k hk _ Qc.out
     have ma:=HK.out
     rw [show 201 - k=(201 - (k+1))+1 by omega,free_step] at ma
     have mb:(k:Int)≤200:=by omega
     have jb:(0:Int)≤(k:Int):=by omega
     have pb:(k:Int)<201:=by omega
     by_cases hz:(S.ino k).kind=0
     ·rw [Jb hz] at ma
      rw [hz] at c0
      have xa:=Qm.out k hz
      have qa:=Qb.out k ma.symm hk xa 0 (by simp)
      have Qf:=Qa (fun w4 pl1 tag1 h1=>HS.out k xa la w4 pl1 tag1 0 h1)
      have Qg:=Qa (fun w4 hb=>Qe.out k hk w4 hb 0)
      obtain ⟨S2,hS2⟩:∃S2,BS.mk (br.upd (br.upd S.ino k ⟨1,1,0,0,0,abE,[],tt⟩) N { S.ino N with dir:=lset s (k:Int) (S.ino N).dir }) S.used=S2:=⟨_,rfl⟩
      rw [hS2] at Qf qa
      have HY:=Qa qa
      obtain ⟨w5,hw5⟩:∃w5,World.alloc w3 (.cells #[.int .i64 1,.int .i64 1,.int .i64 0,.int .i64 0,.int .i64 0,.slice none 0 0,.slice none 0 0,.slice none 0 0,.string tt] 146)=w5:=⟨_,rfl⟩
      have da:Below w.heap.size w w5:=by rw [←hw5];exact Qc.out.trans ((dn.below_alloc _ _).mono Qc.out.size)
      have ga:w5.drew.rangeAt w3.heap.size 0 (blankL 1 1 0 0 0 tt):=by
       rw [←hw5]
       intro j v hv
       have hj:j<9:=(List.getElem?_eq_some_iff.1 hv).1
       match j,hj with
       | 0,_=>simp [blankL] at hv ⊢;exact hv
       | 1,_=>simp [blankL] at hv ⊢;exact hv
       | 2,_=>simp [blankL] at hv ⊢;exact hv
       | 3,_=>simp [blankL] at hv ⊢;exact hv
       | 4,_=>simp [blankL] at hv ⊢;exact hv
       | 5,_=>simp [blankL] at hv ⊢;exact hv
       | 6,_=>simp [blankL] at hv ⊢;exact hv
       | 7,_=>simp [blankL] at hv ⊢;exact hv
       | 8,_=>simp [blankL] at hv ⊢;exact hv
      have Qk:=Qa ga
      have ja:=da.trans (((Below.refl _ _).drew).mono da.size)
      obtain ⟨ht,pl1,tag1,h1,s1⟩:=Qg.out _ ja
      have HT:=Qa ht
      have Qd:=Qa (Qf.out _ _ _ h1)
      unfold RetD at Qd
      have ST:=Qa ((Qn.out _ ja).trans s1)
      clear ga qa ht h1 s1 da ja Qf Qg HK ma hz HS Qe Qj Qb Qi hS2
      go_wp2_with fail
      go_still_tail 6,(by kernel_rfl)
      refine still_load (by rfl) 146 (.tmp 14) (by rfl) w3.heap.size 0 (by rfl) (blankL 1 1 0 0 0 tt) _ Qk.out Tryz.underlying146 (by rfl) (by kernel_rfl) ?_
      unfold blankL
      repeat still_step
      try refine wpStill_nil ?_
      change wpList _ _ _ _ _ w5.drew
      refine wpList_store_mid (by rfl) 146 (.tmp 77) (.tmp 74) (by rfl) D (1+k*9) #[.int .i64 1,.int .i64 1,.int .i64 0,.int .i64 0,.int .i64 0,.slice none 0 0,.slice none 0 0,.slice none 0 0,.string tt] (by rfl) (by rfl) HT.out (by kernel_rfl) (one9 _ _ _ _ _ _) ?_
      generalize hw6:w5.drew.setCells D (1+k*9) _=w6
      have sa:w5.drew.setCells D (1+k*9) (blankL 1 1 0 0 0 tt)=w6:=hw6
      rw [sa] at Qd ST
      clear hw6 sa hw5
      go_wp2_with fail
      refine Qd.out.mono ?_
      rintro e w7 ⟨rfl,hn7⟩
      have HN:=Qa (NxD.trans ST.out hn7)
      clear hn7 Qd
      go_wp2_with fail
      go_ret2
      refine ⟨?_,?_⟩
      ·have:=congrArg Prod.fst HY.out
       injection this with e1 e2
       subst e1;subst e2
       rfl
      ·have:=congrArg Prod.snd HY.out
       dsimp only at this
       subst this
       exact HN.out
     ·rw [Ja hz] at ma
      have Ql:=Qa (show S.free (k+1) (201 - (k+1))=S.free 1 200 from ma)
      generalize (S.ino k).kind=kk at *
      have hq:(kk != 0)=true:=by simpa using hz
      clear ma hz HK
      go_wp2_with fail
      go_roundg (gk - 1)
      case measure=>omega
      case rel=>exact ⟨k+1,by omega,by omega,by omega,by go_num,rfl,Ql⟩
    ·obtain rfl:k=201:=by omega
     have ma:S.free 1 200=201:=by rw [←HK.out];rfl
     have Qh:=Qa (Qi.out (by omega))
     clear ma HK
     go_wp2_with fail
     go_ret2
     refine ⟨?_,?_⟩
     ·have:=congrArg Prod.fst Qh.out
      injection this with e1 e2
      subst e1;subst e2
      rfl
     ·have:=congrArg Prod.snd Qh.out
      dsimp only at this
      subst this
      exact HF.out _ Qc.out
 ·as_aux_lemma =>
   rw [decide_eq_true ht] at hE
   clear ht
   go_enter Tryz.func34,Tryz.ntmps34
   go_wp2_with fail
   refine HV.out.mono ?_
   rintro e w3 ⟨rfl,hb3⟩
   have Qc:=Qa hb3
   clear hb3 HV
   go_wp2_with fail
   go_loopg [13] 201 (fun g s13 wr=>∃k:Nat,g+k=202∧1≤k∧k≤201∧s13=.int .i64 (k:Int)∧wr=w3∧Hid (S.free k (201 - k)=S.free 1 200))
   case atStart=>exact ⟨1,by omega,by omega,by omega,rfl,rfl,Qa (by rfl)⟩
   case round =>
    obtain ⟨k,hgk,la,hk201,rfl,hwr,HK⟩:=hrel
    have ya:=hwr.symm
    clear hwr
    subst ya
    by_cases hk:k≤200
    ·have c0:=Qj.out k hk _ Qc.out
     have ma:=HK.out
     rw [show 201 - k=(201 - (k+1))+1 by omega,free_step] at ma
     have mb:(k:Int)≤200:=by omega
     have jb:(0:Int)≤(k:Int):=by omega
     have pb:(k:Int)<201:=by omega
     by_cases hz:(S.ino k).kind=0
     ·rw [Jb hz] at ma
      rw [hz] at c0
      have xa:=Qm.out k hz
      have qa:=Qb.out k ma.symm hk xa (N:Int) (by simp)
      have Qf:=Qa (fun w4 pl1 tag1 h1=>HS.out k xa la w4 pl1 tag1 (N:Int) h1)
      have Qg:=Qa (fun w4 hb=>Qe.out k hk w4 hb (N:Int))
      obtain ⟨S2,hS2⟩:∃S2,BS.mk (br.upd (br.upd S.ino k ⟨2,1,0,0,(N:Int),abE,[],tt⟩) N { S.ino N with dir:=lset s (k:Int) (S.ino N).dir }) S.used=S2:=⟨_,rfl⟩
      rw [hS2] at Qf qa
      have HY:=Qa qa
      obtain ⟨w5,hw5⟩:∃w5,World.alloc w3 (.cells #[.int .i64 2,.int .i64 1,.int .i64 0,.int .i64 0,.int .i64 (N:Int),.slice none 0 0,.slice none 0 0,.slice none 0 0,.string tt] 146)=w5:=⟨_,rfl⟩
      have da:Below w.heap.size w w5:=by rw [←hw5];exact Qc.out.trans ((dn.below_alloc _ _).mono Qc.out.size)
      have ga:w5.drew.rangeAt w3.heap.size 0 (blankL 2 1 0 0 (N:Int) tt):=by
       rw [←hw5]
       intro j v hv
       have hj:j<9:=(List.getElem?_eq_some_iff.1 hv).1
       match j,hj with
       | 0,_=>simp [blankL] at hv ⊢;exact hv
       | 1,_=>simp [blankL] at hv ⊢;exact hv
       | 2,_=>simp [blankL] at hv ⊢;exact hv
       | 3,_=>simp [blankL] at hv ⊢;exact hv
       | 4,_=>simp [blankL] at hv ⊢;exact hv
       | 5,_=>simp [blankL] at hv ⊢;exact hv
       | 6,_=>simp [blankL] at hv ⊢;exact hv
       | 7,_=>simp [blankL] at hv ⊢;exact hv
       | 8,_=>simp [blankL] at hv ⊢;exact hv
      have Qk:=Qa ga
      have ja:=da.trans (((Below.refl _ _).drew).mono da.size)
      obtain ⟨ht,pl1,tag1,h1,s1⟩:=Qg.out _ ja
      have HT:=Qa ht
      have Qd:=Qa (Qf.out _ _ _ h1)
      unfold RetD at Qd
      have ST:=Qa ((Qn.out _ ja).trans s1)
      clear ga qa ht h1 s1 da ja Qf Qg HK ma hz HS Qe Qj Qb Qi hS2
      go_wp2_with fail
      go_still_tail 6,(by kernel_rfl)
      refine still_load (by rfl) 146 (.tmp 14) (by rfl) w3.heap.size 0 (by rfl) (blankL 2 1 0 0 (N:Int) tt) _ Qk.out Tryz.underlying146 (by rfl) (by kernel_rfl) ?_
      unfold blankL
      repeat still_step
      try refine wpStill_nil ?_
      change wpList _ _ _ _ _ w5.drew
      refine wpList_store_mid (by rfl) 146 (.tmp 77) (.tmp 74) (by rfl) D (1+k*9) #[.int .i64 2,.int .i64 1,.int .i64 0,.int .i64 0,.int .i64 (N:Int),.slice none 0 0,.slice none 0 0,.slice none 0 0,.string tt] (by rfl) (by rfl) HT.out (by kernel_rfl) (one9 _ _ _ _ _ _) ?_
      generalize hw6:w5.drew.setCells D (1+k*9) _=w6
      have sa:w5.drew.setCells D (1+k*9) (blankL 2 1 0 0 (N:Int) tt)=w6:=hw6
      rw [sa] at Qd ST
      clear hw6 sa hw5
      go_wp2_with fail
      refine Qd.out.mono ?_
      rintro e w7 ⟨rfl,hn7⟩
      have HN:=Qa (NxD.trans ST.out hn7)
      clear hn7 Qd
      go_wp2_with fail
      go_ret2
      refine ⟨?_,?_⟩
      ·have:=congrArg Prod.fst HY.out
       injection this with e1 e2
       subst e1;subst e2
       rfl
      ·have:=congrArg Prod.snd HY.out
       dsimp only at this
       subst this
       exact HN.out
     ·rw [Ja hz] at ma
      have Ql:=Qa (show S.free (k+1) (201 - (k+1))=S.free 1 200 from ma)
      generalize (S.ino k).kind=kk at *
      have hq:(kk != 0)=true:=by simpa using hz
      clear ma hz HK
      go_wp2_with fail
      go_roundg (gk - 1)
      case measure=>omega
      case rel=>exact ⟨k+1,by omega,by omega,by omega,by go_num,rfl,Ql⟩
    ·obtain rfl:k=201:=by omega
     have ma:S.free 1 200=201:=by rw [←HK.out];rfl
     have Qh:=Qa (Qi.out (by omega))
     clear ma HK
     go_wp2_with fail
     go_ret2
     refine ⟨?_,?_⟩
     ·have:=congrArg Prod.fst Qh.out
      injection this with e1 e2
      subst e1;subst e2
      rfl
     ·have:=congrArg Prod.snd Qh.out
      dsimp only at this
      subst this
      exact HF.out _ Qc.out
 ·as_aux_lemma =>
   rw [decide_eq_false ht] at hE
   have mc:¬((400:Int)<(tt.size:Int)):=by omega
   clear ht
   go_enter Tryz.func34,Tryz.ntmps34
   go_wp2_with fail
   refine HV.out.mono ?_
   rintro e w3 ⟨rfl,hb3⟩
   have Qc:=Qa hb3
   clear hb3 HV
   go_wp2_with fail
   go_loopg [13] 201 (fun g s13 wr=>∃k:Nat,g+k=202∧1≤k∧k≤201∧s13=.int .i64 (k:Int)∧wr=w3∧Hid (S.free k (201 - k)=S.free 1 200))
   case atStart=>exact ⟨1,by omega,by omega,by omega,rfl,rfl,Qa (by rfl)⟩
   case round =>
    obtain ⟨k,hgk,la,hk201,rfl,hwr,HK⟩:=hrel
    have ya:=hwr.symm
    clear hwr
    subst ya
    by_cases hk:k≤200
    ·have c0:=Qj.out k hk _ Qc.out
     have ma:=HK.out
     rw [show 201 - k=(201 - (k+1))+1 by omega,free_step] at ma
     have mb:(k:Int)≤200:=by omega
     have jb:(0:Int)≤(k:Int):=by omega
     have pb:(k:Int)<201:=by omega
     by_cases hz:(S.ino k).kind=0
     ·rw [Jb hz] at ma
      rw [hz] at c0
      have xa:=Qm.out k hz
      have qa:=Qb.out k ma.symm hk xa 0 (by simp)
      have Qf:=Qa (fun w4 pl1 tag1 h1=>HS.out k xa la w4 pl1 tag1 0 h1)
      have Qg:=Qa (fun w4 hb=>Qe.out k hk w4 hb 0)
      obtain ⟨S2,hS2⟩:∃S2,BS.mk (br.upd (br.upd S.ino k ⟨3,1,0,0,0,abE,[],tt⟩) N { S.ino N with dir:=lset s (k:Int) (S.ino N).dir }) S.used=S2:=⟨_,rfl⟩
      rw [hS2] at Qf qa
      have HY:=Qa qa
      obtain ⟨w5,hw5⟩:∃w5,World.alloc w3 (.cells #[.int .i64 3,.int .i64 1,.int .i64 0,.int .i64 0,.int .i64 0,.slice none 0 0,.slice none 0 0,.slice none 0 0,.string tt] 146)=w5:=⟨_,rfl⟩
      have da:Below w.heap.size w w5:=by rw [←hw5];exact Qc.out.trans ((dn.below_alloc _ _).mono Qc.out.size)
      have ga:w5.drew.rangeAt w3.heap.size 0 (blankL 3 1 0 0 0 tt):=by
       rw [←hw5]
       intro j v hv
       have hj:j<9:=(List.getElem?_eq_some_iff.1 hv).1
       match j,hj with
       | 0,_=>simp [blankL] at hv ⊢;exact hv
       | 1,_=>simp [blankL] at hv ⊢;exact hv
       | 2,_=>simp [blankL] at hv ⊢;exact hv
       | 3,_=>simp [blankL] at hv ⊢;exact hv
       | 4,_=>simp [blankL] at hv ⊢;exact hv
       | 5,_=>simp [blankL] at hv ⊢;exact hv
       | 6,_=>simp [blankL] at hv ⊢;exact hv
       | 7,_=>simp [blankL] at hv ⊢;exact hv
       | 8,_=>simp [blankL] at hv ⊢;exact hv
      have Qk:=Qa ga
      have ja:=da.trans (((Below.refl _ _).drew).mono da.size)
      obtain ⟨ht,pl1,tag1,h1,s1⟩:=Qg.out _ ja
      have HT:=Qa ht
      have Qd:=Qa (Qf.out _ _ _ h1)
      unfold RetD at Qd
      have ST:=Qa ((Qn.out _ ja).trans s1)
      clear ga qa ht h1 s1 da ja Qf Qg HK ma hz HS Qe Qj Qb Qi hS2
      go_wp2_with fail
      go_still_tail 6,(by kernel_rfl)
      refine still_load (by rfl) 146 (.tmp 14) (by rfl) w3.heap.size 0 (by rfl) (blankL 3 1 0 0 0 tt) _ Qk.out Tryz.underlying146 (by rfl) (by kernel_rfl) ?_
      unfold blankL
      repeat still_step
      try refine wpStill_nil ?_
      change wpList _ _ _ _ _ w5.drew
      refine wpList_store_mid (by rfl) 146 (.tmp 77) (.tmp 74) (by rfl) D (1+k*9) #[.int .i64 3,.int .i64 1,.int .i64 0,.int .i64 0,.int .i64 0,.slice none 0 0,.slice none 0 0,.slice none 0 0,.string tt] (by rfl) (by rfl) HT.out (by kernel_rfl) (one9 _ _ _ _ _ _) ?_
      generalize hw6:w5.drew.setCells D (1+k*9) _=w6
      have sa:w5.drew.setCells D (1+k*9) (blankL 3 1 0 0 0 tt)=w6:=hw6
      rw [sa] at Qd ST
      clear hw6 sa hw5
      go_wp2_with fail
      refine Qd.out.mono ?_
      rintro e w7 ⟨rfl,hn7⟩
      have HN:=Qa (NxD.trans ST.out hn7)
      clear hn7 Qd
      go_wp2_with fail
      go_ret2
      refine ⟨?_,?_⟩
      ·have:=congrArg Prod.fst HY.out
       injection this with e1 e2
       subst e1;subst e2
       rfl
      ·have:=congrArg Prod.snd HY.out
       dsimp only at this
       subst this
       exact HN.out
     ·rw [Ja hz] at ma
      have Ql:=Qa (show S.free (k+1) (201 - (k+1))=S.free 1 200 from ma)
      generalize (S.ino k).kind=kk at *
      have hq:(kk != 0)=true:=by simpa using hz
      clear ma hz HK
      go_wp2_with fail
      go_roundg (gk - 1)
      case measure=>omega
      case rel=>exact ⟨k+1,by omega,by omega,by omega,by go_num,rfl,Ql⟩
    ·obtain rfl:k=201:=by omega
     have ma:S.free 1 200=201:=by rw [←HK.out];rfl
     have Qh:=Qa (Qi.out (by omega))
     clear ma HK
     go_wp2_with fail
     go_ret2
     refine ⟨?_,?_⟩
     ·have:=congrArg Prod.fst Qh.out
      injection this with e1 e2
      subst e1;subst e2
      rfl
     ·have:=congrArg Prod.snd Qh.out
      dsimp only at this
      subst this
      exact HF.out _ Qc.out
 ·as_aux_lemma =>
   rw [decide_eq_true ht] at hE
   clear ht
   go_enter Tryz.func34,Tryz.ntmps34
   go_wp2_with fail
   refine HV.out.mono ?_
   rintro e w3 ⟨rfl,hb3⟩
   have Qc:=Qa hb3
   clear hb3 HV
   go_wp2_with fail
   go_loopg [13] 201 (fun g s13 wr=>∃k:Nat,g+k=202∧1≤k∧k≤201∧s13=.int .i64 (k:Int)∧wr=w3∧Hid (S.free k (201 - k)=S.free 1 200))
   case atStart=>exact ⟨1,by omega,by omega,by omega,rfl,rfl,Qa (by rfl)⟩
   case round =>
    obtain ⟨k,hgk,la,hk201,rfl,hwr,HK⟩:=hrel
    have ya:=hwr.symm
    clear hwr
    subst ya
    by_cases hk:k≤200
    ·have c0:=Qj.out k hk _ Qc.out
     have ma:=HK.out
     rw [show 201 - k=(201 - (k+1))+1 by omega,free_step] at ma
     have mb:(k:Int)≤200:=by omega
     have jb:(0:Int)≤(k:Int):=by omega
     have pb:(k:Int)<201:=by omega
     by_cases hz:(S.ino k).kind=0
     ·rw [Jb hz] at ma
      rw [hz] at c0
      have xa:=Qm.out k hz
      have qa:=Qb.out k ma.symm hk xa 0 (by simp)
      have Qf:=Qa (fun w4 pl1 tag1 h1=>HS.out k xa la w4 pl1 tag1 0 h1)
      have Qg:=Qa (fun w4 hb=>Qe.out k hk w4 hb 0)
      obtain ⟨S2,hS2⟩:∃S2,BS.mk (br.upd (br.upd S.ino k ⟨4,1,0,0,0,abE,[],tt⟩) N { S.ino N with dir:=lset s (k:Int) (S.ino N).dir }) S.used=S2:=⟨_,rfl⟩
      rw [hS2] at Qf qa
      have HY:=Qa qa
      obtain ⟨w5,hw5⟩:∃w5,World.alloc w3 (.cells #[.int .i64 4,.int .i64 1,.int .i64 0,.int .i64 0,.int .i64 0,.slice none 0 0,.slice none 0 0,.slice none 0 0,.string tt] 146)=w5:=⟨_,rfl⟩
      have da:Below w.heap.size w w5:=by rw [←hw5];exact Qc.out.trans ((dn.below_alloc _ _).mono Qc.out.size)
      have ga:w5.drew.rangeAt w3.heap.size 0 (blankL 4 1 0 0 0 tt):=by
       rw [←hw5]
       intro j v hv
       have hj:j<9:=(List.getElem?_eq_some_iff.1 hv).1
       match j,hj with
       | 0,_=>simp [blankL] at hv ⊢;exact hv
       | 1,_=>simp [blankL] at hv ⊢;exact hv
       | 2,_=>simp [blankL] at hv ⊢;exact hv
       | 3,_=>simp [blankL] at hv ⊢;exact hv
       | 4,_=>simp [blankL] at hv ⊢;exact hv
       | 5,_=>simp [blankL] at hv ⊢;exact hv
       | 6,_=>simp [blankL] at hv ⊢;exact hv
       | 7,_=>simp [blankL] at hv ⊢;exact hv
       | 8,_=>simp [blankL] at hv ⊢;exact hv
      have Qk:=Qa ga
      have ja:=da.trans (((Below.refl _ _).drew).mono da.size)
      obtain ⟨ht,pl1,tag1,h1,s1⟩:=Qg.out _ ja
      have HT:=Qa ht
      have Qd:=Qa (Qf.out _ _ _ h1)
      unfold RetD at Qd
      have ST:=Qa ((Qn.out _ ja).trans s1)
      clear ga qa ht h1 s1 da ja Qf Qg HK ma hz HS Qe Qj Qb Qi hS2
      go_wp2_with fail
      go_still_tail 6,(by kernel_rfl)
      refine still_load (by rfl) 146 (.tmp 14) (by rfl) w3.heap.size 0 (by rfl) (blankL 4 1 0 0 0 tt) _ Qk.out Tryz.underlying146 (by rfl) (by kernel_rfl) ?_
      unfold blankL
      repeat still_step
      try refine wpStill_nil ?_
      change wpList _ _ _ _ _ w5.drew
      refine wpList_store_mid (by rfl) 146 (.tmp 77) (.tmp 74) (by rfl) D (1+k*9) #[.int .i64 4,.int .i64 1,.int .i64 0,.int .i64 0,.int .i64 0,.slice none 0 0,.slice none 0 0,.slice none 0 0,.string tt] (by rfl) (by rfl) HT.out (by kernel_rfl) (one9 _ _ _ _ _ _) ?_
      generalize hw6:w5.drew.setCells D (1+k*9) _=w6
      have sa:w5.drew.setCells D (1+k*9) (blankL 4 1 0 0 0 tt)=w6:=hw6
      rw [sa] at Qd ST
      clear hw6 sa hw5
      go_wp2_with fail
      refine Qd.out.mono ?_
      rintro e w7 ⟨rfl,hn7⟩
      have HN:=Qa (NxD.trans ST.out hn7)
      clear hn7 Qd
      go_wp2_with fail
      go_ret2
      refine ⟨?_,?_⟩
      ·have:=congrArg Prod.fst HY.out
       injection this with e1 e2
       subst e1;subst e2
       rfl
      ·have:=congrArg Prod.snd HY.out
       dsimp only at this
       subst this
       exact HN.out
     ·rw [Ja hz] at ma
      have Ql:=Qa (show S.free (k+1) (201 - (k+1))=S.free 1 200 from ma)
      generalize (S.ino k).kind=kk at *
      have hq:(kk != 0)=true:=by simpa using hz
      clear ma hz HK
      go_wp2_with fail
      go_roundg (gk - 1)
      case measure=>omega
      case rel=>exact ⟨k+1,by omega,by omega,by omega,by go_num,rfl,Ql⟩
    ·obtain rfl:k=201:=by omega
     have ma:S.free 1 200=201:=by rw [←HK.out];rfl
     have Qh:=Qa (Qi.out (by omega))
     clear ma HK
     go_wp2_with fail
     go_ret2
     refine ⟨?_,?_⟩
     ·have:=congrArg Prod.fst Qh.out
      injection this with e1 e2
      subst e1;subst e2
      rfl
     ·have:=congrArg Prod.snd Qh.out
      dsimp only at this
      subst this
      exact HF.out _ Qc.out
end
theorem NxD.c0 {w w':World} {D lo RS room:Nat} {tag:Nat→Nat} {S':BS} (h:NxD w w' D lo RS tag S' room):w'.cell? ⟨D,0,none⟩=some (Pq RS):=by obtain ⟨pl,tg,h1,_⟩:=h;exact h1.c0
section
variable {w w':World} {D lo RS room:Nat} {pl:Nat→Pd} {tag:Nat→Nat} {S:BS}
theorem q_read (h:DB w D lo RS pl tag S room) (hG:br.Good S room) (i off n:Int):Calls Tryz.prog 86 #[Pq D,.int .i64 i,.int .i64 off,.int .i64 n] w (fun e w'=>∃v,e=.returned (.tuple #[v,.int .i64 (readI S i off n).1])∧w'.ownsRow w.heap.size 5 1 v (readI S i off n).2 (bl.rowF (readI S i off n).2 (fun j=>(S.at i).body.dat (off.toNat+j)))∧Below w.heap.size w w'):=by
 have HK:=Qa (q_file h i)
 unfold RetQ at HK
 by_cases h1:S.fileE i=0
 case neg =>
  rw [show readI S i off n=(S.fileE i,0) by unfold readI;rw [Jb h1]]
  have HO:=Qa (World.ownsRow_nil w w.heap.size 5 1)
  dsimp only
  rw [show bl.rowF 0 (fun j=>(S.at i).body.dat (off.toNat+j))=[] from rfl]
  generalize S.fileE i=x at *
  have hq:(x != 0)=true:=by simpa using h1
  clear h hG h1
  go_enter Tryz.func86,Tryz.ntmps86
  go_wp2_with fail
  refine HK.out.mono ?_
  rintro e w3 ⟨rfl,rfl⟩
  go_wp2_with fail
  go_ret2
  exact ⟨_,rfl,HO.out,Below.refl _ _⟩
 rw [h1] at HK
 obtain ⟨I,rfl,i1,i2,hk⟩:=fileE_ok h1
 have hd:=h.drew
 have HC:=Qa (bl.rx.rread_any (RS:=RS) (hd.ino I i2).b (hG.1.body I).size off n)
 have c0:=hd.c0
 have ma:D<w.heap.size:=h.loD.1
 rw [show readI S (I:Int) off n=bl.readR (S.ino I).body off n by unfold readI;rw [Ja (by omega),at_nat],at_nat]
 unfold bl.RReadE at HC
 have qa:(0:Int)≤(I:Int):=by omega
 have ja:(I:Int)<201:=by omega
 generalize (bl.readR (S.ino I).body off n).1=r1 at *
 generalize (bl.readR (S.ino I).body off n).2=r2 at *
 generalize bl.rowF r2 (fun j=>(S.ino I).body.dat (off.toNat+j))=L at *
 clear h hd hG h1 hk
 go_enter Tryz.func86,Tryz.ntmps86
 go_wp2_with fail
 refine HK.out.mono ?_
 rintro e w3 ⟨rfl,hw3⟩
 subst hw3
 go_wp2_with fail
 go_region_held3 (fun w'=>w'.cell? ⟨D,0,none⟩=some (Pq RS))
  (first|exact c0|exact c4|assumption|go_keep)
  (first
  | (go_at_call 153;((with_reducible refine HC.out.mono ?_);rintro e w4 ⟨v4,rfl,hown,hb4⟩;have c4:=(hb4.cell (p:=⟨D,0,none⟩) ma).trans c0)))
 all_goals
  go_wp2_with fail
  go_ret2
  exact ⟨_,rfl,hown,((Below.refl _ _).drew:Below w3.heap.size w3 w3.drew).trans hb4⟩
theorem q_write (h:DB w D lo RS pl tag S room) (hG:br.Good S room) (hr:room≤65536) (i off:Int) (A:Option Addr) (len dc:Nat) (f:Nat→UInt8) (hA:∀j,j<len→∃b o,A=some ⟨b,o,none⟩∧tag b=0∧b<w.heap.size∧w.cell? ⟨b,o+j,none⟩=some (U8 (f j))) (hlc:len≤dc) (hdc:dc≤maxLen) :
  Calls Tryz.prog 40 #[Pq D,.int .i64 i,.int .i64 off,.slice A len dc] w (fun e w'=>(S.fileE i≠0∧e=.returned (.tuple #[.int .i64 0,.int .i64 (S.fileE i)])∧w'=w)∨(S.fileE i=0∧∃(p:Nat) (err:Int),bl.WR (S.at i).body S.used room off len p err∧e=.returned (.tuple #[.int .i64 (p:Int),.int .i64 err])∧NxD w w' D lo RS tag (S.wrote i off p f) room)):=by
 have HK:=Qa (q_file h i)
 unfold RetQ at HK
 by_cases h1:S.fileE i=0
 case neg =>
  obtain ⟨x,hx⟩:∃x,S.fileE i=x:=⟨_,rfl⟩
  have HX:=Qa hx
  rw [hx] at HK h1
  have hq:(x != 0)=true:=by simpa using h1
  have HN:=Qa h1
  clear h hG h1 hA hx hlc hdc
  go_enter Tryz.func40,Tryz.ntmps40
  go_wp2_with fail
  refine HK.out.mono ?_
  rintro e w3 ⟨rfl,rfl⟩
  go_wp2_with fail
  go_ret2
  exact .inl ⟨by rw [HX.out];exact HN.out,by rw [HX.out];rfl,rfl⟩
 have H1:=Qa h1
 rw [h1] at HK
 obtain ⟨I,rfl,i1,i2,hk⟩:=fileE_ok h1
 have hd:=h.drew
 obtain ⟨g1,g2,g3⟩:=Good_body2 hG hr I
 have ma:¬RF D (pl I).vB (pl I).vT RS:=by
  rintro (e|e|e)
  ·exact h.loD.2.2 e
  ·have:=h.tI I i2 RS (.inl e);rw [h.tS] at this;omega
  ·have:=h.tI I i2 RS (.inr (.inl e));rw [h.tS] at this;omega
 have hB:bl.BytesIn w.drew (fun x=>RF D (pl I).vB (pl I).vT x∨x=RS) A len f:=fun j hj=>by
  obtain ⟨b,o,e,ht,hlt,hc⟩:=hA j hj
  refine ⟨b,o,e,?_,hlt,hc⟩
  rintro ((e|e|e)|e)
  ·rw [e,h.tD] at ht;cases ht
  ·have:=h.tI I i2 b (.inl e);omega
  ·have:=h.tI I i2 b (.inr (.inl e));omega
  ·rw [e,h.tS] at ht;cases ht
 have HC:=Qa (bl.rx.rwrite_any (off:=off) (hd.ino I i2).b g1 hd.sto ma g2 hG.1.room hr hB hlc hdc hd.loD.2.1)
 have HN:=Qa (fun W p vB vT T (hr:RS2 w.drew W lo D (1+I*9+5) RS room (S.used+(wr (S.ino I).body off p f).n - (S.ino I).body.n) (RF D (pl I).vB (pl I).vT) vB vT (wr (S.ino I).body off p f) T)=>show NxD w W D lo RS tag (S.wrote (I:Int) off p f) room from by
  have:=NxD.trans (Stp.below ((Below.refl _ w).drew)) (hd.body i2 hk hr)
  unfold BS.wrote
  rw [at_nat,Int.toNat_natCast]
  exact this)
 have c0:=hd.c0
 rw [at_nat]
 unfold bl.rx.RWriteE at HC
 have ja:(0:Int)≤(I:Int):=by omega
 have xa:(I:Int)<201:=by omega
 clear h hd hG h1 hk g1 g2 g3 ma hB hA hlc hdc
 go_enter Tryz.func40,Tryz.ntmps40
 go_wp2_with fail
 refine HK.out.mono ?_
 rintro e w3 ⟨rfl,hw3⟩
 subst hw3
 go_wp2_with fail
 go_region_held3 (fun w'=>w'.cell? ⟨D,0,none⟩=some (Pq RS))
  (first|exact c0|exact c4|assumption|go_keep)
  (first
  | (go_at_call 109;((with_reducible refine HC.out.mono ?_);rintro e w4 ⟨p4,err4,vB,vT,T,rfl,hw4,hr4⟩;have qa:=HN.out _ _ _ _ _ hr4;have c4:=qa.c0)))
 all_goals
  go_wp2_with fail
  go_ret2
  exact .inr ⟨H1.out,_,_,hw4,rfl,qa⟩
end
end cb
namespace cb
open Go.RowKit Go.Shelf
open br
open dn (En Ev beq_names Ao lget lset ldel nerr dotB Sorted getV DuX LaidX RetB ERow encL encL_length encL_one below_drewN row_new below_grown_far below_alloc info37)
open bl (AB Only StoC Pq cut cutR wr WR U8 RF)
open bl.rx (RB RS2 Kp)
theorem sl_of_owns {w:World} {lo n:Nat} {v:Value} {L:List En} (h:w.ownsRow lo 125 2 v n (encL L)) (hn:n=L.length):∃o c,v=.slice (Ao o) n c∧dn.Sl w lo o c L:=by
 rcases h.2 with ⟨rfl,h0⟩|⟨g,cap,cur,rfl,_⟩
 ·subst h0
  exact ⟨none,0,rfl,List.eq_nil_of_length_eq_zero hn.symm,rfl⟩
 ·exact ⟨some g,cap,rfl,(ERow.of_owns h hn).2,(ERow.of_owns h hn).1⟩
theorem all_src {w:World} {D x0 lo c:Nat} {o:Option Nat} {L:List En} (h:DuX w D x0 lo o c L) (hN:L.length≤900000) :
  ∃v' w1,(Builtin.append_ #[89,89] 89 #[.slice (some ⟨w.heap.size,0,none⟩) 0 0,.slice (Ao o) L.length c]).run Tryz.prog (w.alloc (.cells #[] 125))=.ok v' w1∧Below w.heap.size w w1∧w1.ownsRow w.heap.size 125 2 v' L.length (encL L):=by
 obtain ⟨i0,hi,hz0,hz1,hz2⟩:=info_parts info37
 have ma:=(row_new w).owns (Nat.le_refl _)
 have hb:=below_alloc w (.cells #[] 125)
 cases o with
 | none =>
  obtain ⟨rfl,rfl⟩:=h.row
  refine ⟨.slice (some ⟨w.heap.size,0,none⟩) 0 0,w.alloc (.cells #[] 125),?_,hb,ma⟩
  simp [Builtin.append_,run_underlying Tryz.underlying89,sizeOf,typeInfo,hi,Builtin.lenOf,Builtin.firstCells,storeCells]
 | some G =>
  have hr:=h.row.2.2
  have qa:=hr.of_block (hb.block G hr.lt)
  obtain ⟨v',w',h1,h2,h3,_⟩:=run_append_own (P:=Tryz.prog) (w:=w.alloc (.cells #[] 125)) w.heap.size 89 89 125 i0 _ 2 24 Tryz.underlying89 hi hz0 hz1 hz2 rfl (by decide) _ 0 (encL []) ma ⟨G,0,none⟩ L.length c (encL L) (encL_length L) (fun j u hu=>by
   have:=qa.cells hu
   by_cases hj:j=0
   ·subst hj;simpa [Addr.add] using this
   ·simpa [Addr.add,hj] using this) (encL_one L) (by unfold maxLen;omega) (by omega) hb.size
  refine ⟨v',w',h1,below_grown_far hb h3 (Nat.le_refl _),?_⟩
  simpa [encL] using h2
def AllQ (w:World) (r:List En×Int) (e:Ending) (w':World):Prop:=∃o c,e=.returned (.tuple #[.slice (Ao o) r.1.length c,.int .i64 r.2])∧dn.Sl w' w.heap.size o c r.1∧Below w.heap.size w w'
section
variable {w w':World} {D lo RS room:Nat} {pl:Nat→Pd} {tag:Nat→Nat} {S:BS}
theorem q_all (h:DB w D lo RS pl tag S room) (hG:br.Good S room) (i:Int):Calls Tryz.prog 82 #[Pq D,.int .i64 i] w (AllQ w (S.all i)):=by
 have HI:=Qa (q_dir h i false)
 unfold RetQ at HI
 by_cases h1:S.dirE i false=0
 ·obtain ⟨I,rfl,d1,d2,hD,_⟩:=dirE_ok h1
  rw [show S.all (I:Int)=((S.ino I).dir,0) by unfold BS.all;rw [Ja (by omega),at_nat]]
  rw [h1] at HI
  have ma:=(h.ino I d2).d
  have hN:=hG.1.dirLen I
  obtain ⟨v1,w1,hrun,hb1,hown⟩:=all_src ma (by omega)
  obtain ⟨o1,c1,rfl,hsl⟩:=sl_of_owns hown rfl
  have d0:=ma.d0
  have d0':=(ma.below (below_alloc w (.cells #[] 125))).d0
  have Qb:=Qa hrun
  have HS:=Qa hsl
  have HB:=Qa hb1
  generalize (S.ino I).dir=L at *
  generalize hn:L.length=n at *
  have HN:=Qa hn
  clear h h1 hG hN hown ma hrun hsl hb1 hn
  have qa:(0:Int)≤(I:Int):=by omega
  have ja:(I:Int)<201:=by omega
  go_enter Tryz.func82,Tryz.ntmps82
  go_wp2_with fail
  refine HI.out.mono ?_
  rintro e w2 ⟨rfl,rfl⟩
  go_wp2_with (at_builtin;refine Lib.wpList_append_run _ rfl (.tmp 13) (.tmp 21) 89 89 rfl _ _ rfl rfl _ _ Qb.out ?_)
  go_wp2_with fail
  go_ret2
  exact ⟨o1,c1,by rw [show (L,(0:Int)).1.length=n from HN.out];rfl,HS.out,HB.out⟩
 ·have hv:S.all i=([],S.dirE i false):=by unfold BS.all;rw [Jb h1]
  rw [hv]
  generalize S.dirE i false=x at *
  have hr:(x != 0)=true:=by simpa using h1
  clear h h1 hG hv
  go_enter Tryz.func82,Tryz.ntmps82
  go_wp2_with fail
  refine HI.out.mono ?_
  rintro e w2 ⟨rfl,rfl⟩
  go_wp2_with fail
  go_ret2
  exact ⟨none,0,rfl,⟨rfl,rfl⟩,Below.refl _ _⟩
end
end cb
namespace cb
open Go.RowKit
open br
open bl (AB Only StoC Pq U8 WR IsStop)
theorem DB.keepSame {w w':World} {D lo RS room:Nat} {pl:Nat→Pd} {tag:Nat→Nat} {S:BS} (h:DB w D lo RS pl tag S room) (ho:∀b,tag b≠0→w'.heap[b]?=w.heap[b]?):DB w' D lo RS pl tag S room:=by
 have hD:=ho D (by rw [h.tD];decide)
 have hc:∀j,w'.cell? ⟨D,j,none⟩=w.cell? ⟨D,j,none⟩:=fun j=>World.cell?_of_block (a:=⟨D,j,none⟩) hD
 have hf:∀j,w'.frozen? ⟨D,j,none⟩=w.frozen? ⟨D,j,none⟩:=fun j=>World.frozen?_of_block (a:=⟨D,j,none⟩) hD
 refine ⟨(hc 0).trans h.c0,fun j=>(hf j).trans (h.cf j),StoC.keep h.sto (ho RS (by rw [h.tS];decide)),fun k hk=>(h.ino k hk).keep (fun j _=>hc _) hf (fun b hb=>ho b (by rw [h.tI k hk b hb];omega)),h.tD,h.tS,h.tI,h.lo,fun b hb=>?_⟩
 rcases Nat.eq_zero_or_pos (tag b) with h0|h0
 ·exact h0
 ·exfalso
  have h1:tag b≠0:=by omega
  have h2:=(h.lt h1).1
  have h3:=ho b h1
  rw [Array.getElem?_eq_none hb,Array.getElem?_eq_getElem h2] at h3
  cases h3

end cb
end Go.Proofs.YtgoddboicjfkcaaGreat
