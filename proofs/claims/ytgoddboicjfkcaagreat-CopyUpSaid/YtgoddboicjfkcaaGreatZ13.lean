/- Contracts and mathematics, part 13. -/
import Derived.Test.YtgoddboicjfkcaaGreatZ12
set_option linter.unusedVariables false
set_option linter.unusedSimpArgs false
set_option maxRecDepth 100000
set_option maxHeartbeats 8000000
namespace Go.Proofs.YtgoddboicjfkcaaGreat
namespace cb
open Go.RowKit
open qu (KN ins QL)
open dn (Du En lget lset ldel getV nerr dotB Sorted RetV serr lsetE)
open bl (AB Bod BodC StoC Only Pq cut cutR wr WR)
open br
section
variable {w w':World} {P lo st qb room T:Nat} {qo:Option Nat} {pl:Nat→Pl} {tag:Nat→Nat} {S:BS} {L:List KN}
def TailE (w:World) (P lo st qb:Nat) (pl:Nat→Pl) (tag:Nat→Nat) (S1:BS) (room T0 D t I:Nat) (s u:ByteArray) (k par:Int) (w1:World):Prop :=
 ∃C,w1.cell? ⟨(pl D).nd,5,none⟩=some (Pq C)∧Calls Tryz.prog 143 #[Pq C,.string s] w1 (fun e w2=>∃v,e=.returned v∧∃C2,w2.cell? ⟨(pl t).nd,5,none⟩=some (Pq C2)∧Calls Tryz.prog 96 #[Pq C2,.string u,.int .i64 (I:Int)] w2 (fun e w3=>e=.returned (.int .i64 0) ∧
  w3.cell? ⟨(pl I).nd,0,none⟩=some (.int .i64 k)∧w3.cell? ⟨(pl I).nd,6,none⟩=some (.int .i64 par)∧w3.frozen? ⟨(pl I).nd,6,none⟩=false ∧
  (k≠2→RetG w P lo st qb tag (.int .i64 0) (S1.move (D:Int) s (t:Int) u (I:Int)) room T0 (.returned (.int .i64 0)) w3) ∧
  (k=2→RetG w P lo st qb tag (.int .i64 0) (S1.move (D:Int) s (t:Int) u (I:Int)) room T0 (.returned (.int .i64 0)) (w3.setCell ⟨(pl I).nd,6,none⟩ (.int .i64 (t:Int))))))
theorem tail_any {w1:World} {qo1:Option Nat} {pl1:Nat→Pl} {tag1:Nat→Nat} {D t I T0:Nat} {s u:ByteArray} (hG:br.Good S room) (hT:T≤T0+1) (hD:(S.ino D).kind=2) (ht:(S.ino t).kind=2) (hn:(S.ino I).kind≠0) (h1:I≠D) (h2:I≠t) (hu:nerr u.data.toList=0∧dotB u=false) (hm:u.size≤9223372036854775807)
  (h:CB w1 P lo st qb qo1 pl1 tag1 S room (freeL S) T) (hs:Stp w w1 tag tag1) (hp:∀j,(S.ino j).kind≠0→(pl1 j).nd=(pl j).nd):TailE w P lo st qb pl tag S room T0 D t I s u (S.ino I).kind (S.ino I).parent w1:=by
 have dn':=hG.1.num (k:=D) (by rw [hD];decide)
 have c5:=(h.ino D dn'.2 (by rw [hD];decide)).c5d hD
 rw [hp D (by rw [hD];decide)] at c5
 refine ⟨_,c5,(h.ddel dn'.2 hD (hG.1.sorted D) (hG.1.dirLen D) s).mono ?_⟩
 rintro e w2 ⟨rfl,qo2,pl2,tag2,k1,k2,k3⟩
 change CB w2 P lo st qb qo2 pl2 tag2 (delD S D s) room (freeL S) T at k1
 refine ⟨_,rfl,move_set (w:=w) (tag:=tag) (pl:=pl) hG hT ht hn h1 h2 hu hm k1 (hs.trans k2) fun j hj=>(k3 j hj).trans (hp j ?_)⟩
 rw [←delD_kind S D s j];exact hj
theorem drop_facts {D t I J:Nat} {s u:ByteArray} (hG:br.Good S room) (hg:lget s (S.ino D).dir=some (I:Int)) (hu:lget u (S.ino t).dir=some (J:Int)) (hJI:J≠I) (h2:I≠t) (hd:(S.ino J).kind=2→(S.ino J).dir=[]) :
  br.Good (S.drop (t:Int) u (J:Int)) room∧((S.drop (t:Int) u (J:Int)).ino D).kind=2∧((S.drop (t:Int) u (J:Int)).ino t).kind=2∧(S.drop (t:Int) u (J:Int)).ino I=S.ino I:=by
 obtain ⟨g,J',hJ',hne,d⟩:=hG.drop hu (by rw [at_nat];exact hd)
 obtain rfl:J=J':=by omega
 have kD:=(hG.1.lead hg).1
 have kt:=(hG.1.lead hu).1
 have ma:J≠D:=fun e=>by
  subst e
  rw [hd kD] at hg;cases hg
 refine ⟨g,?_,?_,d.oth I h2 (fun e=>hJI e.symm)⟩
 ·by_cases e:D=t
  ·subst e;rw [d.dir];exact kD
  ·rw [d.oth D e (fun e=>ma e.symm)];exact kD
 ·rw [d.dir];exact kt
theorem rename_pre {D t I:Nat} {s u:ByteArray} (h1:S.dirE (D:Int) true=0) (g:S.get (D:Int) s=((I:Int),0)) (h2:S.dirE (t:Int) true=0) (h3:nameE u=0) (hb:(S.ino I).kind=2→S.below (t:Int) (I:Int) 300=false) :
  S.rename (D:Int) s (t:Int) u=match lget u (S.ino t).dir with
   | none=>(0,S.move (D:Int) s (t:Int) u (I:Int))
   | some old=>if old=(I:Int) then (0,S) else if (S.at old).kind=2∧(S.ino I).kind≠2 then (21,S) else if (S.at old).kind≠2∧(S.ino I).kind=2 then (20,S) else if (S.at old).kind=2∧(S.at old).dir≠[] then (39,S) else (0,(S.drop (t:Int) u old).move (D:Int) s (t:Int) u (I:Int)):=by
 unfold BS.rename
 rw [Ja (by omega),g,Ja (by simp),Ja (by omega),Ja (by omega)]
 dsimp only
 rw [at_nat,Ja (fun e=>by rw [hb e.1] at e;exact absurd e.2 (by decide)),at_nat]
 rfl
theorem rename_repl {D t I J:Nat} {s u:ByteArray} (h1:S.dirE (D:Int) true=0) (g:S.get (D:Int) s=((I:Int),0)) (h2:S.dirE (t:Int) true=0) (h3:nameE u=0) (hb:(S.ino I).kind=2→S.below (t:Int) (I:Int) 300=false) (hu:lget u (S.ino t).dir=some (J:Int)) (hJI:J≠I) :
  S.rename (D:Int) s (t:Int) u=if replE S I J=0 then (0,(S.drop (t:Int) u (J:Int)).move (D:Int) s (t:Int) u (I:Int)) else (replE S I J,S):=by
 rw [rename_pre h1 g h2 h3 hb,hu]
 dsimp only
 rw [Ja (by omega),at_nat]
 unfold replE
 split
 ·rfl
 ·split
  ·rfl
  ·split <;> rfl
theorem repl_dir {I J:Nat} (h:replE S I J=0):(S.ino J).kind=2→(S.ino J).dir=[]:=by
 intro hk
 unfold replE at h
 split at h
 ·cases h
 ·split at h
  ·cases h
  ·split at h
   ·cases h
   ·rename_i h3
    by_cases e:(S.ino J).dir=[]
    ·exact e
    ·exact absurd ⟨hk,e⟩ h3
theorem rename_newD (h:CB w P lo st qb qo pl tag S room (freeL S) T) (hG:br.Good S room) (hr:room≤65536) (hT:T≤900000) {D t I:Nat} {s u:ByteArray} (hm:u.size≤9223372036854775807) (h1:S.dirE (D:Int) true=0) (hg:lget s (S.ino D).dir=some (I:Int)) (gg:S.get (D:Int) s=((I:Int),0)) (h2:S.dirE (t:Int) true=0) (h3:nameE u=0) (hk:(S.ino I).kind=2) (hb:S.below (t:Int) (I:Int) 300=false) (hu:lget u (S.ino t).dir=none):Calls Tryz.prog 66 #[Pq P,.int .i64 (D:Int),.string s,.int .i64 (t:Int),.string u] w (RetG w P lo st qb tag (.int .i64 (S.rename (D:Int) s (t:Int) u).1) (S.rename (D:Int) s (t:Int) u).2 room T):=by
 obtain ⟨D',hD',d1,d2,hDk,_⟩:=dirE_ok h1
 obtain rfl:D=D':=by omega
 obtain ⟨t',ht',t1,t2,htk,htl⟩:=dirE_ok h2
 obtain rfl:t=t':=by omega
 obtain ⟨_,_,I',hI',i1,i2,iroot,hli,hni⟩:=hG.1.lead hg
 obtain rfl:I=I':=by omega
 have xa:I≠D:=fun e=>hG.1.own hG.2 (D:=D) (s:=s) (by rw [hg,e])
 have HN:=Qa (named_any h hG (D:Int) s)
 unfold RetW at HN
 have hn:namV S pl (D:Int) s=.tuple #[Pq (pl D).nd,.int .i64 (I:Int),.int .i64 0]:=by unfold namV;rw [Ja (by omega),gg];rfl
 rw [hn] at HN
 have HC:=Qa (fun w2 (hb:Below w.heap.size w w2)=>changed_any (h.below hb) hG.z0 (t:Int))
 rw [listV_ok h2] at HC
 have Qb:=Qa (fun w2=>newName_any u w2 hm)
 unfold RetI at Qb
 rw [h3] at Qb
 have Qh:=Qa (fun w2 (hb:Below w.heap.size w w2)=>(h.below hb).slot i2 hni)
 have Qd:=Qa (fun w2 (hb:Below w.heap.size w w2)=>((h.below hb).ino I i2 hni).c0)
 have Ql:=Qa (fun w2 (hb:Below w.heap.size w w2)=>((h.below hb).ino t t2 (by rw [htk];decide)).c5d htk)
 have Qe:=Qa (fun w2 (hb:Below w.heap.size w w2)=>(h.below hb).get hG htk u)
 have HF:=Qa (fun w2 v hb=>RetG.same (w':=w2) h v hb)
 have ya:=nameE_ok h3
 have da:I≠t:=fun e=>by subst e;rw [below_self] at hb;cases hb
 have Qf:=Qa (fun w2 (hb:Below w.heap.size w w2)=>within_any (h.below hb) hG iroot htk (htl rfl))
 rw [hb] at Qf
 rw [hk] at Qd
 have hv:=Qa (show S.rename (D:Int) s (t:Int) u=(0,S.move (D:Int) s (t:Int) u (I:Int)) by rw [rename_pre h1 gg h2 h3 (fun _=>hb),hu])
 rw [hv.out]
 have ja:getV u (S.ino t).dir=.tuple #[.int .i64 0,.int .i64 2]:=by unfold getV;rw [hu]
 rw [ja] at Qe
 have Qg:=Qa (fun w2 (hb:Below w.heap.size w w2)=>tail_any (w:=w) (T0:=T) (s:=s) (u:=u) hG (Nat.le_succ T) hDk htk hni xa da ya hm (h.below hb) (Stp.below hb) (fun _ _=>rfl))
 unfold TailE at Qg
 rw [hk] at Qg
 generalize (pl D).nd=N at *
 generalize (pl I).nd=M at *
 generalize (pl t).nd=U at *
 generalize (pl t).di=E at *
 clear h hG hr hT hn ja hv hg gg h1 h2 h3 HF hu hk hb
 go_enter Tryz.func66,Tryz.ntmps66
 go_wp2_with fail
 refine HN.out.mono ?_
 rintro e w2 ⟨rfl,hb⟩
 have Qi:=Qa (HC.out _ hb)
 go_wp2_with fail
 refine Qi.out.mono ?_
 rintro e w3 ⟨rfl,rfl⟩
 go_wp2_with fail
 refine (Qb.out _).mono ?_
 rintro e w4 ⟨rfl,hb4⟩
 have ma:=dn.below_step hb hb4
 have Qc:=Qa ma
 have cs:=Qh.out w4 ma
 have c0:=Qd.out w4 ma
 have ct:=Ql.out w4 ma
 clear hb hb4 HN HC Qi Qb ma
 go_wp2_with fail
 refine (Qf.out w4 Qc.out).mono ?_
 rintro e w4 ⟨rfl,rfl⟩
 clear Qf
 have Qj:=Qa (Qe.out w4 Qc.out)
 clear Qe
 go_wp2_with fail
 refine Qj.out.mono ?_
 rintro e w6 ⟨rfl,hb6⟩
 have qa:=dn.below_step Qc.out hb6
 have Qn:=Qa qa
 clear Qj cs c0 ct Qc hb6
 have cs:=Qh.out w6 qa
 have c0:=Qd.out w6 qa
 obtain ⟨C,c5,hq⟩:=Qg.out w6 qa
 have HQ:=Qa hq
 clear hq
 go_wp2_with fail
 refine HQ.out.mono ?_
 rintro e w7 ⟨v7,rfl,C2,c52,hq2⟩
 have Qk:=Qa hq2
 clear hq2 HQ c5
 go_wp2_with fail
 refine Qk.out.mono ?_
 rintro e w8 ⟨rfl,a0,a6,f6,r1,r2⟩
 have Qo:=Qa r1
 have Qm:=Qa r2
 clear r1 r2 Qk c52
 go_wp2_with fail
 go_ret
 exact Qm.out (by trivial)
theorem rename_sameD (h:CB w P lo st qb qo pl tag S room (freeL S) T) (hG:br.Good S room) (hr:room≤65536) (hT:T≤900000) {D t I:Nat} {s u:ByteArray} (hm:u.size≤9223372036854775807) (h1:S.dirE (D:Int) true=0) (hg:lget s (S.ino D).dir=some (I:Int)) (gg:S.get (D:Int) s=((I:Int),0)) (h2:S.dirE (t:Int) true=0) (h3:nameE u=0) (hk:(S.ino I).kind=2) (hb:S.below (t:Int) (I:Int) 300=false) (hu:lget u (S.ino t).dir=some (I:Int)):Calls Tryz.prog 66 #[Pq P,.int .i64 (D:Int),.string s,.int .i64 (t:Int),.string u] w (RetG w P lo st qb tag (.int .i64 (S.rename (D:Int) s (t:Int) u).1) (S.rename (D:Int) s (t:Int) u).2 room T):=by
 obtain ⟨D',hD',d1,d2,hDk,_⟩:=dirE_ok h1
 obtain rfl:D=D':=by omega
 obtain ⟨t',ht',t1,t2,htk,htl⟩:=dirE_ok h2
 obtain rfl:t=t':=by omega
 obtain ⟨_,_,I',hI',i1,i2,iroot,hli,hni⟩:=hG.1.lead hg
 obtain rfl:I=I':=by omega
 have xa:I≠D:=fun e=>hG.1.own hG.2 (D:=D) (s:=s) (by rw [hg,e])
 have HN:=Qa (named_any h hG (D:Int) s)
 unfold RetW at HN
 have hn:namV S pl (D:Int) s=.tuple #[Pq (pl D).nd,.int .i64 (I:Int),.int .i64 0]:=by unfold namV;rw [Ja (by omega),gg];rfl
 rw [hn] at HN
 have HC:=Qa (fun w2 (hb:Below w.heap.size w w2)=>changed_any (h.below hb) hG.z0 (t:Int))
 rw [listV_ok h2] at HC
 have Qb:=Qa (fun w2=>newName_any u w2 hm)
 unfold RetI at Qb
 rw [h3] at Qb
 have Qg:=Qa (fun w2 (hb:Below w.heap.size w w2)=>(h.below hb).slot i2 hni)
 have Qd:=Qa (fun w2 (hb:Below w.heap.size w w2)=>((h.below hb).ino I i2 hni).c0)
 have Qj:=Qa (fun w2 (hb:Below w.heap.size w w2)=>((h.below hb).ino t t2 (by rw [htk];decide)).c5d htk)
 have Qe:=Qa (fun w2 (hb:Below w.heap.size w w2)=>(h.below hb).get hG htk u)
 have HF:=Qa (fun w2 v hb=>RetG.same (w':=w2) h v hb)
 have ya:=nameE_ok h3
 have da:I≠t:=fun e=>by subst e;rw [below_self] at hb;cases hb
 have Qf:=Qa (fun w2 (hb:Below w.heap.size w w2)=>within_any (h.below hb) hG iroot htk (htl rfl))
 rw [hb] at Qf
 rw [hk] at Qd
 have hv:=Qa (show S.rename (D:Int) s (t:Int) u=(0,S) by rw [rename_pre h1 gg h2 h3 (fun _=>hb),hu];dsimp only;rw [Jb rfl])
 rw [hv.out]
 have ja:getV u (S.ino t).dir=.tuple #[.int .i64 (I:Int),.int .i64 0]:=by unfold getV;rw [hu]
 rw [ja] at Qe
 generalize (pl D).nd=N at *
 generalize (pl I).nd=M at *
 generalize (pl t).nd=U at *
 generalize (pl t).di=E at *
 clear h hG hr hT hn ja hv hg gg h1 h2 h3 hu hk hb
 go_enter Tryz.func66,Tryz.ntmps66
 go_wp2_with fail
 refine HN.out.mono ?_
 rintro e w2 ⟨rfl,hb⟩
 have Qh:=Qa (HC.out _ hb)
 go_wp2_with fail
 refine Qh.out.mono ?_
 rintro e w3 ⟨rfl,rfl⟩
 go_wp2_with fail
 refine (Qb.out _).mono ?_
 rintro e w4 ⟨rfl,hb4⟩
 have ma:=dn.below_step hb hb4
 have Qc:=Qa ma
 have cs:=Qg.out w4 ma
 have c0:=Qd.out w4 ma
 have ct:=Qj.out w4 ma
 clear hb hb4 HN HC Qh Qb ma
 go_wp2_with fail
 refine (Qf.out w4 Qc.out).mono ?_
 rintro e w4 ⟨rfl,rfl⟩
 clear Qf
 have Qi:=Qa (Qe.out w4 Qc.out)
 clear Qe
 go_wp2_with fail
 refine Qi.out.mono ?_
 rintro e w6 ⟨rfl,hb6⟩
 have qa:=dn.below_step Qc.out hb6
 have Qk:=Qa qa
 clear Qi cs c0 ct Qc hb6
 have cs:=Qg.out w6 qa
 have c0:=Qd.out w6 qa
 go_wp2_with fail
 go_ret
 exact HF.out _ _ qa
theorem rename_barsD (h:CB w P lo st qb qo pl tag S room (freeL S) T) (hG:br.Good S room) (hr:room≤65536) (hT:T≤900000) {D t I:Nat} {s u:ByteArray} (hm:u.size≤9223372036854775807) (h1:S.dirE (D:Int) true=0) (hg:lget s (S.ino D).dir=some (I:Int)) (gg:S.get (D:Int) s=((I:Int),0)) (h2:S.dirE (t:Int) true=0) (h3:nameE u=0) (hk:(S.ino I).kind=2) (hb:S.below (t:Int) (I:Int) 300=false) {J:Nat} (hu:lget u (S.ino t).dir=some (J:Int)) (hJI:J≠I) (he:replE S I J≠0):Calls Tryz.prog 66 #[Pq P,.int .i64 (D:Int),.string s,.int .i64 (t:Int),.string u] w (RetG w P lo st qb tag (.int .i64 (S.rename (D:Int) s (t:Int) u).1) (S.rename (D:Int) s (t:Int) u).2 room T):=by
 obtain ⟨D',hD',d1,d2,hDk,_⟩:=dirE_ok h1
 obtain rfl:D=D':=by omega
 obtain ⟨t',ht',t1,t2,htk,htl⟩:=dirE_ok h2
 obtain rfl:t=t':=by omega
 obtain ⟨_,_,I',hI',i1,i2,iroot,hli,hni⟩:=hG.1.lead hg
 obtain rfl:I=I':=by omega
 have xa:I≠D:=fun e=>hG.1.own hG.2 (D:=D) (s:=s) (by rw [hg,e])
 have HN:=Qa (named_any h hG (D:Int) s)
 unfold RetW at HN
 have hn:namV S pl (D:Int) s=.tuple #[Pq (pl D).nd,.int .i64 (I:Int),.int .i64 0]:=by unfold namV;rw [Ja (by omega),gg];rfl
 rw [hn] at HN
 have HC:=Qa (fun w2 (hb:Below w.heap.size w w2)=>changed_any (h.below hb) hG.z0 (t:Int))
 rw [listV_ok h2] at HC
 have Qb:=Qa (fun w2=>newName_any u w2 hm)
 unfold RetI at Qb
 rw [h3] at Qb
 have Qh:=Qa (fun w2 (hb:Below w.heap.size w w2)=>(h.below hb).slot i2 hni)
 have Qd:=Qa (fun w2 (hb:Below w.heap.size w w2)=>((h.below hb).ino I i2 hni).c0)
 have Qm:=Qa (fun w2 (hb:Below w.heap.size w w2)=>((h.below hb).ino t t2 (by rw [htk];decide)).c5d htk)
 have Qe:=Qa (fun w2 (hb:Below w.heap.size w w2)=>(h.below hb).get hG htk u)
 have HF:=Qa (fun w2 v hb=>RetG.same (w':=w2) h v hb)
 have ya:=nameE_ok h3
 have da:I≠t:=fun e=>by subst e;rw [below_self] at hb;cases hb
 have Qf:=Qa (fun w2 (hb:Below w.heap.size w w2)=>within_any (h.below hb) hG iroot htk (htl rfl))
 rw [hb] at Qf
 rw [hk] at Qd
 obtain ⟨_,_,J',hJ',j1,j2,_,hlj,hnj⟩:=hG.1.lead hu
 obtain rfl:J=J':=by omega
 have hv:=Qa ((rename_repl h1 gg h2 h3 (fun _=>hb) hu hJI).trans (Ja he))
 rw [hv.out]
 have ja:getV u (S.ino t).dir=.tuple #[.int .i64 (J:Int),.int .i64 0]:=by unfold getV;rw [hu]
 rw [ja] at Qe
 have Qi:=Qa (fun w2 (hb:Below w.heap.size w w2)=>(h.below hb).slot j2 hnj)
 have Qj:=Qa (fun w2 (hb:Below w.heap.size w w2)=>replaces_any (h.below hb) hG hni hnj)
 have q1:((J:Int) == (I:Int))=false:=by simp;omega
 generalize replE S I J=x at *
 have qx:(x != 0)=true:=by simpa using he
 generalize (pl D).nd=N at *
 generalize (pl I).nd=M at *
 generalize (pl t).nd=U at *
 generalize (pl t).di=E at *
 generalize (pl J).nd=V at *
 clear h hG hr hT hn ja hv hg gg h1 h2 h3 hu hk hb
 go_enter Tryz.func66,Tryz.ntmps66
 go_wp2_with fail
 refine HN.out.mono ?_
 rintro e w2 ⟨rfl,hb⟩
 have Qk:=Qa (HC.out _ hb)
 go_wp2_with fail
 refine Qk.out.mono ?_
 rintro e w3 ⟨rfl,rfl⟩
 go_wp2_with fail
 refine (Qb.out _).mono ?_
 rintro e w4 ⟨rfl,hb4⟩
 have qa:=dn.below_step hb hb4
 have Qc:=Qa qa
 have cs:=Qh.out w4 qa
 have c0:=Qd.out w4 qa
 have ct:=Qm.out w4 qa
 clear hb hb4 HN HC Qk Qb qa
 go_wp2_with fail
 refine (Qf.out w4 Qc.out).mono ?_
 rintro e w4 ⟨rfl,rfl⟩
 clear Qf
 have Ql:=Qa (Qe.out w4 Qc.out)
 clear Qe
 go_wp2_with fail
 refine Ql.out.mono ?_
 rintro e w6 ⟨rfl,hb6⟩
 have ma:=dn.below_step Qc.out hb6
 have Qn:=Qa ma
 clear Ql cs c0 ct Qc hb6
 have cs:=Qh.out w6 ma
 have c0:=Qd.out w6 ma
 have cj:=Qi.out w6 ma
 have Qg:=Qa (Qj.out w6 ma)
 clear Qj Qi
 go_wp2_with fail
 refine Qg.out.mono ?_
 rintro e w7 ⟨rfl,rfl⟩
 go_wp2_with fail
 go_ret
 exact HF.out _ _ ma
theorem rename_overD (h:CB w P lo st qb qo pl tag S room (freeL S) T) (hG:br.Good S room) (hr:room≤65536) (hT:T≤900000) {D t I:Nat} {s u:ByteArray} (hm:u.size≤9223372036854775807) (h1:S.dirE (D:Int) true=0) (hg:lget s (S.ino D).dir=some (I:Int)) (gg:S.get (D:Int) s=((I:Int),0)) (h2:S.dirE (t:Int) true=0) (h3:nameE u=0) (hk:(S.ino I).kind=2) (hb:S.below (t:Int) (I:Int) 300=false) {J:Nat} (hu:lget u (S.ino t).dir=some (J:Int)) (hJI:J≠I) (he:replE S I J=0):Calls Tryz.prog 66 #[Pq P,.int .i64 (D:Int),.string s,.int .i64 (t:Int),.string u] w (RetG w P lo st qb tag (.int .i64 (S.rename (D:Int) s (t:Int) u).1) (S.rename (D:Int) s (t:Int) u).2 room T):=by
 obtain ⟨D',hD',d1,d2,hDk,_⟩:=dirE_ok h1
 obtain rfl:D=D':=by omega
 obtain ⟨t',ht',t1,t2,htk,htl⟩:=dirE_ok h2
 obtain rfl:t=t':=by omega
 obtain ⟨_,_,I',hI',i1,i2,iroot,hli,hni⟩:=hG.1.lead hg
 obtain rfl:I=I':=by omega
 have ya:I≠D:=fun e=>hG.1.own hG.2 (D:=D) (s:=s) (by rw [hg,e])
 have HN:=Qa (named_any h hG (D:Int) s)
 unfold RetW at HN
 have hn:namV S pl (D:Int) s=.tuple #[Pq (pl D).nd,.int .i64 (I:Int),.int .i64 0]:=by unfold namV;rw [Ja (by omega),gg];rfl
 rw [hn] at HN
 have HC:=Qa (fun w2 (hb:Below w.heap.size w w2)=>changed_any (h.below hb) hG.z0 (t:Int))
 rw [listV_ok h2] at HC
 have Qc:=Qa (fun w2=>newName_any u w2 hm)
 unfold RetI at Qc
 rw [h3] at Qc
 have Qj:=Qa (fun w2 (hb:Below w.heap.size w w2)=>(h.below hb).slot i2 hni)
 have Qe:=Qa (fun w2 (hb:Below w.heap.size w w2)=>((h.below hb).ino I i2 hni).c0)
 have Qq:=Qa (fun w2 (hb:Below w.heap.size w w2)=>((h.below hb).ino t t2 (by rw [htk];decide)).c5d htk)
 have Qf:=Qa (fun w2 (hb:Below w.heap.size w w2)=>(h.below hb).get hG htk u)
 have HF:=Qa (fun w2 v hb=>RetG.same (w':=w2) h v hb)
 have da:=nameE_ok h3
 have ja:I≠t:=fun e=>by subst e;rw [below_self] at hb;cases hb
 have Qg:=Qa (fun w2 (hb:Below w.heap.size w w2)=>within_any (h.below hb) hG iroot htk (htl rfl))
 rw [hb] at Qg
 rw [hk] at Qe
 obtain ⟨_,_,J',hJ',j1,j2,_,hlj,hnj⟩:=hG.1.lead hu
 obtain rfl:J=J':=by omega
 have hv:=Qa ((rename_repl h1 gg h2 h3 (fun _=>hb) hu hJI).trans (Jb he))
 rw [hv.out]
 have xa:getV u (S.ino t).dir=.tuple #[.int .i64 (J:Int),.int .i64 0]:=by unfold getV;rw [hu]
 rw [xa] at Qf
 have Qk:=Qa (fun w2 (hb:Below w.heap.size w w2)=>(h.below hb).slot j2 hnj)
 have Qh:=Qa (fun w2 (hb:Below w.heap.size w w2)=>replaces_any (h.below hb) hG hni hnj)
 have q1:((J:Int) == (I:Int))=false:=by simp;omega
 rw [he] at Qh
 have Ql:=Qa (fun w2 (hb:Below w.heap.size w w2)=>unname_any (h.below hb) hG hr hT hu)
 obtain ⟨f1,f2,f3,f4⟩:=drop_facts hG hg hu hJI ja (repl_dir he)
 have Qi:=Qa (fun w2 w7 (hb:Below w.heap.size w w2) (hx:NxF w2 w7 P lo st qb pl tag (S.drop (t:Int) u (J:Int)) room T)=>(show TailE w P lo st qb pl tag (S.drop (t:Int) u (J:Int)) room T D t I s u (S.ino I).kind (S.ino I).parent w7 from by
  obtain ⟨T',hT',qo',pl',tag',k1,k2,k3⟩:=hx
  have:=tail_any (w:=w) (pl:=pl) (tag:=tag) (T0:=T) (s:=s) (u:=u) (I:=I) f1 hT' f2 f3 (by rw [f4];exact hni) ya ja da hm k1 ((Stp.below hb).trans k2) k3
  rw [f4] at this;exact this))
 unfold TailE at Qi
 clear f1 f2 f3 f4
 rw [hk] at Qi
 generalize (pl D).nd=N at *
 generalize (pl I).nd=M at *
 generalize (pl t).nd=U at *
 generalize (pl t).di=E at *
 generalize (pl J).nd=V at *
 clear h hG hr hT hn xa hv hg gg h1 h2 h3 HF hu hk he hb
 go_enter Tryz.func66,Tryz.ntmps66
 go_wp2_with fail
 refine HN.out.mono ?_
 rintro e w2 ⟨rfl,hb⟩
 have Qm:=Qa (HC.out _ hb)
 go_wp2_with fail
 refine Qm.out.mono ?_
 rintro e w3 ⟨rfl,rfl⟩
 go_wp2_with fail
 refine (Qc.out _).mono ?_
 rintro e w4 ⟨rfl,hb4⟩
 have qa:=dn.below_step hb hb4
 have Qd:=Qa qa
 have cs:=Qj.out w4 qa
 have c0:=Qe.out w4 qa
 have ct:=Qq.out w4 qa
 clear hb hb4 HN HC Qm Qc qa
 go_wp2_with fail
 refine (Qg.out w4 Qd.out).mono ?_
 rintro e w4 ⟨rfl,rfl⟩
 clear Qg
 have Qn:=Qa (Qf.out w4 Qd.out)
 clear Qf
 go_wp2_with fail
 refine Qn.out.mono ?_
 rintro e w6 ⟨rfl,hb6⟩
 have ma:=dn.below_step Qd.out hb6
 have Qr:=Qa ma
 clear Qn cs c0 ct Qd hb6
 have cs:=Qj.out w6 ma
 have c0:=Qe.out w6 ma
 have cj:=Qk.out w6 ma
 have Qb:=Qa (Qh.out w6 ma)
 have Qo:=Qa (Ql.out w6 ma)
 clear Qh Qk Ql ma
 go_wp2_with fail
 refine Qb.out.mono ?_
 rintro e w6 ⟨rfl,rfl⟩
 go_wp2_with fail
 refine Qo.out.mono ?_
 rintro e w9 ⟨rfl,hx⟩
 clear cs c0 cj Qo Qb
 obtain ⟨C,c5,hq⟩:=Qi.out _ w9 Qr.out hx
 have HQ:=Qa hq
 clear hq
 go_wp2_with fail
 refine HQ.out.mono ?_
 rintro e w7 ⟨v7,rfl,C2,c52,hq2⟩
 have Qp:=Qa hq2
 clear hq2 HQ c5
 go_wp2_with fail
 refine Qp.out.mono ?_
 rintro e w8 ⟨rfl,a0,a6,f6,r1,r2⟩
 have Qt:=Qa r1
 have Qs:=Qa r2
 clear r1 r2 Qp c52
 go_wp2_with fail
 go_ret
 exact Qs.out (by trivial)
theorem rename_newF (h:CB w P lo st qb qo pl tag S room (freeL S) T) (hG:br.Good S room) (hr:room≤65536) (hT:T≤900000) {D t I:Nat} {s u:ByteArray} (hm:u.size≤9223372036854775807) (h1:S.dirE (D:Int) true=0) (hg:lget s (S.ino D).dir=some (I:Int)) (gg:S.get (D:Int) s=((I:Int),0)) (h2:S.dirE (t:Int) true=0) (h3:nameE u=0) (hk:(S.ino I).kind≠2) (hu:lget u (S.ino t).dir=none):Calls Tryz.prog 66 #[Pq P,.int .i64 (D:Int),.string s,.int .i64 (t:Int),.string u] w (RetG w P lo st qb tag (.int .i64 (S.rename (D:Int) s (t:Int) u).1) (S.rename (D:Int) s (t:Int) u).2 room T):=by
 obtain ⟨D',hD',d1,d2,hDk,_⟩:=dirE_ok h1
 obtain rfl:D=D':=by omega
 obtain ⟨t',ht',t1,t2,htk,htl⟩:=dirE_ok h2
 obtain rfl:t=t':=by omega
 obtain ⟨_,_,I',hI',i1,i2,iroot,hli,hni⟩:=hG.1.lead hg
 obtain rfl:I=I':=by omega
 have xa:I≠D:=fun e=>hG.1.own hG.2 (D:=D) (s:=s) (by rw [hg,e])
 have HN:=Qa (named_any h hG (D:Int) s)
 unfold RetW at HN
 have hn:namV S pl (D:Int) s=.tuple #[Pq (pl D).nd,.int .i64 (I:Int),.int .i64 0]:=by unfold namV;rw [Ja (by omega),gg];rfl
 rw [hn] at HN
 have HC:=Qa (fun w2 (hb:Below w.heap.size w w2)=>changed_any (h.below hb) hG.z0 (t:Int))
 rw [listV_ok h2] at HC
 have Qb:=Qa (fun w2=>newName_any u w2 hm)
 unfold RetI at Qb
 rw [h3] at Qb
 have Qe:=Qa (fun w2 (hb:Below w.heap.size w w2)=>(h.below hb).slot i2 hni)
 have Qf:=Qa (fun w2 (hb:Below w.heap.size w w2)=>((h.below hb).ino I i2 hni).c0)
 have Qk:=Qa (fun w2 (hb:Below w.heap.size w w2)=>((h.below hb).ino t t2 (by rw [htk];decide)).c5d htk)
 have Qc:=Qa (fun w2 (hb:Below w.heap.size w w2)=>(h.below hb).get hG htk u)
 have HF:=Qa (fun w2 v hb=>RetG.same (w':=w2) h v hb)
 have ya:=nameE_ok h3
 have da:I≠t:=fun e=>by subst e;exact hk htk
 have ga:((S.ino I).kind == 2)=false:=by simpa using hk
 have hv:=Qa (show S.rename (D:Int) s (t:Int) u=(0,S.move (D:Int) s (t:Int) u (I:Int)) by rw [rename_pre h1 gg h2 h3 (fun e=>absurd e hk),hu])
 rw [hv.out]
 have ja:getV u (S.ino t).dir=.tuple #[.int .i64 0,.int .i64 2]:=by unfold getV;rw [hu]
 rw [ja] at Qc
 have Qg:=Qa (fun w2 (hb:Below w.heap.size w w2)=>tail_any (w:=w) (T0:=T) (s:=s) (u:=u) hG (Nat.le_succ T) hDk htk hni xa da ya hm (h.below hb) (Stp.below hb) (fun _ _=>rfl))
 unfold TailE at Qg
 have Ql:=Qa hk
 generalize (S.ino I).kind=K at *
 generalize (pl D).nd=N at *
 generalize (pl I).nd=M at *
 generalize (pl t).nd=U at *
 generalize (pl t).di=E at *
 clear h hG hr hT hn ja hv hg gg h1 h2 h3 HF hu hk
 go_enter Tryz.func66,Tryz.ntmps66
 go_wp2_with fail
 refine HN.out.mono ?_
 rintro e w2 ⟨rfl,hb⟩
 have Qh:=Qa (HC.out _ hb)
 go_wp2_with fail
 refine Qh.out.mono ?_
 rintro e w3 ⟨rfl,rfl⟩
 go_wp2_with fail
 refine (Qb.out _).mono ?_
 rintro e w4 ⟨rfl,hb4⟩
 have ma:=dn.below_step hb hb4
 have Qd:=Qa ma
 have cs:=Qe.out w4 ma
 have c0:=Qf.out w4 ma
 have ct:=Qk.out w4 ma
 clear hb hb4 HN HC Qh Qb ma
 have Qi:=Qa (Qc.out w4 Qd.out)
 clear Qc
 go_wp2_with fail
 refine Qi.out.mono ?_
 rintro e w6 ⟨rfl,hb6⟩
 have qa:=dn.below_step Qd.out hb6
 have Qn:=Qa qa
 clear Qi cs c0 ct Qd hb6
 have cs:=Qe.out w6 qa
 have c0:=Qf.out w6 qa
 obtain ⟨C,c5,hq⟩:=Qg.out w6 qa
 have HQ:=Qa hq
 clear hq
 go_wp2_with fail
 refine HQ.out.mono ?_
 rintro e w7 ⟨v7,rfl,C2,c52,hq2⟩
 have Qj:=Qa hq2
 clear hq2 HQ c5
 go_wp2_with fail
 refine Qj.out.mono ?_
 rintro e w8 ⟨rfl,a0,a6,f6,r1,r2⟩
 have Qm:=Qa r1
 have Qo:=Qa r2
 clear r1 r2 Qj c52
 go_wp2_with fail
 go_ret
 exact Qm.out Ql.out
theorem rename_sameF (h:CB w P lo st qb qo pl tag S room (freeL S) T) (hG:br.Good S room) (hr:room≤65536) (hT:T≤900000) {D t I:Nat} {s u:ByteArray} (hm:u.size≤9223372036854775807) (h1:S.dirE (D:Int) true=0) (hg:lget s (S.ino D).dir=some (I:Int)) (gg:S.get (D:Int) s=((I:Int),0)) (h2:S.dirE (t:Int) true=0) (h3:nameE u=0) (hk:(S.ino I).kind≠2) (hu:lget u (S.ino t).dir=some (I:Int)):Calls Tryz.prog 66 #[Pq P,.int .i64 (D:Int),.string s,.int .i64 (t:Int),.string u] w (RetG w P lo st qb tag (.int .i64 (S.rename (D:Int) s (t:Int) u).1) (S.rename (D:Int) s (t:Int) u).2 room T):=by
 obtain ⟨D',hD',d1,d2,hDk,_⟩:=dirE_ok h1
 obtain rfl:D=D':=by omega
 obtain ⟨t',ht',t1,t2,htk,htl⟩:=dirE_ok h2
 obtain rfl:t=t':=by omega
 obtain ⟨_,_,I',hI',i1,i2,iroot,hli,hni⟩:=hG.1.lead hg
 obtain rfl:I=I':=by omega
 have xa:I≠D:=fun e=>hG.1.own hG.2 (D:=D) (s:=s) (by rw [hg,e])
 have HN:=Qa (named_any h hG (D:Int) s)
 unfold RetW at HN
 have hn:namV S pl (D:Int) s=.tuple #[Pq (pl D).nd,.int .i64 (I:Int),.int .i64 0]:=by unfold namV;rw [Ja (by omega),gg];rfl
 rw [hn] at HN
 have HC:=Qa (fun w2 (hb:Below w.heap.size w w2)=>changed_any (h.below hb) hG.z0 (t:Int))
 rw [listV_ok h2] at HC
 have Qb:=Qa (fun w2=>newName_any u w2 hm)
 unfold RetI at Qb
 rw [h3] at Qb
 have Qe:=Qa (fun w2 (hb:Below w.heap.size w w2)=>(h.below hb).slot i2 hni)
 have Qf:=Qa (fun w2 (hb:Below w.heap.size w w2)=>((h.below hb).ino I i2 hni).c0)
 have Qi:=Qa (fun w2 (hb:Below w.heap.size w w2)=>((h.below hb).ino t t2 (by rw [htk];decide)).c5d htk)
 have Qc:=Qa (fun w2 (hb:Below w.heap.size w w2)=>(h.below hb).get hG htk u)
 have HF:=Qa (fun w2 v hb=>RetG.same (w':=w2) h v hb)
 have ya:=nameE_ok h3
 have da:I≠t:=fun e=>by subst e;exact hk htk
 have ga:((S.ino I).kind == 2)=false:=by simpa using hk
 have hv:=Qa (show S.rename (D:Int) s (t:Int) u=(0,S) by rw [rename_pre h1 gg h2 h3 (fun e=>absurd e hk),hu];dsimp only;rw [Jb rfl])
 rw [hv.out]
 have ja:getV u (S.ino t).dir=.tuple #[.int .i64 (I:Int),.int .i64 0]:=by unfold getV;rw [hu]
 rw [ja] at Qc
 generalize (S.ino I).kind=K at *
 generalize (pl D).nd=N at *
 generalize (pl I).nd=M at *
 generalize (pl t).nd=U at *
 generalize (pl t).di=E at *
 clear h hG hr hT hn ja hv hg gg h1 h2 h3 hu hk
 go_enter Tryz.func66,Tryz.ntmps66
 go_wp2_with fail
 refine HN.out.mono ?_
 rintro e w2 ⟨rfl,hb⟩
 have Qg:=Qa (HC.out _ hb)
 go_wp2_with fail
 refine Qg.out.mono ?_
 rintro e w3 ⟨rfl,rfl⟩
 go_wp2_with fail
 refine (Qb.out _).mono ?_
 rintro e w4 ⟨rfl,hb4⟩
 have ma:=dn.below_step hb hb4
 have Qd:=Qa ma
 have cs:=Qe.out w4 ma
 have c0:=Qf.out w4 ma
 have ct:=Qi.out w4 ma
 clear hb hb4 HN HC Qg Qb ma
 have Qh:=Qa (Qc.out w4 Qd.out)
 clear Qc
 go_wp2_with fail
 refine Qh.out.mono ?_
 rintro e w6 ⟨rfl,hb6⟩
 have qa:=dn.below_step Qd.out hb6
 have Qj:=Qa qa
 clear Qh cs c0 ct Qd hb6
 have cs:=Qe.out w6 qa
 have c0:=Qf.out w6 qa
 go_wp2_with fail
 go_ret
 exact HF.out _ _ qa
theorem rename_barsF (h:CB w P lo st qb qo pl tag S room (freeL S) T) (hG:br.Good S room) (hr:room≤65536) (hT:T≤900000) {D t I:Nat} {s u:ByteArray} (hm:u.size≤9223372036854775807) (h1:S.dirE (D:Int) true=0) (hg:lget s (S.ino D).dir=some (I:Int)) (gg:S.get (D:Int) s=((I:Int),0)) (h2:S.dirE (t:Int) true=0) (h3:nameE u=0) (hk:(S.ino I).kind≠2) {J:Nat} (hu:lget u (S.ino t).dir=some (J:Int)) (hJI:J≠I) (he:replE S I J≠0):Calls Tryz.prog 66 #[Pq P,.int .i64 (D:Int),.string s,.int .i64 (t:Int),.string u] w (RetG w P lo st qb tag (.int .i64 (S.rename (D:Int) s (t:Int) u).1) (S.rename (D:Int) s (t:Int) u).2 room T):=by
 obtain ⟨D',hD',d1,d2,hDk,_⟩:=dirE_ok h1
 obtain rfl:D=D':=by omega
 obtain ⟨t',ht',t1,t2,htk,htl⟩:=dirE_ok h2
 obtain rfl:t=t':=by omega
 obtain ⟨_,_,I',hI',i1,i2,iroot,hli,hni⟩:=hG.1.lead hg
 obtain rfl:I=I':=by omega
 have xa:I≠D:=fun e=>hG.1.own hG.2 (D:=D) (s:=s) (by rw [hg,e])
 have HN:=Qa (named_any h hG (D:Int) s)
 unfold RetW at HN
 have hn:namV S pl (D:Int) s=.tuple #[Pq (pl D).nd,.int .i64 (I:Int),.int .i64 0]:=by unfold namV;rw [Ja (by omega),gg];rfl
 rw [hn] at HN
 have HC:=Qa (fun w2 (hb:Below w.heap.size w w2)=>changed_any (h.below hb) hG.z0 (t:Int))
 rw [listV_ok h2] at HC
 have Qb:=Qa (fun w2=>newName_any u w2 hm)
 unfold RetI at Qb
 rw [h3] at Qb
 have Qf:=Qa (fun w2 (hb:Below w.heap.size w w2)=>(h.below hb).slot i2 hni)
 have Qg:=Qa (fun w2 (hb:Below w.heap.size w w2)=>((h.below hb).ino I i2 hni).c0)
 have Ql:=Qa (fun w2 (hb:Below w.heap.size w w2)=>((h.below hb).ino t t2 (by rw [htk];decide)).c5d htk)
 have Qc:=Qa (fun w2 (hb:Below w.heap.size w w2)=>(h.below hb).get hG htk u)
 have HF:=Qa (fun w2 v hb=>RetG.same (w':=w2) h v hb)
 have ya:=nameE_ok h3
 have da:I≠t:=fun e=>by subst e;exact hk htk
 have ga:((S.ino I).kind == 2)=false:=by simpa using hk
 obtain ⟨_,_,J',hJ',j1,j2,_,hlj,hnj⟩:=hG.1.lead hu
 obtain rfl:J=J':=by omega
 have hv:=Qa ((rename_repl h1 gg h2 h3 (fun e=>absurd e hk) hu hJI).trans (Ja he))
 rw [hv.out]
 have ja:getV u (S.ino t).dir=.tuple #[.int .i64 (J:Int),.int .i64 0]:=by unfold getV;rw [hu]
 rw [ja] at Qc
 have Qh:=Qa (fun w2 (hb:Below w.heap.size w w2)=>(h.below hb).slot j2 hnj)
 have Qi:=Qa (fun w2 (hb:Below w.heap.size w w2)=>replaces_any (h.below hb) hG hni hnj)
 have q1:((J:Int) == (I:Int))=false:=by simp;omega
 generalize replE S I J=x at *
 have qx:(x != 0)=true:=by simpa using he
 generalize (S.ino I).kind=K at *
 generalize (pl D).nd=N at *
 generalize (pl I).nd=M at *
 generalize (pl t).nd=U at *
 generalize (pl t).di=E at *
 generalize (pl J).nd=V at *
 clear h hG hr hT hn ja hv hg gg h1 h2 h3 hu hk
 go_enter Tryz.func66,Tryz.ntmps66
 go_wp2_with fail
 refine HN.out.mono ?_
 rintro e w2 ⟨rfl,hb⟩
 have Qj:=Qa (HC.out _ hb)
 go_wp2_with fail
 refine Qj.out.mono ?_
 rintro e w3 ⟨rfl,rfl⟩
 go_wp2_with fail
 refine (Qb.out _).mono ?_
 rintro e w4 ⟨rfl,hb4⟩
 have qa:=dn.below_step hb hb4
 have Qd:=Qa qa
 have cs:=Qf.out w4 qa
 have c0:=Qg.out w4 qa
 have ct:=Ql.out w4 qa
 clear hb hb4 HN HC Qj Qb qa
 have Qk:=Qa (Qc.out w4 Qd.out)
 clear Qc
 go_wp2_with fail
 refine Qk.out.mono ?_
 rintro e w6 ⟨rfl,hb6⟩
 have ma:=dn.below_step Qd.out hb6
 have Qm:=Qa ma
 clear Qk cs c0 ct Qd hb6
 have cs:=Qf.out w6 ma
 have c0:=Qg.out w6 ma
 have cj:=Qh.out w6 ma
 have Qe:=Qa (Qi.out w6 ma)
 clear Qi Qh
 go_wp2_with fail
 refine Qe.out.mono ?_
 rintro e w7 ⟨rfl,rfl⟩
 go_wp2_with fail
 go_ret
 exact HF.out _ _ ma
theorem rename_overF (h:CB w P lo st qb qo pl tag S room (freeL S) T) (hG:br.Good S room) (hr:room≤65536) (hT:T≤900000) {D t I:Nat} {s u:ByteArray} (hm:u.size≤9223372036854775807) (h1:S.dirE (D:Int) true=0) (hg:lget s (S.ino D).dir=some (I:Int)) (gg:S.get (D:Int) s=((I:Int),0)) (h2:S.dirE (t:Int) true=0) (h3:nameE u=0) (hk:(S.ino I).kind≠2) {J:Nat} (hu:lget u (S.ino t).dir=some (J:Int)) (hJI:J≠I) (he:replE S I J=0):Calls Tryz.prog 66 #[Pq P,.int .i64 (D:Int),.string s,.int .i64 (t:Int),.string u] w (RetG w P lo st qb tag (.int .i64 (S.rename (D:Int) s (t:Int) u).1) (S.rename (D:Int) s (t:Int) u).2 room T):=by
 obtain ⟨D',hD',d1,d2,hDk,_⟩:=dirE_ok h1
 obtain rfl:D=D':=by omega
 obtain ⟨t',ht',t1,t2,htk,htl⟩:=dirE_ok h2
 obtain rfl:t=t':=by omega
 obtain ⟨_,_,I',hI',i1,i2,iroot,hli,hni⟩:=hG.1.lead hg
 obtain rfl:I=I':=by omega
 have ya:I≠D:=fun e=>hG.1.own hG.2 (D:=D) (s:=s) (by rw [hg,e])
 have HN:=Qa (named_any h hG (D:Int) s)
 unfold RetW at HN
 have hn:namV S pl (D:Int) s=.tuple #[Pq (pl D).nd,.int .i64 (I:Int),.int .i64 0]:=by unfold namV;rw [Ja (by omega),gg];rfl
 rw [hn] at HN
 have HC:=Qa (fun w2 (hb:Below w.heap.size w w2)=>changed_any (h.below hb) hG.z0 (t:Int))
 rw [listV_ok h2] at HC
 have Qc:=Qa (fun w2=>newName_any u w2 hm)
 unfold RetI at Qc
 rw [h3] at Qc
 have Qg:=Qa (fun w2 (hb:Below w.heap.size w w2)=>(h.below hb).slot i2 hni)
 have Qh:=Qa (fun w2 (hb:Below w.heap.size w w2)=>((h.below hb).ino I i2 hni).c0)
 have Qp:=Qa (fun w2 (hb:Below w.heap.size w w2)=>((h.below hb).ino t t2 (by rw [htk];decide)).c5d htk)
 have Qd:=Qa (fun w2 (hb:Below w.heap.size w w2)=>(h.below hb).get hG htk u)
 have HF:=Qa (fun w2 v hb=>RetG.same (w':=w2) h v hb)
 have da:=nameE_ok h3
 have ja:I≠t:=fun e=>by subst e;exact hk htk
 have ga:((S.ino I).kind == 2)=false:=by simpa using hk
 obtain ⟨_,_,J',hJ',j1,j2,_,hlj,hnj⟩:=hG.1.lead hu
 obtain rfl:J=J':=by omega
 have hv:=Qa ((rename_repl h1 gg h2 h3 (fun e=>absurd e hk) hu hJI).trans (Jb he))
 rw [hv.out]
 have xa:getV u (S.ino t).dir=.tuple #[.int .i64 (J:Int),.int .i64 0]:=by unfold getV;rw [hu]
 rw [xa] at Qd
 have Qi:=Qa (fun w2 (hb:Below w.heap.size w w2)=>(h.below hb).slot j2 hnj)
 have Qe:=Qa (fun w2 (hb:Below w.heap.size w w2)=>replaces_any (h.below hb) hG hni hnj)
 have q1:((J:Int) == (I:Int))=false:=by simp;omega
 rw [he] at Qe
 have Qj:=Qa (fun w2 (hb:Below w.heap.size w w2)=>unname_any (h.below hb) hG hr hT hu)
 obtain ⟨f1,f2,f3,f4⟩:=drop_facts hG hg hu hJI ja (repl_dir he)
 have Qk:=Qa (fun w2 w7 (hb:Below w.heap.size w w2) (hx:NxF w2 w7 P lo st qb pl tag (S.drop (t:Int) u (J:Int)) room T)=>(show TailE w P lo st qb pl tag (S.drop (t:Int) u (J:Int)) room T D t I s u (S.ino I).kind (S.ino I).parent w7 from by
  obtain ⟨T',hT',qo',pl',tag',k1,k2,k3⟩:=hx
  have:=tail_any (w:=w) (pl:=pl) (tag:=tag) (T0:=T) (s:=s) (u:=u) (I:=I) f1 hT' f2 f3 (by rw [f4];exact hni) ya ja da hm k1 ((Stp.below hb).trans k2) k3
  rw [f4] at this;exact this))
 unfold TailE at Qk
 clear f1 f2 f3 f4
 have Qq:=Qa hk
 generalize (S.ino I).kind=K at *
 generalize (pl D).nd=N at *
 generalize (pl I).nd=M at *
 generalize (pl t).nd=U at *
 generalize (pl t).di=E at *
 generalize (pl J).nd=V at *
 clear h hG hr hT hn xa hv hg gg h1 h2 h3 HF hu hk he
 go_enter Tryz.func66,Tryz.ntmps66
 go_wp2_with fail
 refine HN.out.mono ?_
 rintro e w2 ⟨rfl,hb⟩
 have Ql:=Qa (HC.out _ hb)
 go_wp2_with fail
 refine Ql.out.mono ?_
 rintro e w3 ⟨rfl,rfl⟩
 go_wp2_with fail
 refine (Qc.out _).mono ?_
 rintro e w4 ⟨rfl,hb4⟩
 have qa:=dn.below_step hb hb4
 have Qf:=Qa qa
 have cs:=Qg.out w4 qa
 have c0:=Qh.out w4 qa
 have ct:=Qp.out w4 qa
 clear hb hb4 HN HC Ql Qc qa
 have Qm:=Qa (Qd.out w4 Qf.out)
 clear Qd
 go_wp2_with fail
 refine Qm.out.mono ?_
 rintro e w6 ⟨rfl,hb6⟩
 have ma:=dn.below_step Qf.out hb6
 have Qr:=Qa ma
 clear Qm cs c0 ct Qf hb6
 have cs:=Qg.out w6 ma
 have c0:=Qh.out w6 ma
 have cj:=Qi.out w6 ma
 have Qb:=Qa (Qe.out w6 ma)
 have Qn:=Qa (Qj.out w6 ma)
 clear Qe Qi Qj ma
 go_wp2_with fail
 refine Qb.out.mono ?_
 rintro e w6 ⟨rfl,rfl⟩
 go_wp2_with fail
 refine Qn.out.mono ?_
 rintro e w9 ⟨rfl,hx⟩
 clear cs c0 cj Qn Qb
 obtain ⟨C,c5,hq⟩:=Qk.out _ w9 Qr.out hx
 have HQ:=Qa hq
 clear hq
 go_wp2_with fail
 refine HQ.out.mono ?_
 rintro e w7 ⟨v7,rfl,C2,c52,hq2⟩
 have Qo:=Qa hq2
 clear hq2 HQ c5
 go_wp2_with fail
 refine Qo.out.mono ?_
 rintro e w8 ⟨rfl,a0,a6,f6,r1,r2⟩
 have Qs:=Qa r1
 have Qt:=Qa r2
 clear r1 r2 Qo c52
 go_wp2_with fail
 go_ret
 exact Qs.out Qq.out
theorem rename_any (h:CB w P lo st qb qo pl tag S room (freeL S) T) (hG:br.Good S room) (hr:room≤65536) (hT:T≤900000) (d:Int) (s:ByteArray) (t:Int) (u:ByteArray) (hm:u.size≤9223372036854775807):Calls Tryz.prog 66 #[Pq P,.int .i64 d,.string s,.int .i64 t,.string u] w (RetG w P lo st qb tag (.int .i64 (S.rename d s t u).1) (S.rename d s t u).2 room T):=by
 have HN:=Qa (named_any h hG d s)
 unfold RetW at HN
 have HF:=Qa (fun w2 v hb=>RetG.same (w':=w2) h v hb)
 by_cases h1:S.dirE d true=0
 ·obtain ⟨D,rfl,d1,d2,hD,hl⟩:=dirE_ok h1
  rcases get_lead h1 s with ⟨g1,g2⟩|⟨v,g1,g2⟩
  ·have hv:=Qa (show S.rename (D:Int) s t u=(2,S) by unfold BS.rename;rw [Ja (by omega),Jb (by rw [g2];decide),g2])
   have hn:namV S pl (D:Int) s=.tuple #[Pq (pl D).nd,.int .i64 0,.int .i64 2]:=by unfold namV;rw [Ja (by omega),g2];rfl
   rw [hn] at HN
   rw [hv.out]
   generalize (pl D).nd=N at *
   clear h hG g1 g2 hn hv h1
   go_enter Tryz.func66,Tryz.ntmps66
   go_wp2_with fail
   refine HN.out.mono ?_
   rintro e w2 ⟨rfl,hb⟩
   go_wp2_with fail
   go_ret
   exact HF.out _ _ hb
  ·have hn:namV S pl (D:Int) s=.tuple #[Pq (pl D).nd,.int .i64 v,.int .i64 0]:=by unfold namV;rw [Ja (by omega),g2];rfl
   obtain ⟨_,_,I,rfl,i1,i2,iroot,hli,hni⟩:=hG.1.lead g1
   by_cases h2:S.dirE t true=0
   ·obtain ⟨t',rfl,t1,t2,htk,htl⟩:=dirE_ok h2
    by_cases h3:nameE u=0
    ·by_cases hk:(S.ino I).kind=2
     ·cases hb:S.below (t':Int) (I:Int) 300
      ·cases hu:lget u (S.ino t').dir with
       | none=>exact rename_newD h hG hr hT hm h1 g1 g2 h2 h3 hk hb hu
       | some old =>
        obtain ⟨_,_,J,rfl,_⟩:=hG.1.lead hu
        by_cases e:J=I
        ·subst e;exact rename_sameD h hG hr hT hm h1 g1 g2 h2 h3 hk hb hu
        ·by_cases he:replE S I J=0
         ·exact rename_overD h hG hr hT hm h1 g1 g2 h2 h3 hk hb hu e he
         ·exact rename_barsD h hG hr hT hm h1 g1 g2 h2 h3 hk hb hu e he
      ·have hv:=Qa (show S.rename (D:Int) s (t':Int) u=(22,S) by
        unfold BS.rename
        rw [Ja (by omega),g2,Ja (by simp),Ja (by omega),Ja (by omega)]
        dsimp only
        rw [at_nat,Jb ⟨hk,hb⟩])
       rw [hv.out]
       rw [hn] at HN
       have HC:=Qa (fun w2 (hb:Below w.heap.size w w2)=>changed_any (h.below hb) hG.z0 (t':Int))
       rw [listV_ok h2] at HC
       have Qb:=Qa (fun w2=>newName_any u w2 hm)
       unfold RetI at Qb
       rw [h3] at Qb
       have Qf:=Qa (fun w2 (hb:Below w.heap.size w w2)=>(h.below hb).slot i2 hni)
       have Qd:=Qa (fun w2 (hb:Below w.heap.size w w2)=>((h.below hb).ino I i2 hni).c0)
       have Qe:=Qa (fun w2 (hb:Below w.heap.size w w2)=>within_any (h.below hb) hG iroot htk (htl rfl))
       rw [hb] at Qe
       rw [hk] at Qd
       generalize (pl D).nd=N at *
       generalize (pl I).nd=M at *
       generalize (pl t').nd=U at *
       clear h hG hr hT hn hv g1 g2 h1 h2 h3 hk hb
       go_enter Tryz.func66,Tryz.ntmps66
       go_wp2_with fail
       refine HN.out.mono ?_
       rintro e w2 ⟨rfl,hb⟩
       have Qc:=Qa (HC.out _ hb)
       go_wp2_with fail
       refine Qc.out.mono ?_
       rintro e w3 ⟨rfl,rfl⟩
       go_wp2_with fail
       refine (Qb.out _).mono ?_
       rintro e w4 ⟨rfl,hb4⟩
       have ma:=dn.below_step hb hb4
       have cs:=Qf.out w4 ma
       have c0:=Qd.out w4 ma
       go_wp2_with fail
       refine (Qe.out w4 ma).mono ?_
       rintro e w5 ⟨rfl,rfl⟩
       go_wp2_with fail
       go_ret
       exact HF.out _ _ ma
     ·cases hu:lget u (S.ino t').dir with
      | none=>exact rename_newF h hG hr hT hm h1 g1 g2 h2 h3 hk hu
      | some old =>
       obtain ⟨_,_,J,rfl,_⟩:=hG.1.lead hu
       by_cases e:J=I
       ·subst e;exact rename_sameF h hG hr hT hm h1 g1 g2 h2 h3 hk hu
       ·by_cases he:replE S I J=0
        ·exact rename_overF h hG hr hT hm h1 g1 g2 h2 h3 hk hu e he
        ·exact rename_barsF h hG hr hT hm h1 g1 g2 h2 h3 hk hu e he
    ·have hv:=Qa (show S.rename (D:Int) s (t':Int) u=(nameE u,S) by unfold BS.rename;rw [Ja (by omega),g2,Ja (by simp),Ja (by omega),Jb h3])
     rw [hv.out]
     rw [hn] at HN
     have HC:=Qa (fun w2 (hb:Below w.heap.size w w2)=>changed_any (h.below hb) hG.z0 (t':Int))
     rw [listV_ok h2] at HC
     have Qb:=Qa (fun w2=>newName_any u w2 hm)
     unfold RetI at Qb
     generalize nameE u=x at *
     have hx:(x != 0)=true:=by simpa using h3
     generalize (pl D).nd=N at *
     generalize (pl t').nd=U at *
     clear h hG hr hT hn hv g1 g2 h1 h2 h3
     go_enter Tryz.func66,Tryz.ntmps66
     go_wp2_with fail
     refine HN.out.mono ?_
     rintro e w2 ⟨rfl,hb⟩
     have Qc:=Qa (HC.out _ hb)
     go_wp2_with fail
     refine Qc.out.mono ?_
     rintro e w3 ⟨rfl,rfl⟩
     go_wp2_with fail
     refine (Qb.out _).mono ?_
     rintro e w4 ⟨rfl,hb4⟩
     go_wp2_with fail
     go_ret
     exact HF.out _ _ (dn.below_step hb hb4)
   ·have hv:=Qa (show S.rename (D:Int) s t u=(S.dirE t true,S) by unfold BS.rename;rw [Ja (by omega),g2,Ja (by simp),Jb h2])
    rw [hv.out]
    rw [hn] at HN
    have HC:=Qa (fun w2 (hb:Below w.heap.size w w2)=>changed_any (h.below hb) hG.z0 t)
    rw [listV_bad h2] at HC
    generalize S.dirE t true=x at *
    have hx:(x != 0)=true:=by simpa using h2
    generalize (pl D).nd=N at *
    clear h hG hr hT hn hv g1 g2 h1 h2
    go_enter Tryz.func66,Tryz.ntmps66
    go_wp2_with fail
    refine HN.out.mono ?_
    rintro e w2 ⟨rfl,hb⟩
    have Qc:=Qa (HC.out _ hb)
    go_wp2_with fail
    refine Qc.out.mono ?_
    rintro e w3 ⟨rfl,rfl⟩
    go_wp2_with fail
    go_ret
    exact HF.out _ _ hb
 ·have hv:=Qa (show S.rename d s t u=(S.dirE d true,S) by unfold BS.rename;rw [Jb h1])
  have hn:namV S pl d s=.tuple #[.pointer none,.int .i64 0,.int .i64 (S.dirE d true)]:=by unfold namV;rw [Jb h1]
  rw [hn] at HN
  rw [hv.out]
  generalize S.dirE d true=x at *
  have hx:(x != 0)=true:=by simpa using h1
  clear h hG hn hv h1
  go_enter Tryz.func66,Tryz.ntmps66
  go_wp2_with fail
  refine HN.out.mono ?_
  rintro e w2 ⟨rfl,hb⟩
  go_wp2_with fail
  go_ret
  exact HF.out _ _ hb
end
end cb
end Go.Proofs.YtgoddboicjfkcaaGreat
