/- Contracts and mathematics, part 11. -/
import Derived.Test.YtgoddboicjfkcaaGreatZ10
set_option linter.unusedVariables false
set_option linter.unusedSimpArgs false
set_option maxRecDepth 100000
set_option maxHeartbeats 8000000
namespace Go.Proofs.YtgoddboicjfkcaaGreat
namespace cb
open Go.RowKit
open qu (KN ins QL)
open dn (Du En lget lset ldel getV nerr dotB Sorted RetV)
open bl (AB Bod BodC StoC Only Pq)
open br
section
variable {w w':World} {P lo st qb room T:Nat} {qo:Option Nat} {pl:Nat→Pl} {tag:Nat→Nat} {S:BS} {L:List KN}
theorem isI_cases (S:BS) (i:Int):S.isI i=false∨∃I:Nat,i=(I:Int)∧1≤I∧I≤200∧(S.ino I).kind≠0∧S.isI (I:Int)=true:=by
 cases h:S.isI i
 ·exact .inl rfl
 ·obtain ⟨I,rfl,h1,h2,h3⟩:=isI_yes h
  exact .inr ⟨I,rfl,h1,h2,h3,h⟩
theorem used_any (h:CB w P lo st qb qo pl tag S room L T):Calls Tryz.prog 57 #[Pq P] w (fun e w'=>e=.returned (.int .i64 (S.used:Int))∧w'=w):=by
 have HU:=Qa (bl.used_any st room _ w h.sto)
 have c0:=h.c0
 generalize S.used=u at *
 clear h
 go_enter Tryz.func57,Tryz.ntmps57
 go_wp2_with fail
 refine HU.out.mono ?_
 rintro e w2 ⟨rfl,rfl⟩
 go_wp2_with fail
 go_ret
 exact ⟨rfl,rfl⟩
theorem CB.bsize (h:CB w P lo st qb qo pl tag S room L T) {k:Nat} (hk:k≤200) (hf:(S.ino k).kind=1):Calls Tryz.prog 180 #[Pq (pl k).bo] w (fun e w'=>e=.returned (.int .i64 ((S.ino k).body.size:Int))∧w=w') :=
 bl.size_any st (pl k).bo (pl k).bm _ w ((h.ino k hk (by rw [hf];decide)).bod hf).c
theorem size_any (h:CB w P lo st qb qo pl tag S room L T) (hG:br.Good S room) {k:Nat} (hk:k≤200) (hn:(S.ino k).kind≠0):Calls Tryz.prog 133 #[Pq (pl k).nd] w (fun e w'=>e=.returned (.int .i64 ((S.ino k).sizeOf:Int))∧w'=w):=by
 have hi:=h.ino k hk hn
 have c0:=hi.c0
 by_cases h1:(S.ino k).kind=1
 ·have HS:=Qa (h.bsize hk h1)
  have hv:=Qa (show (S.ino k).sizeOf=(S.ino k).body.size by unfold Ino.sizeOf;rw [Jb h1])
  have c4:=hi.c4f h1
  rw [h1] at c0
  generalize (S.ino k).sizeOf=r at *
  generalize (S.ino k).body.size=u at *
  generalize (pl k).nd=N at *
  generalize (pl k).bo=M at *
  clear h hi hn h1 hG
  go_enter Tryz.func133,Tryz.ntmps133
  go_wp2_with fail
  refine HS.out.mono ?_
  rintro e w2 ⟨rfl,rfl⟩
  go_wp2_with fail
  go_ret
  exact ⟨by rw [hv.out];rfl,rfl⟩
 ·by_cases h2:(S.ino k).kind=2
  ·have HS:=Qa (h.len hG h2)
   have hv:=Qa (show (S.ino k).sizeOf=(S.ino k).dir.length by unfold Ino.sizeOf;rw [Ja h1,Jb h2])
   have c5:=hi.c5d h2
   rw [h2] at c0
   generalize (S.ino k).sizeOf=r at *
   generalize (S.ino k).dir.length=u at *
   generalize (pl k).nd=N at *
   generalize (pl k).di=M at *
   clear h hi hn h1 h2 hG
   go_enter Tryz.func133,Tryz.ntmps133
   go_wp2_with fail
   refine HS.out.mono ?_
   rintro e w2 ⟨rfl,rfl⟩
   go_wp2_with fail
   go_ret
   exact ⟨by rw [hv.out];rfl,rfl⟩
  ·have hv:=Qa (show (S.ino k).sizeOf=(S.ino k).target.size by
    unfold Ino.sizeOf;rw [Ja h1,Ja h2]
    by_cases h3:(S.ino k).kind=3
    ·rw [Jb h3]
    ·rw [Ja h3,hG.1.noTarget k h3];rfl)
   have c7:=hi.c7
   have ht:=hG.1.target k
   generalize (S.ino k).sizeOf=r at *
   generalize (S.ino k).target=u at *
   generalize (pl k).nd=N at *
   generalize (S.ino k).kind=K at *
   have hs:(u.size:Int)≤9223372036854775807:=by omega
   have e1:(K == 1)=false:=by simpa using h1
   have e2:(K == 2)=false:=by simpa using h2
   clear h hi hn h1 h2 hG
   go_enter Tryz.func133,Tryz.ntmps133
   go_wp2_with fail
   go_ret
   exact ⟨by rw [hv.out];rfl,rfl⟩
theorem target_any (h:CB w P lo st qb qo pl tag S room L T) (hG:br.Good S room) (i:Int):Calls Tryz.prog 60 #[Pq P,.int .i64 i] w (fun e w'=>e=.returned (.tuple #[.string (S.targetOf i).1,.int .i64 (S.targetOf i).2])∧w'=w):=by
 have HA:=Qa (at_any h hG.z0 i)
 rcases isI_cases S i with h1|⟨I,rfl,i1,i2,hn,h1⟩
 ·have hv:=Qa (show S.targetOf i=(⟨#[]⟩,2) by unfold BS.targetOf;rw [Jb h1])
  rw [atV_no h1] at HA
  rw [hv.out]
  clear h hG hv h1
  go_enter Tryz.func60,Tryz.ntmps60
  go_wp2_with fail
  refine HA.out.mono ?_
  rintro e w2 ⟨rfl,rfl⟩
  go_wp2_with fail
  go_ret2
  exact ⟨rfl,rfl⟩
 ·have hi:=h.ino I i2 hn
  have c0:=hi.c0
  have c7:=hi.c7
  rw [atV_yes i1 i2 hn] at HA
  by_cases h3:(S.ino I).kind=3
  ·have hv:=Qa (show S.targetOf (I:Int)=((S.ino I).target,0) by unfold BS.targetOf;rw [Ja (by rw [h1];decide),at_nat,Ja (by omega)])
   rw [hv.out]
   rw [h3] at c0
   generalize (S.ino I).target=u at *
   generalize (pl I).nd=N at *
   clear h hi hn h1 hG hv h3
   go_enter Tryz.func60,Tryz.ntmps60
   go_wp2_with fail
   refine HA.out.mono ?_
   rintro e w2 ⟨rfl,rfl⟩
   go_wp2_with fail
   go_ret2
   exact ⟨rfl,rfl⟩
  ·have hv:=Qa (show S.targetOf (I:Int)=(⟨#[]⟩,22) by unfold BS.targetOf;rw [Ja (by rw [h1];decide),at_nat,Jb h3])
   rw [hv.out]
   generalize (S.ino I).kind=K at *
   generalize (pl I).nd=N at *
   clear h hi hn h1 hG hv c7
   go_enter Tryz.func60,Tryz.ntmps60
   go_wp2_with fail
   refine HA.out.mono ?_
   rintro e w2 ⟨rfl,rfl⟩
   go_wp2_with fail
   go_ret2
   exact ⟨rfl,rfl⟩
def bodV (S:BS) (pl:Nat→Pl) (i:Int):Value:=.tuple #[if S.fileE i=0 then Pq (pl i.toNat).bo else .pointer none,.int .i64 (S.fileE i)]
theorem body_any (h:CB w P lo st qb qo pl tag S room L T) (hG:br.Good S room) (i:Int):Calls Tryz.prog 106 #[Pq P,.int .i64 i] w (fun e w'=>e=.returned (bodV S pl i)∧w'=w):=by
 have HA:=Qa (at_any h hG.z0 i)
 rcases isI_cases S i with h1|⟨I,rfl,i1,i2,hn,h1⟩
 ·have hv:=Qa (show bodV S pl i=.tuple #[.pointer none,.int .i64 2] by
   have:S.fileE i=2:=by
    have hk:S.kindOf i=0:=by unfold BS.kindOf;rw [h1];rfl
    unfold BS.fileE;rw [Jb hk]
   unfold bodV;rw [this];rfl)
  rw [atV_no h1] at HA
  rw [hv.out]
  clear h hG hv h1
  go_enter Tryz.func106,Tryz.ntmps106
  go_wp2_with fail
  refine HA.out.mono ?_
  rintro e w2 ⟨rfl,rfl⟩
  go_wp2_with fail
  go_ret2
  exact ⟨rfl,rfl⟩
 ·have hi:=h.ino I i2 hn
  have c0:=hi.c0
  have hk:S.kindOf (I:Int)=(S.ino I).kind:=by unfold BS.kindOf;rw [Jb h1,at_nat]
  rw [atV_yes i1 i2 hn] at HA
  by_cases e1:(S.ino I).kind=1
  ·have hv:=Qa (show bodV S pl (I:Int)=.tuple #[Pq (pl I).bo,.int .i64 0] by
    have:S.fileE (I:Int)=0:=by unfold BS.fileE;rw [hk,e1];rfl
    unfold bodV;rw [this];rfl)
   rw [hv.out]
   rw [e1] at c0
   have c4:=hi.c4f e1
   generalize (pl I).nd=N at *
   generalize (pl I).bo=M at *
   clear h hi hn h1 hG hv e1 hk
   go_enter Tryz.func106,Tryz.ntmps106
   go_wp2_with fail
   refine HA.out.mono ?_
   rintro e w2 ⟨rfl,rfl⟩
   go_wp2_with fail
   go_ret2
   exact ⟨rfl,rfl⟩
  ·by_cases e2:(S.ino I).kind=2
   ·have hv:=Qa (show bodV S pl (I:Int)=.tuple #[.pointer none,.int .i64 21] by
     have:S.fileE (I:Int)=21:=by unfold BS.fileE;rw [hk,e2];rfl
     unfold bodV;rw [this];rfl)
    rw [hv.out]
    rw [e2] at c0
    generalize (pl I).nd=N at *
    clear h hi hn h1 hG hv e1 hk e2
    go_enter Tryz.func106,Tryz.ntmps106
    go_wp2_with fail
    refine HA.out.mono ?_
    rintro e w2 ⟨rfl,rfl⟩
    go_wp2_with fail
    go_ret2
    exact ⟨rfl,rfl⟩
   ·have hv:=Qa (show bodV S pl (I:Int)=.tuple #[.pointer none,.int .i64 22] by
     have:S.fileE (I:Int)=22:=by unfold BS.fileE;rw [hk,Ja hn,Ja e2,Ja e1]
     unfold bodV;rw [this];rfl)
    rw [hv.out]
    generalize (pl I).nd=N at *
    generalize (S.ino I).kind=K at *
    have q2:(K == 2)=false:=by simpa using e2
    clear h hi hn h1 hG hv hk
    go_enter Tryz.func106,Tryz.ntmps106
    go_wp2_with fail
    refine HA.out.mono ?_
    rintro e w2 ⟨rfl,rfl⟩
    go_wp2_with fail
    go_ret2
    exact ⟨rfl,rfl⟩
theorem all_any (h:CB w P lo st qb qo pl tag S room L T) (hG:br.Good S room) (i:Int):Calls Tryz.prog 53 #[Pq P,.int .i64 i] w (fun e w'=>∃o c,e=.returned (.tuple #[.slice (dn.Ao o) (S.all i).1.length c,.int .i64 (S.all i).2])∧(S.all i).1.length≤c∧c≤maxLen∧dn.Sl w' w.heap.size o c (S.all i).1∧Below w.heap.size w w'):=by
 have HC:=Qa (listed_any h hG.z0 i)
 by_cases h1:S.dirE i false=0
 ·obtain ⟨D,rfl,d1,d2,hD,hl⟩:=dirE_ok h1
  have hv:=Qa (show S.all (D:Int)=((S.ino D).dir,0) by unfold BS.all;rw [Ja (by omega),at_nat])
  rw [listV_ok h1] at HC
  have hi:=h.ino D d2 (by rw [hD];decide)
  have c5:=hi.c5d hD
  have ma:=hG.1.dirLen D
  have HG:=Qa (dn.all_any _ _ _ _ _ w (by omega) (hi.dir hD))
  rw [hv.out]
  unfold dn.AllE at HG
  dsimp only
  generalize (S.ino D).dir=K at *
  generalize (pl D).nd=N at *
  generalize (pl D).di=M at *
  clear h h1 hl hG hi hv hD
  go_enter Tryz.func53,Tryz.ntmps53
  go_wp2_with fail
  refine HC.out.mono ?_
  rintro e w2 ⟨rfl,rfl⟩
  go_wp2_with fail
  refine HG.out.mono ?_
  rintro e w4 ⟨o,c,rfl,k1,k2,k3,hb4⟩
  clear c5
  go_wp2_with fail
  go_ret2
  exact ⟨o,c,rfl,k1,k2,k3,hb4⟩
 ·have hv:=Qa (show S.all i=([],S.dirE i false) by unfold BS.all;rw [Jb h1])
  rw [hv.out]
  rw [listV_bad h1] at HC
  generalize S.dirE i false=x at *
  have hr:(x != 0)=true:=by simpa using h1
  clear h h1 hG hv
  go_enter Tryz.func53,Tryz.ntmps53
  go_wp2_with fail
  refine HC.out.mono ?_
  rintro e w2 ⟨rfl,rfl⟩
  go_wp2_with fail
  go_ret2
  exact ⟨none,0,rfl,Nat.le_refl _,by decide,⟨rfl,rfl⟩,Below.refl _ _⟩
end
section
variable {w w':World} {P lo st qb room T:Nat} {qo:Option Nat} {pl:Nat→Pl} {tag:Nat→Nat} {S:BS} {L:List KN}
theorem bpV_ptr (p:Pl) (x:Ino):∃a,bpV p x=.pointer a:=by unfold bpV;split <;> exact ⟨_,rfl⟩
theorem dpV_ptr (p:Pl) (x:Ino):∃a,dpV p x=.pointer a:=by unfold dpV;split <;> exact ⟨_,rfl⟩
def toldV (S:BS) (pl:Nat→Pl) (i:Int):Value :=
 if S.isI i=true then .agg #[.int .i64 (S.at i).kind,.int .i64 (S.at i).links,.int .i64 (S.at i).holds,.int .i64 (S.at i).marks,bpV (pl i.toNat) (S.at i),dpV (pl i.toNat) (S.at i),.int .i64 (S.at i).parent,.string (S.at i).target]
 else .agg #[.int .i64 0,.int .i64 0,.int .i64 0,.int .i64 0,.pointer none,.pointer none,.int .i64 0,.string ⟨#[]⟩]
theorem told_any (h:CB w P lo st qb qo pl tag S room L T) (hG:br.Good S room) (i:Int):Calls Tryz.prog 135 #[Pq P,.int .i64 i] w (RetW w (toldV S pl i)):=by
 have HA:=Qa (fun ob=>at_any (h.below (dn.below_alloc w ob)) hG.z0 i)
 have HB:=Qa (fun ob=>dn.below_alloc w ob)
 unfold RetW
 rcases isI_cases S i with h1|⟨I,rfl,i1,i2,hn,h1⟩
 ·have hv:=Qa (show toldV S pl i=.agg #[.int .i64 0,.int .i64 0,.int .i64 0,.int .i64 0,.pointer none,.pointer none,.int .i64 0,.string ⟨#[]⟩] by unfold toldV;rw [h1];rfl)
  rw [atV_no h1] at HA
  rw [hv.out]
  clear h hG hv h1
  go_enter Tryz.func135,Tryz.ntmps135
  go_wp2_with fail
  refine (HA.out _).mono ?_
  rintro e w2 ⟨rfl,rfl⟩
  go_wp2_with fail
  exact bodyPost_ret (v:=.agg #[.int .i64 0,.int .i64 0,.int .i64 0,.int .i64 0,.pointer none,.pointer none,.int .i64 0,.string ⟨#[]⟩]) (by simp [results,Tryz.results135,go_sem]) rfl ⟨rfl,HB.out _⟩
 ·have hv:=Qa (show toldV S pl (I:Int)=.agg #[.int .i64 (S.ino I).kind,.int .i64 (S.ino I).links,.int .i64 (S.ino I).holds,.int .i64 (S.ino I).marks,bpV (pl I) (S.ino I),dpV (pl I) (S.ino I),.int .i64 (S.ino I).parent,.string (S.ino I).target] by
   unfold toldV;rw [Jb h1,at_nat];rfl)
  have hi:=fun ob=>(h.ino I i2 hn).below (dn.below_alloc w ob)
  have c0:=fun ob=>(hi ob).c0
  have c1:=fun ob=>(hi ob).c1
  have c2:=fun ob=>(hi ob).c2
  have c3:=fun ob=>(hi ob).c3
  have c4:=fun ob=>(hi ob).c4
  have c5:=fun ob=>(hi ob).c5
  have c6:=fun ob=>(hi ob).c6
  have c7:=fun ob=>(hi ob).c7
  have hlt:=(h.ino I i2 hn).nlt
  rw [atV_yes i1 i2 hn] at HA
  rw [hv.out]
  obtain ⟨k4,e4⟩:=bpV_ptr (pl I) (S.ino I)
  obtain ⟨k5,e5⟩:=dpV_ptr (pl I) (S.ino I)
  rw [e4] at c4 ⊢
  rw [e5] at c5 ⊢
  generalize (pl I).nd=N at *
  generalize (S.ino I).kind=k0 at *
  generalize (S.ino I).links=k1 at *
  generalize (S.ino I).holds=k2 at *
  generalize (S.ino I).marks=k3 at *
  generalize (S.ino I).parent=k6 at *
  generalize (S.ino I).target=k7 at *
  have ma:w.heap.size≠N:=by omega
  clear h hG hv h1 hi hn hlt e4 e5
  go_enter Tryz.func135,Tryz.ntmps135
  go_wp2_with fail
  refine (HA.out _).mono ?_
  rintro e w2 ⟨rfl,rfl⟩
  go_wp2_with fail
  exact bodyPost_ret (v:=.agg #[.int .i64 k0,.int .i64 k1,.int .i64 k2,.int .i64 k3,.pointer k4,.pointer k5,.int .i64 k6,.string k7]) (by simp [results,Tryz.results135,go_sem]) rfl ⟨rfl,HB.out _⟩
theorem kind_any (h:CB w P lo st qb qo pl tag S room L T) (hG:br.Good S room) (i:Int):Calls Tryz.prog 61 #[Pq P,.int .i64 i] w (RetI w (S.kindOf i)):=by
 have HT:=Qa (told_any h hG i)
 unfold RetW at HT
 unfold RetI BS.kindOf
 unfold toldV at HT
 clear h hG
 cases hb:S.isI i
 ·rw [hb] at HT
  have hf:∀w:World,(Instr.field 158 (.agg #[.int .i64 0,.int .i64 0,.int .i64 0,.int .i64 0,.pointer none,.pointer none,.int .i64 0,.string ⟨#[]⟩]) 0).run Tryz.prog w=.ok (.int .i64 0) w:=fun _=>by kernel_rfl
  simp only [Ja (show ¬false=true by decide)] at HT ⊢
  go_enter Tryz.func61,Tryz.ntmps61
  go_wp2_with fail
  refine HT.out.mono ?_
  rintro e w2 ⟨rfl,hb2⟩
  go_wp2_with fail
  go_ret
  exact ⟨rfl,hb2⟩
 ·rw [hb] at HT
  have hf:∀w:World,(Instr.field 158 (.agg #[.int .i64 (S.at i).kind,.int .i64 (S.at i).links,.int .i64 (S.at i).holds,.int .i64 (S.at i).marks,bpV (pl i.toNat) (S.at i),dpV (pl i.toNat) (S.at i),.int .i64 (S.at i).parent,.string (S.at i).target]) 0).run Tryz.prog w=.ok (.int .i64 (S.at i).kind) w:=fun _=>by kernel_rfl
  simp only [if_true] at HT ⊢
  go_enter Tryz.func61,Tryz.ntmps61
  go_wp2_with fail
  refine HT.out.mono ?_
  rintro e w2 ⟨rfl,hb2⟩
  go_wp2_with fail
  go_ret
  exact ⟨rfl,hb2⟩
theorem marks_any (h:CB w P lo st qb qo pl tag S room L T) (hG:br.Good S room) (i:Int):Calls Tryz.prog 146 #[Pq P,.int .i64 i] w (RetI w (S.marksOf i)):=by
 have HT:=Qa (told_any h hG i)
 unfold RetW at HT
 unfold RetI BS.marksOf
 unfold toldV at HT
 clear h hG
 cases hb:S.isI i
 ·rw [hb] at HT
  have hf:∀w:World,(Instr.field 158 (.agg #[.int .i64 0,.int .i64 0,.int .i64 0,.int .i64 0,.pointer none,.pointer none,.int .i64 0,.string ⟨#[]⟩]) 3).run Tryz.prog w=.ok (.int .i64 0) w:=fun _=>by kernel_rfl
  simp only [Ja (show ¬false=true by decide)] at HT ⊢
  go_enter Tryz.func146,Tryz.ntmps146
  go_wp2_with fail
  refine HT.out.mono ?_
  rintro e w2 ⟨rfl,hb2⟩
  go_wp2_with fail
  go_ret
  exact ⟨rfl,hb2⟩
 ·rw [hb] at HT
  have hf:∀w:World,(Instr.field 158 (.agg #[.int .i64 (S.at i).kind,.int .i64 (S.at i).links,.int .i64 (S.at i).holds,.int .i64 (S.at i).marks,bpV (pl i.toNat) (S.at i),dpV (pl i.toNat) (S.at i),.int .i64 (S.at i).parent,.string (S.at i).target]) 3).run Tryz.prog w=.ok (.int .i64 (S.at i).marks) w:=fun _=>by kernel_rfl
  simp only [if_true] at HT ⊢
  go_enter Tryz.func146,Tryz.ntmps146
  go_wp2_with fail
  refine HT.out.mono ?_
  rintro e w2 ⟨rfl,hb2⟩
  go_wp2_with fail
  go_ret
  exact ⟨rfl,hb2⟩
def statV (S:BS) (i:Int):Value:=.tuple #[.agg #[.int .i64 (S.stat i).1.1,.int .i64 ((S.stat i).1.2.1:Int),.int .i64 (S.stat i).1.2.2],.int .i64 (S.stat i).2]
theorem stat_any (h:CB w P lo st qb qo pl tag S room L T) (hG:br.Good S room) (i:Int):Calls Tryz.prog 58 #[Pq P,.int .i64 i] w (RetW w (statV S i)):=by
 have HA:=Qa (fun ob=>at_any (h.below (dn.below_alloc w ob)) hG.z0 i)
 have HB:=Qa (fun ob=>dn.below_alloc w ob)
 unfold RetW
 rcases isI_cases S i with h1|⟨I,rfl,i1,i2,hn,h1⟩
 ·have hv:=Qa (show statV S i=.tuple #[.agg #[.int .i64 0,.int .i64 0,.int .i64 0],.int .i64 2] by unfold statV BS.stat;rw [h1];rfl)
  rw [atV_no h1] at HA
  rw [hv.out]
  clear h hG hv h1
  go_enter Tryz.func58,Tryz.ntmps58
  go_wp2_with fail
  refine (HA.out _).mono ?_
  rintro e w2 ⟨rfl,rfl⟩
  go_wp2_with fail
  exact bodyPost_ret (v:=.tuple #[.agg #[.int .i64 0,.int .i64 0,.int .i64 0],.int .i64 2]) (by simp [results,Tryz.results58,go_sem]) rfl ⟨rfl,HB.out _⟩
 ·have hv:=Qa (show statV S (I:Int)=.tuple #[.agg #[.int .i64 (S.ino I).kind,.int .i64 ((S.ino I).sizeOf:Int),.int .i64 (S.ino I).links],.int .i64 0] by
   unfold statV BS.stat;rw [Jb h1,at_nat])
  have hi:=fun ob=>(h.ino I i2 hn).below (dn.below_alloc w ob)
  have c0:=fun ob=>(hi ob).c0
  have c1:=fun ob=>(hi ob).c1
  have HS:=Qa (fun W (hb:Below w.heap.size w W)=>size_any (h.below hb) hG i2 hn)
  have hlt:=(h.ino I i2 hn).nlt
  rw [atV_yes i1 i2 hn] at HA
  rw [hv.out]
  generalize (pl I).nd=N at *
  generalize (S.ino I).kind=k0 at *
  generalize (S.ino I).links=k1 at *
  generalize (S.ino I).sizeOf=k2 at *
  have ma:w.heap.size≠N:=by omega
  clear h hG hv h1 hi hn hlt
  go_enter Tryz.func58,Tryz.ntmps58
  go_wp2_with fail
  refine (HA.out _).mono ?_
  rintro e w2 ⟨rfl,rfl⟩
  go_wp2_with fail
  go_region_held3 (fun w'=>w'.cell? ⟨N,0,none⟩=some (.int .i64 k0)∧w'.cell? ⟨N,1,none⟩=some (.int .i64 k1))
   (first|exact ⟨c0 _,c1 _⟩|assumption|go_keep)
   (first
   | (go_at_call 133;((with_reducible refine (HS.out _ (HB.out _).drew).mono ?_);rintro e w2 ⟨rfl,rfl⟩)))
  all_goals
   go_wp2_with fail
   exact bodyPost_ret (v:=.tuple #[.agg #[.int .i64 k0,.int .i64 (k2:Int),.int .i64 k1],.int .i64 0]) (by simp [results,Tryz.results58,go_sem]) rfl ⟨rfl,(HB.out _).drew⟩
end
end cb
namespace cb
open Go.RowKit
open qu (KN ins QL)
open dn (Du En lget lset ldel getV nerr dotB Sorted RetV serr lsetE)
open bl (AB Bod BodC StoC Only Pq cut cutR wr WR)
open br
section
variable {w w':World} {P lo st qb room T:Nat} {qo:Option Nat} {pl:Nat→Pl} {tag:Nat→Nat} {S:BS} {L:List KN}
theorem Nx.of {S':BS} {T':Nat} {L':List KN} {qo':Option Nat} {tag':Nat→Nat} (h:CB w' P lo st qb qo' pl tag' S' room L' T') (hs:Stp w w' tag tag'):Nx w w' P lo st qb pl tag S' room L' T':=⟨qo',pl,tag',h,hs,fun _ _=>rfl⟩
theorem Nx.trans {w1 w2:World} {S'':BS} {T'':Nat} {L'':List KN} {pl':Nat→Pl} {tag':Nat→Nat} (hs:Stp w w1 tag tag') (hp:∀j,(S''.ino j).kind≠0→(pl' j).nd=(pl j).nd) (h2:Nx w1 w2 P lo st qb pl' tag' S'' room L'' T''):Nx w w2 P lo st qb pl tag S'' room L'' T'':=by
 obtain ⟨qo2,pl2,tag2,h,hs2,hp2⟩:=h2
 exact ⟨qo2,pl2,tag2,h,hs.trans hs2,fun j hj=>(hp2 j hj).trans (hp j hj)⟩
theorem Stp.drew {w w':World} {t t':Nat→Nat} (h:Stp w w' t t'):Stp w w'.drew t t':=⟨h.tg,h.o.drew⟩
theorem CB.sep (h:CB w P lo st qb qo pl tag S room L T) {k:Nat} (hk:k≤200) (hf:(S.ino k).kind=1):st≠(pl k).bo∧st≠(pl k).bm∧(pl k).bo≠(pl k).bm:=by
 have t:=h.ti k hk (by rw [hf];decide)
 have b:=t.b hf
 refine ⟨fun e=>?_,fun e=>?_,fun e=>?_⟩
 ·have:=h.tS;rw [e,b.1] at this;omega
 ·have:=h.tS;rw [e,b.2] at this;omega
 ·have:=b.1;rw [e,b.2] at this;omega
theorem CB.bfree (h:CB w P lo st qb qo pl tag S room L T) {k:Nat} (hk:k≤200) (hf:(S.ino k).kind=1) (hu:(S.ino k).body.n≤S.used) (hr:S.used≤65536) :
  Calls Tryz.prog 213 #[Pq st,Pq (pl k).bo] w (fun e w'=>e=.returned (.tuple #[])∧CB w' P lo st qb qo pl tag ⟨upd S.ino k { S.ino k with body:=cut (S.ino k).body 0 },S.used+(cut (S.ino k).body 0).n - (S.ino k).body.n⟩ room L T∧Stp w w' tag tag):=by
 have s:=h.sep hk hf
 exact (bl.free_any st (pl k).bo (pl k).bm room S.used _ w ((h.ino k hk (by rw [hf];decide)).bod hf) h.sto hu hr s.1 s.2.1 s.2.2).mono fun e w' ⟨he,hb⟩=>⟨he,h.bstep hk hf hb⟩
theorem CB.bcut (h:CB w P lo st qb qo pl tag S room L T) {k:Nat} (hk:k≤200) (hf:(S.ino k).kind=1) (hu:(S.ino k).body.n≤S.used) (hr:S.used≤65536) (off:Int) :
  Calls Tryz.prog 228 #[Pq st,Pq (pl k).bo,.int .i64 off] w (fun e w'=>e=.returned (.int .i64 (cutR off))∧CB w' P lo st qb qo pl tag ⟨upd S.ino k { S.ino k with body:=cut (S.ino k).body off },S.used+(cut (S.ino k).body off).n - (S.ino k).body.n⟩ room L T∧Stp w w' tag tag):=by
 have s:=h.sep hk hf
 exact (bl.cut_any st (pl k).bo (pl k).bm room S.used _ off w ((h.ino k hk (by rw [hf];decide)).bod hf) h.sto hu hr s.1 s.2.1 s.2.2).mono fun e w' ⟨he,hb⟩=>⟨he,h.bstep hk hf hb⟩
theorem CB.bread (h:CB w P lo st qb qo pl tag S room L T) {k:Nat} (hk:k≤200) (hf:(S.ino k).kind=1) (off n:Int):Calls Tryz.prog 134 #[Pq st,Pq (pl k).bo,.int .i64 off,.int .i64 n] w (bl.ReadE w (S.ino k).body off n) :=
 bl.read_any st (pl k).bo (pl k).bm _ off n w ((h.ino k hk (by rw [hf];decide)).bod hf)
theorem CB.bwrite (h:CB w P lo st qb qo pl tag S room L T) {k:Nat} (hk:k≤200) (hf:(S.ino k).kind=1) (hu:(S.ino k).body.n≤S.used) (hur:S.used≤room) (hr:room≤65536) (off:Int) (A:Option Addr) (len dc:Nat) (f:Nat→UInt8) (hA:bl.BytesIn w (fun b=>tag b≠0) A len f) (hlc:len≤dc) (hdc:dc≤maxLen) :
  Calls Tryz.prog 107 #[Pq st,Pq (pl k).bo,.int .i64 off,.slice A len dc] w (fun e w'=>∃(p:Nat) (err:Int),e=.returned (.tuple #[.int .i64 (p:Int),.int .i64 err])∧WR (S.ino k).body S.used room off len p err∧S.used+(wr (S.ino k).body off p f).n - (S.ino k).body.n≤room∧(wr (S.ino k).body off p f).Ok ∧
   CB w' P lo st qb qo pl tag ⟨upd S.ino k { S.ino k with body:=wr (S.ino k).body off p f },S.used+(wr (S.ino k).body off p f).n - (S.ino k).body.n⟩ room L T∧Stp w w' tag tag):=by
 have s:=h.sep hk hf
 have b:=(h.ti k hk (by rw [hf];decide)).b hf
 refine (bl.write_any st (pl k).bo (pl k).bm room S.used len dc _ A off f w ((h.ino k hk (by rw [hf];decide)).bod hf) h.sto hu hur hr s.1 s.2.1 s.2.2 (fun i hi=>?_) hlc hdc).mono fun e w' ⟨p,err,he,hw,hle,hb⟩=>?_
 ·obtain ⟨x,o,e,h1,h2,h3⟩:=hA i hi
  refine ⟨x,o,e,fun hF=>h1 ?_,h2,h3⟩
  rcases hF with rfl|rfl|rfl
  ·rw [h.tS];decide
  ·rw [b.1];omega
  ·rw [b.2];omega
 ·have:=h.bstep hk hf hb
  exact ⟨p,err,he,hw,hle,hb.b.ok,this.1,this.2⟩
theorem CB.ddel (h:CB w P lo st qb qo pl tag S room L T) {D:Nat} (hk:D≤200) (hD:(S.ino D).kind=2) (hs:Sorted (S.ino D).dir) (hN:(S.ino D).dir.length≤4000) (s:ByteArray) :
  Calls Tryz.prog 143 #[Pq (pl D).di,.string s] w (fun e w'=>e=.returned (getV s (S.ino D).dir)∧Nx w w' P lo st qb pl tag ⟨upd S.ino D { S.ino D with dir:=ldel s (S.ino D).dir },S.used⟩ room L T) :=
 (dn.ddel_any _ _ _ _ _ s w ((h.ino D hk (by rw [hD];decide)).dir hD) hs (by omega)).mono fun _ _ hst=>h.dstep hk hD hst
theorem CB.dset (h:CB w P lo st qb qo pl tag S room L T) {D:Nat} (hk:D≤200) (hD:(S.ino D).kind=2) (hs:Sorted (S.ino D).dir) (hN:(S.ino D).dir.length≤4000) (s:ByteArray) (v:Int) (hm:s.size≤9223372036854775807) :
  Calls Tryz.prog 96 #[Pq (pl D).di,.string s,.int .i64 v] w (fun e w'=>e=.returned (.int .i64 (serr s v))∧Nx w w' P lo st qb pl tag ⟨upd S.ino D { S.ino D with dir:=lsetE s v (S.ino D).dir },S.used⟩ room L T) :=
 (dn.set_any _ _ _ _ _ s v w hm ((h.ino D hk (by rw [hD];decide)).dir hD) (by have:=h.plt;omega) hs (by omega)).mono fun _ _ hst=>h.dstep hk hD hst
theorem CB.qpush (h:CB w P lo st qb qo pl tag S room L T) (hT:T≤900000) (k m:Int) :
  Calls Tryz.prog 91 #[Pq qb,.int .i64 k,.int .i64 m] w (fun e w'=>e=.returned (.tuple #[])∧Nx w w' P lo st qb pl tag S room (ins (k,m) L) (T+1)) :=
 (qu.lpush qb lo T qo L k m w (by have:=h.plt;omega) hT h.q).mono fun _ _ hs=>h.qstep hs
theorem CB.qpop (h:CB w P lo st qb qo pl tag S room L T) (hT:T≤900000) :
  Calls Tryz.prog 95 #[Pq qb] w (fun e w'=>e=.returned (qu.popV L)∧Nx w w' P lo st qb pl tag S room L.tail T) :=
 (qu.lpop qb lo T qo L w hT h.q).mono fun _ _ hs=>h.qstep hs
theorem CB.goneS (h:CB w P lo st qb qo pl tag S room L T) (k:Nat):Stp w (w.setCell ⟨P,1+k,none⟩ (.pointer none)) tag tag :=
 ⟨fun _ _=>rfl,rfl,rfl,rfl,by simp [World.setCell],fun j hj hF=>Below.heap_setCell _ _ _ _ (fun e=>hF (by show tag j≠0;rw [e,h.tP];decide))⟩
def settB (S:BS) (k:Nat):Bool:=decide ((S.ino k).links=0∧(S.ino k).holds=0)
def settS (S:BS) (k:Nat):BS:=if settB S k=true then ⟨upd S.ino k Ino.nil,S.used - (S.ino k).body.n⟩ else S
def settL (S:BS) (k:Nat) (L:List KN):List KN:=if settB S k=true then ins (kk k) L else L
def settT (S:BS) (k:Nat) (T:Nat):Nat:=if settB S k=true then T+1 else T
theorem upd_upd (f:Nat→Ino) (k:Nat) (x y:Ino):upd (upd f k x) k y=upd f k y:=by
 funext j;by_cases e:j=k
 ·subst e;rw [upd_same,upd_same]
 ·rw [upd_other _ _ e,upd_other _ _ e,upd_other _ _ e]
theorem cut0_n (b:AB):(cut b 0).n=0:=by
 unfold cut
 rw [Jb (by decide)]
 unfold AB.n bl.cutB
 show bl.cnt 4096 _=0
 rw [bl.cnt_congr (g:=fun _=>false) (fun k=>by simp)]
 exact bl.cnt_none _
def RetS (w:World) (P lo st qb:Nat) (pl:Nat→Pl) (tag:Nat→Nat) (v:Value) (S':BS) (room:Nat) (L':List KN) (T':Nat) (e:Ending) (w':World):Prop:=e=.returned v∧Nx w w' P lo st qb pl tag S' room L' T'
theorem settle_end {S':BS} {k:Nat} {u:Nat} {x:Ino} (h:CB w' P lo st qb qo pl tag ⟨upd S.ino k x,u⟩ room L T) (hs:Stp w w' tag tag) (hk:k≤200) (hT:T≤900000) (e:S'=⟨upd S.ino k Ino.nil,u⟩) :
  (w'.setCell ⟨P,1+k,none⟩ (.pointer none)).cell? ⟨P,202,none⟩=some (Pq qb)∧w'.frozen? ⟨P,1+k,none⟩=false ∧
  Calls Tryz.prog 91 #[Pq qb,.int .i64 (k:Int),.int .i64 (k:Int)] (w'.setCell ⟨P,1+k,none⟩ (.pointer none)) (fun e w2=>e=.returned (.tuple #[])∧Nx w w2 P lo st qb pl tag S' room (ins (kk k) L) (T+1)):=by
 have hg:=h.gone hk
 dsimp only at hg
 rw [upd_upd,←e] at hg
 exact ⟨hg.cq,h.cf _,(hg.qpush hT _ _).mono fun e w2 ⟨he,hx⟩=>⟨he,Nx.trans (hs.trans (h.goneS k)) (fun _ _=>rfl) hx⟩⟩
theorem settle_any (h:CB w P lo st qb qo pl tag S room L T) {k:Nat} (hk:k≤200) (hn:(S.ino k).kind≠0) (hl:0≤(S.ino k).links) (hh:0≤(S.ino k).holds) (hnb:(S.ino k).kind≠1→(S.ino k).body.n=0) (hu:(S.ino k).body.n≤S.used) (hr:S.used≤65536) (hT:T≤900000) :
  Calls Tryz.prog 163 #[Pq P,.int .i64 (k:Int)] w (RetS w P lo st qb pl tag (.tuple #[]) (settS S k) room (settL S k L) (settT S k T)):=by
 unfold RetS
 have hi:=h.ino k hk hn
 have c0:=hi.c0
 have c1:=hi.c1
 have c2:=hi.c2
 have p1:=h.ci k hk
 rw [ptV_yes hn] at p1
 by_cases h1:0<(S.ino k).links
 ·have hb:settB S k=false:=by unfold settB;simp;omega
  have HS:=Qa (show settS S k=S∧settL S k L=L∧settT S k T=T from ⟨Ja (by rw [hb];decide),Ja (by rw [hb];decide),Ja (by rw [hb];decide)⟩)
  have HF:=Qa (Nx.of h (Stp.refl w tag))
  rw [HS.out.1,HS.out.2.1,HS.out.2.2]
  generalize (S.ino k).links=K1 at *
  generalize (pl k).nd=N at *
  clear h hi hn hl hh hnb hu hr hT HS hb c0 c2
  go_enter Tryz.func163,Tryz.ntmps163
  go_wp2_with fail
  exact bodyPost_ret (v:=.tuple #[]) (by simp [results,Tryz.results163,go_sem]) rfl ⟨rfl,HF.out⟩
 ·have e1:(S.ino k).links=0:=by omega
  rw [e1] at c1
  by_cases h2:0<(S.ino k).holds
  ·have hb:settB S k=false:=by unfold settB;simp;omega
   have HS:=Qa (show settS S k=S∧settL S k L=L∧settT S k T=T from ⟨Ja (by rw [hb];decide),Ja (by rw [hb];decide),Ja (by rw [hb];decide)⟩)
   have HF:=Qa (Nx.of h (Stp.refl w tag))
   rw [HS.out.1,HS.out.2.1,HS.out.2.2]
   generalize (S.ino k).holds=K2 at *
   generalize (pl k).nd=N at *
   clear h hi hn hl hh hnb hu hr hT HS hb c0 h1 e1
   go_enter Tryz.func163,Tryz.ntmps163
   go_wp2_with fail
   exact bodyPost_ret (v:=.tuple #[]) (by simp [results,Tryz.results163,go_sem]) rfl ⟨rfl,HF.out⟩
  ·have e2:(S.ino k).holds=0:=by omega
   rw [e2] at c2
   have hb:settB S k=true:=by unfold settB;simp [e1,e2]
   have HS:=Qa (show settS S k=⟨upd S.ino k Ino.nil,S.used - (S.ino k).body.n⟩∧settL S k L=ins (kk k) L∧settT S k T=T+1 from ⟨Jb hb,Jb hb,Jb hb⟩)
   rw [HS.out.1,HS.out.2.1,HS.out.2.2]
   have pq:=h.cq
   have pf:=h.cf (1+k)
   by_cases h3:(S.ino k).kind=1
   ·have c4:=hi.c4f h3
    have p0:=h.c0
    have ma:S.used+(cut (S.ino k).body 0).n - (S.ino k).body.n=S.used - (S.ino k).body.n:=by rw [cut0_n];omega
    have Qb:=Qa (fun W (hb:Below w.heap.size w W)=>(h.below hb).bfree hk h3 hu hr)
    rw [ma] at Qb
    rw [h3] at c0
    have HK:=Qa (fun W (h2:CB W P lo st qb qo pl tag ⟨upd S.ino k { S.ino k with body:=cut (S.ino k).body 0 },S.used - (S.ino k).body.n⟩ room L T) (hs2:Stp w W tag tag)=>settle_end (S':=⟨upd S.ino k Ino.nil,S.used - (S.ino k).body.n⟩) h2 hs2 hk hT rfl)
    have Qc:=Qa (fun W (h2:CB W P lo st qb qo pl tag ⟨upd S.ino k { S.ino k with body:=cut (S.ino k).body 0 },S.used - (S.ino k).body.n⟩ room L T)=>(show W.cell? ⟨P,1+k,none⟩=some (Pq (pl k).nd)∧W.cell? ⟨(pl k).nd,4,none⟩=some (Pq (pl k).bo) from by
     have a1:=h2.ci k hk
     have a2:=h2.ino k hk
     dsimp only at a1 a2
     rw [upd_same] at a1 a2
     exact ⟨a1.trans (congrArg some (ptV_yes (by exact hn))),(a2 (by exact hn)).c4f (by exact h3)⟩))
    generalize (pl k).nd=N at *
    generalize (pl k).bo=M at *
    clear h hi hn hl hh hnb hu hr hT HS hb h1 h2 e1 e2 h3 ma pf pq
    go_enter Tryz.func163,Tryz.ntmps163
    go_wp2_with fail
    go_region_held3 (fun w'=>w'.cell? ⟨P,0,none⟩=some (Pq st)∧w'.cell? ⟨N,4,none⟩=some (Pq M))
     (first|exact ⟨p0,c4⟩|assumption|go_keep)
     (first
     | (go_at_call 213;((with_reducible refine (Qb.out _ (Below.refl _ _).drew).mono ?_);rintro e w2 ⟨rfl,h2,hs2⟩;have q0:=h2.c0;obtain ⟨q1,q4⟩:=Qc.out _ h2)))
    all_goals
     obtain ⟨q2,qf,hq⟩:=HK.out _ h2 ((Stp.refl w tag).drew.trans hs2)
     have HQ:=Qa hq
     clear h2 hs2 hq q0 q4 p0 c0 c1 c2 c4 p1
     go_wp2_with fail
     refine HQ.out.mono ?_
     rintro e w3 ⟨rfl,hx⟩
     go_wp2_with fail
     go_end0
     exact ⟨rfl,hx⟩
   ·have HG:=h.gone hk
    have HQ:=Qa (HG.qpush hT (k:Int) (k:Int))
    have ja:=h.goneS k
    have q0:=HG.cq
    have qa:S.used=S.used - (S.ino k).body.n:=by rw [hnb h3];omega
    rw [←qa]
    generalize (pl k).nd=N at *
    generalize (S.ino k).kind=K0 at *
    clear h hi hn hl hh hnb hu hr hT HS hb h1 h2 e1 e2 qa HG
    go_enter Tryz.func163,Tryz.ntmps163
    go_wp2_with fail
    refine HQ.out.mono ?_
    rintro e w2 ⟨rfl,hx⟩
    go_wp2_with fail
    go_end0
    exact ⟨rfl,Nx.trans ja (fun _ _=>rfl) hx⟩
end
theorem settS_less (S:BS) (I:Nat) (dl dh:Int) {x:Ino} (hx:x={ S.ino I with links:=(S.ino I).links - dl,holds:=(S.ino I).holds - dh }):settS ⟨upd S.ino I x,S.used⟩ I=S.less (I:Int) dl dh:=by
 subst hx
 unfold settS settB BS.less
 simp only [at_nat,upd_same,upd_upd]
 by_cases h:(S.ino I).links - dl=0∧(S.ino I).holds - dh=0
 ·rw [Jb (decide_eq_true h),Jb h];rfl
 ·rw [Ja (by simpa using h),Ja h];rfl
theorem settL_free {S:BS} {I:Nat} (h1:1≤I) (h2:I≤200) (hn:(S.ino I).kind≠0):settL S I (freeL S)=freeL (settS S I):=by
 unfold settL settS
 split
 ·refine freeL_push h1 h2 hn ?_ fun k hk=>?_
  ·show (upd S.ino I Ino.nil I).kind=0;rw [upd_same];rfl
  ·show (upd S.ino I Ino.nil k).kind=_;rw [upd_other _ _ hk]
 ·rfl
theorem settT_le (S:BS) (k T:Nat):settT S k T≤T+1:=by unfold settT;split <;> omega
theorem Good_body {S:BS} {room:Nat} (h:br.Good S room) (k:Nat):(S.ino k).body.n≤S.used∧((S.ino k).kind≠1→(S.ino k).body.n=0):=by
 refine ⟨?_,fun hk=>by rw [h.1.noBody k hk,abE_n]⟩
 by_cases hk:(S.ino k).kind=1
 ·have hn:=h.1.num (k:=k) (by rw [hk];decide)
  rw [h.1.used]
  exact sumF_le (f:=fun k=>(S.ino k).body.n) hn.1 hn.2
 ·rw [h.1.noBody k hk,abE_n];exact Nat.zero_le _
section
variable {w w':World} {P lo st qb room T:Nat} {qo:Option Nat} {pl:Nat→Pl} {tag:Nat→Nat} {S:BS} {L:List KN}
def NxF (w w':World) (P lo st qb:Nat) (pl:Nat→Pl) (tag:Nat→Nat) (S':BS) (room T:Nat):Prop:=∃T',T'≤T+1∧Nx w w' P lo st qb pl tag S' room (freeL S') T'
theorem CB.links (h:CB w P lo st qb qo pl tag S room L T) {k:Nat} (hk:k≤200) (hn:(S.ino k).kind≠0) (v:Int) :
  CB (w.setCell ⟨(pl k).nd,1,none⟩ (.int .i64 v)) P lo st qb qo pl tag ⟨upd S.ino k { S.ino k with links:=v },S.used⟩ room L T∧Stp w (w.setCell ⟨(pl k).nd,1,none⟩ (.int .i64 v)) tag tag:=by
 have hi:=h.ino k hk hn
 have eo:∀i,i≠1→(w.setCell ⟨(pl k).nd,1,none⟩ (.int .i64 v)).cell? ⟨(pl k).nd,i,none⟩=w.cell? ⟨(pl k).nd,i,none⟩:=fun i hi=>World.cell?_setCell_other _ _ _ _ (fun e=>hi (by injection e with _ e _;exact e.symm))
 exact h.setf hk hn 1 _ ⟨World.cell?_setCell_same' _ _ _ (by rw [hi.c1];rfl),(eo 2 (by omega)).trans hi.c2,(eo 3 (by omega)).trans hi.c3,(eo 6 (by omega)).trans hi.c6⟩ (by omega) rfl rfl rfl rfl
theorem CB.parent (h:CB w P lo st qb qo pl tag S room L T) {k:Nat} (hk:k≤200) (hn:(S.ino k).kind≠0) (v:Int) :
  CB (w.setCell ⟨(pl k).nd,6,none⟩ (.int .i64 v)) P lo st qb qo pl tag ⟨upd S.ino k { S.ino k with parent:=v },S.used⟩ room L T∧Stp w (w.setCell ⟨(pl k).nd,6,none⟩ (.int .i64 v)) tag tag:=by
 have hi:=h.ino k hk hn
 have eo:∀i,i≠6→(w.setCell ⟨(pl k).nd,6,none⟩ (.int .i64 v)).cell? ⟨(pl k).nd,i,none⟩=w.cell? ⟨(pl k).nd,i,none⟩:=fun i hi=>World.cell?_setCell_other _ _ _ _ (fun e=>hi (by injection e with _ e _;exact e.symm))
 exact h.setf hk hn 6 _ ⟨(eo 1 (by omega)).trans hi.c1,(eo 2 (by omega)).trans hi.c2,(eo 3 (by omega)).trans hi.c3,World.cell?_setCell_same' _ _ _ (by rw [hi.c6];rfl)⟩ (by omega) rfl rfl rfl rfl
theorem CB.slot (h:CB w P lo st qb qo pl tag S room L T) {k:Nat} (hk:k≤200) (hn:(S.ino k).kind≠0):w.cell? ⟨P,1+k,none⟩=some (Pq (pl k).nd):=(h.ci k hk).trans (congrArg some (ptV_yes hn))
def delD (S:BS) (D:Nat) (s:ByteArray):BS:=⟨upd S.ino D { S.ino D with dir:=ldel s (S.ino D).dir },S.used⟩
def lnkI (S:BS) (I:Nat) (v:Int):BS:=⟨upd S.ino I { S.ino I with links:=v },S.used⟩
theorem delD_other {S:BS} {D k:Nat} {s:ByteArray} (h:k≠D):(delD S D s).ino k=S.ino k:=upd_other _ _ h
theorem delD_kind (S:BS) (D:Nat) (s:ByteArray) (k:Nat):((delD S D s).ino k).kind=(S.ino k).kind:=by
 show (upd _ _ _ k).kind=_
 by_cases e:k=D
 ·subst e;rw [upd_same]
 ·rw [upd_other _ _ e]
theorem lnkI_same (S:BS) (I:Nat) (v:Int):(lnkI S I v).ino I={ S.ino I with links:=v }:=upd_same _ _ _
theorem lnkI_kind (S:BS) (I:Nat) (v:Int) (k:Nat):((lnkI S I v).ino k).kind=(S.ino k).kind:=by
 show (upd _ _ _ k).kind=_
 by_cases e:k=I
 ·subst e;rw [upd_same]
 ·rw [upd_other _ _ e]
theorem putDir_delD (S:BS) (D:Nat) (s:ByteArray):S.putDir (D:Int) (ldel s (S.at (D:Int)).dir)=delD S D s:=by unfold BS.putDir BS.put delD;rw [at_nat,Int.toNat_natCast]
theorem drop_eq {S:BS} {D I:Nat} (s:ByteArray) (hne:I≠D):settS (lnkI (delD S D s) I ((S.ino I).links - 1)) I=S.drop (D:Int) s (I:Int):=by
 unfold BS.drop
 rw [putDir_delD]
 exact settS_less (delD S D s) I 1 0 (by rw [delD_other hne,Int.sub_zero])
theorem unname_mid {w1:World} {qo1:Option Nat} {pl1:Nat→Pl} {tag1:Nat→Nat} {D I:Nat} {s:ByteArray} (hG:br.Good S room) (hr:room≤65536) (hT:T≤900000) (i1:1≤I) (i2:I≤200) (hne:I≠D) (hn:(S.ino I).kind≠0) (hl:1≤(S.ino I).links)
  (h1:CB w1 P lo st qb qo1 pl1 tag1 (delD S D s) room (freeL S) T) (hs:Stp w w1 tag tag1) (hp:∀j,((delD S D s).ino j).kind≠0→(pl1 j).nd=(pl j).nd) :
  w1.cell? ⟨P,1+I,none⟩=some (Pq (pl I).nd)∧w1.cell? ⟨(pl I).nd,1,none⟩=some (.int .i64 (S.ino I).links)∧w1.frozen? ⟨(pl I).nd,1,none⟩=false ∧
  Calls Tryz.prog 163 #[Pq P,.int .i64 (I:Int)] (w1.setCell ⟨(pl I).nd,1,none⟩ (.int .i64 ((S.ino I).links - 1))) (fun e w2=>e=.returned (.tuple #[])∧NxF w w2 P lo st qb pl tag (S.drop (D:Int) s (I:Int)) room T):=by
 have qa:=fun j=>delD_kind S D s j
 have ma:((delD S D s).ino I).kind≠0:=by rw [qa];exact hn
 have xa:=hp I ma
 have hi:=h1.ino I i2 ma
 have hb:=Good_body hG I
 have hu:S.used≤65536:=Nat.le_trans hG.1.room hr
 obtain ⟨h2,hs2⟩:CB (w1.setCell ⟨(pl1 I).nd,1,none⟩ (.int .i64 ((S.ino I).links - 1))) P lo st qb qo1 pl1 tag1 (lnkI (delD S D s) I ((S.ino I).links - 1)) room (freeL S) T∧Stp w1 (w1.setCell ⟨(pl1 I).nd,1,none⟩ (.int .i64 ((S.ino I).links - 1))) tag1 tag1:=h1.links i2 ma _
 have ec1:=hi.c1
 have ef1:=hi.f 1
 have es:=h1.slot i2 ma
 rw [delD_other hne] at ec1
 rw [xa] at ec1 ef1 es h2 hs2
 refine ⟨es,ec1,ef1,?_⟩
 have eS:=drop_eq (S:=S) s hne
 have e2:=lnkI_same (delD S D s) I ((S.ino I).links - 1)
 rw [delD_other hne] at e2
 have ja:=fun j=>(lnkI_kind (delD S D s) I ((S.ino I).links - 1) j).trans (qa j)
 have eu:(lnkI (delD S D s) I ((S.ino I).links - 1)).used=S.used:=rfl
 generalize lnkI (delD S D s) I ((S.ino I).links - 1)=S2 at *
 have hx:=settle_any h2 (k:=I) i2 (by rw [ja];exact hn) (by rw [e2];dsimp only;omega) (by rw [e2];exact (hG.1.nums I).2) (by rw [e2];exact hb.2) (by rw [e2,eu];exact hb.1) (by rw [eu];exact hu) hT
 rw [←freeL_same ja,settL_free i1 i2 (by rw [ja];exact hn),eS] at hx
 exact hx.mono fun e w2 ⟨he,hx⟩=>⟨he,settT S2 I T,settT_le _ _ _,Nx.trans (hs.trans hs2) (fun j hj=>hp j (by rw [qa,←((drop_drop s hne).keep j hj).1];exact hj)) hx⟩
theorem unname_any (h:CB w P lo st qb qo pl tag S room (freeL S) T) (hG:br.Good S room) (hr:room≤65536) (hT:T≤900000) {D I:Nat} {s:ByteArray} (hg:lget s (S.ino D).dir=some (I:Int)) :
  Calls Tryz.prog 100 #[Pq P,Pq (pl D).nd,.string s,.int .i64 (I:Int)] w (fun e w2=>e=.returned (.tuple #[])∧NxF w w2 P lo st qb pl tag (S.drop (D:Int) s (I:Int)) room T):=by
 obtain ⟨hD,hDn,I',hI,i1,i2,_,hl,hn⟩:=hG.1.lead hg
 obtain rfl:I=I':=by omega
 have ma:I≠D:=fun e=>hG.1.own hG.2 (D:=D) (s:=s) (by rw [hg,e])
 have c5:=(h.ino D hDn.2 (by rw [hD];decide)).c5d hD
 have HD:=Qa (show Calls Tryz.prog 143 #[Pq (pl D).di,.string s] w (fun e w'=>e=.returned (getV s (S.ino D).dir)∧Nx w w' P lo st qb pl tag (delD S D s) room (freeL S) T) from h.ddel hDn.2 hD (hG.1.sorted D) (hG.1.dirLen D) s)
 have HM:=Qa (fun w1 qo1 pl1 tag1 (h1:CB w1 P lo st qb qo1 pl1 tag1 (delD S D s) room (freeL S) T) hs hp=>unname_mid (w:=w) (tag:=tag) (pl:=pl) hG hr hT i1 i2 ma hn hl h1 hs hp)
 have ht:=hG.1.twenty I
 generalize (pl I).nd=N at *
 generalize (S.ino I).links=K at *
 generalize (pl D).nd=M at *
 generalize (pl D).di=C at *
 generalize getV s (S.ino D).dir=v at *
 clear h hG hg hD hn hDn hI
 go_enter Tryz.func100,Tryz.ntmps100
 go_wp2_with fail
 refine HD.out.mono ?_
 rintro e w1 ⟨rfl,qo1,pl1,tag1,h1,hs1,hp1⟩
 obtain ⟨a1,a2,a3,a4⟩:=HM.out w1 qo1 pl1 tag1 h1 hs1 hp1
 have HS:=Qa a4
 clear a4 h1 hs1 hp1 HM HD c5
 go_wp2_with fail
 refine HS.out.mono ?_
 rintro e w2 ⟨rfl,hx⟩
 go_wp2_with fail
 go_end0
 exact ⟨rfl,hx⟩
end
section
variable {w w':World} {P lo st qb room T:Nat} {qo:Option Nat} {pl:Nat→Pl} {tag:Nat→Nat} {S:BS} {L:List KN}
theorem CB.nxf (h:CB w P lo st qb qo pl tag S room (freeL S) T) (hb:Below w.heap.size w w'):NxF w w' P lo st qb pl tag S room T:=⟨T,Nat.le_succ T,Nx.of (h.below hb) (Stp.below hb)⟩
theorem NxF.past {w0:World} {S':BS} (hb:Below w0.heap.size w0 w) (h:NxF w w' P lo st qb pl tag S' room T):NxF w0 w' P lo st qb pl tag S' room T:=by
 obtain ⟨T',h1,h2⟩:=h
 exact ⟨T',h1,Nx.trans (Stp.below hb) (fun _ _=>rfl) h2⟩
def RetF (w:World) (P lo st qb:Nat) (pl:Nat→Pl) (tag:Nat→Nat) (v:Value) (S':BS) (room T:Nat) (e:Ending) (w':World):Prop:=e=.returned v∧NxF w w' P lo st qb pl tag S' room T
theorem get_lead {S:BS} {D:Nat} (h1:S.dirE (D:Int) true=0) (s:ByteArray):(lget s (S.ino D).dir=none∧S.get (D:Int) s=(0,2))∨∃v,lget s (S.ino D).dir=some v∧S.get (D:Int) s=(v,0):=by
 rw [get_eq (dirE_less h1)]
 cases lget s (S.ino D).dir with
 | none=>exact .inl ⟨rfl,rfl⟩
 | some v=>exact .inr ⟨v,rfl,rfl⟩
theorem unlink_any (h:CB w P lo st qb qo pl tag S room (freeL S) T) (hG:br.Good S room) (hr:room≤65536) (hT:T≤900000) (d:Int) (s:ByteArray) :
  Calls Tryz.prog 35 #[Pq P,.int .i64 d,.string s] w (RetF w P lo st qb pl tag (.int .i64 (S.unlink d s).1) (S.unlink d s).2 room T):=by
 have HN:=Qa (named_any h hG d s)
 unfold RetW at HN
 unfold RetF
 have HF:=Qa (fun w2 hb=>h.nxf (w':=w2) hb)
 by_cases h1:S.dirE d true=0
 ·obtain ⟨D,rfl,d1,d2,hD,hl⟩:=dirE_ok h1
  rcases get_lead h1 s with ⟨g1,g2⟩|⟨v,g1,g2⟩
  ·have hv:=Qa (show S.unlink (D:Int) s=(2,S) by unfold BS.unlink;rw [Ja (by omega),Jb (by rw [g2];decide),g2])
   have hn:namV S pl (D:Int) s=.tuple #[Pq (pl D).nd,.int .i64 0,.int .i64 2]:=by unfold namV;rw [Ja (by omega),g2];rfl
   rw [hn] at HN
   rw [hv.out]
   generalize (pl D).nd=N at *
   clear h hG g1 g2 hn hv h1
   go_enter Tryz.func35,Tryz.ntmps35
   go_wp2_with fail
   refine HN.out.mono ?_
   rintro e w2 ⟨rfl,hb⟩
   go_wp2_with fail
   go_ret
   exact ⟨rfl,HF.out _ hb⟩
  ·have hn:namV S pl (D:Int) s=.tuple #[Pq (pl D).nd,.int .i64 v,.int .i64 0]:=by unfold namV;rw [Ja (by omega),g2];rfl
   rw [hn] at HN
   obtain ⟨_,_,I,rfl,i1,i2,_,hli,hni⟩:=hG.1.lead g1
   have HC:=Qa (fun w2 (hb:Below w.heap.size w w2)=>(h.below hb).slot i2 hni)
   have HK:=Qa (fun w2 (hb:Below w.heap.size w w2)=>((h.below hb).ino I i2 hni).c0)
   by_cases hk:(S.ino I).kind=2
   ·have hv:=Qa (show S.unlink (D:Int) s=(21,S) by unfold BS.unlink;rw [Ja (by omega),g2,Ja (by simp),Jb (by rw [at_nat];exact hk)])
    rw [hv.out]
    rw [hk] at HK
    generalize (pl D).nd=N at *
    generalize (pl I).nd=M at *
    clear h hG g1 g2 hn hv h1
    go_enter Tryz.func35,Tryz.ntmps35
    go_wp2_with fail
    refine HN.out.mono ?_
    rintro e w2 ⟨rfl,hb⟩
    have c0:=HC.out _ hb
    have c1:=HK.out _ hb
    clear HC HK
    go_wp2_with fail
    go_ret
    exact ⟨rfl,HF.out _ hb⟩
   ·have hv:=Qa (show S.unlink (D:Int) s=(0,S.drop (D:Int) s (I:Int)) by unfold BS.unlink;rw [Ja (by omega),g2,Ja (by simp),Ja (by rw [at_nat];exact hk)])
    rw [hv.out]
    have HU:=Qa (fun w2 (hb:Below w.heap.size w w2)=>unname_any (h.below hb) hG hr hT g1)
    generalize (pl D).nd=N at *
    generalize (pl I).nd=M at *
    generalize (S.ino I).kind=K at *
    have ma:(K == 2)=false:=by simpa using hk
    clear h hG g1 g2 hn hv h1 HF
    go_enter Tryz.func35,Tryz.ntmps35
    go_wp2_with fail
    refine HN.out.mono ?_
    rintro e w2 ⟨rfl,hb⟩
    have c0:=HC.out _ hb
    have c1:=HK.out _ hb
    have Qb:=Qa (HU.out _ hb)
    have HB:=Qa hb
    clear HC HK HU hb
    go_wp2_with fail
    refine Qb.out.mono ?_
    rintro e w3 ⟨rfl,hx⟩
    go_wp2_with fail
    go_ret
    exact ⟨rfl,hx.past HB.out⟩
 ·have hv:=Qa (show S.unlink d s=(S.dirE d true,S) by unfold BS.unlink;rw [Jb h1])
  have hn:namV S pl d s=.tuple #[.pointer none,.int .i64 0,.int .i64 (S.dirE d true)]:=by unfold namV;rw [Jb h1]
  rw [hn] at HN
  rw [hv.out]
  generalize S.dirE d true=x at *
  have hx:(x != 0)=true:=by simpa using h1
  clear h hG hn hv h1
  go_enter Tryz.func35,Tryz.ntmps35
  go_wp2_with fail
  refine HN.out.mono ?_
  rintro e w2 ⟨rfl,hb⟩
  go_wp2_with fail
  go_ret
  exact ⟨rfl,HF.out _ hb⟩
end
def newI (k par:Int) (t:ByteArray):Ino:=⟨k,1,0,0,if k=2 then par else 0,abE,[],t⟩
def BlankE (w:World) (st lo:Nat) (x:Ino) (e:Ending) (w':World):Prop :=
 ∃p:Pl,e=.returned (Pq p.nd)∧Below w.heap.size w w'∧InoC w' st lo p x∧w.heap.size≤p.nd∧(x.kind=1→w.heap.size≤p.bo∧w.heap.size≤p.bm∧p.bo≠p.nd∧p.bm≠p.nd∧p.bo≠p.bm)∧(x.kind=2→w.heap.size≤p.di∧p.di≠p.nd∧p.dr=none)
theorem newBody (st:Nat) (w:World):Calls Tryz.prog 155 #[Pq st] w (fun e w'=>∃B M,e=.returned (Pq B)∧Bod w' st B M abE∧Below w.heap.size w w'∧w.heap.size≤B∧w.heap.size≤M∧B≠M):=by
 refine (bl.body_any st w).mono ?_
 rintro e w' ⟨rfl,rfl⟩
 have qa:=bl.below_one w (.map #[] 0)
 have ma:=bl.below_one (w.alloc (.map #[] 0)) (.cells #[Pq st,.int .i64 0,.map (some w.heap.size)] 249)
 have ja:(w.alloc (.map #[] 0)).heap.size=w.heap.size+1:=by simp
 refine ⟨w.heap.size+1,w.heap.size,rfl,bl.Bod.of (N:=0) ⟨?_,?_,?_,?_⟩ ((bl.MapAt.made w).of_block (ma.block _ (by simp))) ⟨Nat.zero_le _,(fun _ h=>nomatch h),fun _ _=>rfl⟩,dn.below_step qa ma,by omega,by omega,by omega⟩
 all_goals rw [←ja]
 all_goals simp
 rfl
abbrev box8 (k:Int) (t:ByteArray):Obj:=.cells #[.int .i64 k,.int .i64 1,.int .i64 0,.int .i64 0,.pointer none,.pointer none,.int .i64 0,.string t] 158
theorem box8_cells (w:World) (k:Int) (t:ByteArray):((w.alloc (box8 k t)).cell? ⟨w.heap.size,0,none⟩=some (.int .i64 k)∧(w.alloc (box8 k t)).cell? ⟨w.heap.size,1,none⟩=some (.int .i64 1)∧(w.alloc (box8 k t)).cell? ⟨w.heap.size,2,none⟩=some (.int .i64 0)∧(w.alloc (box8 k t)).cell? ⟨w.heap.size,3,none⟩=some (.int .i64 0) ∧
  (w.alloc (box8 k t)).cell? ⟨w.heap.size,4,none⟩=some (.pointer none)∧(w.alloc (box8 k t)).cell? ⟨w.heap.size,5,none⟩=some (.pointer none)∧(w.alloc (box8 k t)).cell? ⟨w.heap.size,6,none⟩=some (.int .i64 0)∧(w.alloc (box8 k t)).cell? ⟨w.heap.size,7,none⟩=some (.string t))∧∀j,(w.alloc (box8 k t)).frozen? ⟨w.heap.size,j,none⟩=false:=by
 simp
theorem blank_any (P st lo:Nat) (w:World) (hP:w.cell? ⟨P,0,none⟩=some (Pq st)) (hPl:P<w.heap.size) (hlo:lo≤w.heap.size) (k par:Int) (t:ByteArray):Calls Tryz.prog 90 #[Pq P,.int .i64 k,.int .i64 par,.string t] w (BlankE w st lo (newI k par t)):=by
 have h8:=box8_cells w k t
 have HB:=Qa (dn.below_alloc w (box8 k t))
 have hz:(w.alloc (box8 k t)).heap.size=w.heap.size+1:=World.size_alloc _ _
 by_cases h1:k=1
 ·subst h1
  have hp:=(HB.out.cell (p:=⟨P,0,none⟩) hPl).trans hP
  have HC:=Qa (newBody st (w.alloc (box8 1 t)))
  have HE:=Qa (show ∀w2 B M,Bod w2 st B M abE→Below (w.alloc (box8 1 t)).heap.size (w.alloc (box8 1 t)) w2→(w.alloc (box8 1 t)).heap.size≤B→(w.alloc (box8 1 t)).heap.size≤M→B≠M →
    w2.cell? ⟨w.heap.size,4,none⟩=some (.pointer none)∧w2.frozen? ⟨w.heap.size,4,none⟩=false∧BlankE w st lo (newI 1 par t) (.returned (Pq w.heap.size)) (w2.setCell ⟨w.heap.size,4,none⟩ (Pq B)) from fun w2 B M hb hw hB hM hBM=>by
   rw [hz] at hw hB hM
   have c:∀j,w2.cell? ⟨w.heap.size,j,none⟩=(w.alloc (box8 1 t)).cell? ⟨w.heap.size,j,none⟩:=fun j=>hw.cell (p:=⟨w.heap.size,j,none⟩) (by show w.heap.size<_;omega)
   have f:∀j,w2.frozen? ⟨w.heap.size,j,none⟩=false:=fun j=>(hw.frozen (p:=⟨w.heap.size,j,none⟩) (by show w.heap.size<_;omega)).trans (h8.2 j)
   have eo:∀i,i≠4→(w2.setCell ⟨w.heap.size,4,none⟩ (Pq B)).cell? ⟨w.heap.size,i,none⟩=(w.alloc (box8 1 t)).cell? ⟨w.heap.size,i,none⟩:=fun i hi=>(World.cell?_setCell_other _ _ _ _ (fun e=>hi (by injection e with _ e _;exact e.symm))).trans (c i)
   refine ⟨(c 4).trans h8.1.2.2.2.2.1,f 4,⟨w.heap.size,B,M,0,none,0⟩,rfl,(HB.out.trans (hw.mono (Nat.le_succ _))).setCell (Nat.le_refl _) _,?_,Nat.le_refl _,fun _=>⟨by show w.heap.size≤B;omega,by show w.heap.size≤M;omega,by show B≠w.heap.size;omega,by show M≠w.heap.size;omega,hBM⟩,fun e=>by cases e⟩
   refine ⟨(eo 0 (by omega)).trans h8.1.1,(eo 1 (by omega)).trans h8.1.2.1,(eo 2 (by omega)).trans h8.1.2.2.1,(eo 3 (by omega)).trans h8.1.2.2.2.1,World.cell?_setCell_same' _ _ _ (by rw [c 4,h8.1.2.2.2.2.1];rfl),(eo 5 (by omega)).trans h8.1.2.2.2.2.2.1,(eo 6 (by omega)).trans h8.1.2.2.2.2.2.2.1,(eo 7 (by omega)).trans h8.1.2.2.2.2.2.2.2,fun j=>by rw [World.frozen?_setCell];exact f j,fun _=>?_,fun e=>by cases e⟩
   exact hb.keep (Below.heap_setCell _ _ _ _ (by show B≠w.heap.size;omega)) (Below.heap_setCell _ _ _ _ (by show M≠w.heap.size;omega)))
  generalize newI 1 par t=x at *
  clear h8 hP hPl hlo
  go_enter Tryz.func90,Tryz.ntmps90
  go_wp2_with fail
  refine HC.out.mono ?_
  rintro e w2 ⟨B,M,rfl,a1,a2,a3,a4,a5⟩
  obtain ⟨q1,q2,q3⟩:=HE.out w2 B M a1 a2 a3 a4 a5
  clear a1 a2 a3 a4 a5 hp
  go_wp2_with fail
  go_ret
  exact q3
 ·by_cases h2:k=2
  ·subst h2
   have HC:=Qa (dn.new_any (w.alloc (box8 2 t)) lo (by rw [hz];omega))
   have HE:=Qa (show ∀w2,Du w2 (w.alloc (box8 2 t)).heap.size lo none 0 []→Below (w.alloc (box8 2 t)).heap.size (w.alloc (box8 2 t)) w2 →
     w2.cell? ⟨w.heap.size,5,none⟩=some (.pointer none)∧w2.cell? ⟨w.heap.size,6,none⟩=some (.int .i64 0)∧w2.frozen? ⟨w.heap.size,5,none⟩=false∧w2.frozen? ⟨w.heap.size,6,none⟩=false ∧
     BlankE w st lo (newI 2 par t) (.returned (Pq w.heap.size)) ((w2.setCell ⟨w.heap.size,5,none⟩ (Pq (w.alloc (box8 2 t)).heap.size)).setCell ⟨w.heap.size,6,none⟩ (.int .i64 par)) from fun w2 hb hw=>by
    rw [hz] at hw hb ⊢
    have c:∀j,w2.cell? ⟨w.heap.size,j,none⟩=(w.alloc (box8 2 t)).cell? ⟨w.heap.size,j,none⟩:=fun j=>hw.cell (p:=⟨w.heap.size,j,none⟩) (by show w.heap.size<_;omega)
    have f:∀j,w2.frozen? ⟨w.heap.size,j,none⟩=false:=fun j=>(hw.frozen (p:=⟨w.heap.size,j,none⟩) (by show w.heap.size<_;omega)).trans (h8.2 j)
    have e1:∀i,i≠5→(w2.setCell ⟨w.heap.size,5,none⟩ (Pq (w.heap.size+1))).cell? ⟨w.heap.size,i,none⟩=(w.alloc (box8 2 t)).cell? ⟨w.heap.size,i,none⟩:=fun i hi=>(World.cell?_setCell_other _ _ _ _ (fun e=>hi (by injection e with _ e _;exact e.symm))).trans (c i)
    have e5:(w2.setCell ⟨w.heap.size,5,none⟩ (Pq (w.heap.size+1))).cell? ⟨w.heap.size,5,none⟩=some (Pq (w.heap.size+1)):=World.cell?_setCell_same' _ _ _ (by rw [c 5,h8.1.2.2.2.2.2.1];rfl)
    have e6:=(e1 6 (by omega)).trans h8.1.2.2.2.2.2.2.1
    generalize hw3:w2.setCell ⟨w.heap.size,5,none⟩ (Pq (w.heap.size+1))=w3 at *
    have eo:∀i,i≠6→(w3.setCell ⟨w.heap.size,6,none⟩ (.int .i64 par)).cell? ⟨w.heap.size,i,none⟩=w3.cell? ⟨w.heap.size,i,none⟩:=fun i hi=>World.cell?_setCell_other _ _ _ _ (fun e=>hi (by injection e with _ e _;exact e.symm))
    have ma:Below w.heap.size w w3:=by rw [←hw3];exact (HB.out.trans (hw.mono (Nat.le_succ _))).setCell (Nat.le_refl _) _
    refine ⟨(c 5).trans h8.1.2.2.2.2.2.1,(c 6).trans h8.1.2.2.2.2.2.2.1,f 5,f 6,⟨w.heap.size,0,0,w.heap.size+1,none,0⟩,rfl,ma.setCell (Nat.le_refl _) _,?_,Nat.le_refl _,fun e=>(by cases e),fun _=>⟨by show w.heap.size≤w.heap.size+1;omega,by show w.heap.size+1≠w.heap.size;omega,rfl⟩⟩
    refine ⟨(eo 0 (by omega)).trans ((e1 0 (by omega)).trans h8.1.1),(eo 1 (by omega)).trans ((e1 1 (by omega)).trans h8.1.2.1),(eo 2 (by omega)).trans ((e1 2 (by omega)).trans h8.1.2.2.1),(eo 3 (by omega)).trans ((e1 3 (by omega)).trans h8.1.2.2.2.1),(eo 4 (by omega)).trans ((e1 4 (by omega)).trans h8.1.2.2.2.2.1),(eo 5 (by omega)).trans e5,
     World.cell?_setCell_same' _ _ _ (by rw [e6];rfl),(eo 7 (by omega)).trans ((e1 7 (by omega)).trans h8.1.2.2.2.2.2.2.2),fun j=>by rw [World.frozen?_setCell,←hw3,World.frozen?_setCell];exact f j,fun e=>(by cases e),fun _=>?_⟩
    exact hb.of_blocks ((Below.heap_setCell _ _ _ _ (by show w.heap.size+1≠w.heap.size;omega)).trans (by rw [←hw3];exact Below.heap_setCell _ _ _ _ (by show w.heap.size+1≠w.heap.size;omega))) (fun G e=>by cases e))
   generalize newI 2 par t=x at *
   clear h8 hP hPl hlo
   go_enter Tryz.func90,Tryz.ntmps90
   go_wp2_with fail
   refine HC.out.mono ?_
   rintro e w2 ⟨rfl,a1,a2⟩
   obtain ⟨q1,q2,q3,q4,q5⟩:=HE.out w2 a1 a2
   clear a1 a2
   go_wp2_with fail
   go_ret
   rw [hz] at q5
   exact q5
  ·have HE:=Qa (show BlankE w st lo (newI k par t) (.returned (Pq w.heap.size)) (w.alloc (box8 k t)) from by
    have hx:newI k par t=⟨k,1,0,0,0,abE,[],t⟩:=by unfold newI;rw [Ja h2]
    rw [hx]
    refine ⟨⟨w.heap.size,0,0,0,none,0⟩,rfl,HB.out,⟨h8.1.1,h8.1.2.1,h8.1.2.2.1,h8.1.2.2.2.1,?_,?_,h8.1.2.2.2.2.2.2.1,h8.1.2.2.2.2.2.2.2,h8.2,fun e=>absurd e h1,fun e=>absurd e h2⟩,Nat.le_refl _,fun e=>absurd e h1,fun e=>absurd e h2⟩
    ·rw [h8.1.2.2.2.2.1];unfold bpV;rw [Ja h1]
    ·rw [h8.1.2.2.2.2.2.1];unfold dpV;rw [Ja h2])
   generalize newI k par t=x at *
   have q1:(k == 1)=false:=by simpa using h1
   have q2:(k == 2)=false:=by simpa using h2
   clear h8 hP hPl hlo h1 h2
   go_enter Tryz.func90,Tryz.ntmps90
   go_wp2_with fail
   go_ret
   exact HE.out
section
variable {w w':World} {P lo st qb room T:Nat} {qo:Option Nat} {pl:Nat→Pl} {tag:Nat→Nat} {S:BS} {L:List KN}
def RetG (w:World) (P lo st qb:Nat) (tag:Nat→Nat) (v:Value) (S':BS) (room T:Nat) (e:Ending) (w':World):Prop :=
 e=.returned v∧∃qo' pl' tag' T',T'≤T+1∧CB w' P lo st qb qo' pl' tag' S' room (freeL S') T'∧Stp w w' tag tag'
theorem RetG.of {v:Value} {S':BS} {e:Ending} (h:RetF w P lo st qb pl tag v S' room T e w'):RetG w P lo st qb tag v S' room T e w':=by
 obtain ⟨he,T',hT,qo',pl',tag',h1,h2,h3⟩:=h
 exact ⟨he,qo',pl',tag',T',hT,h1,h2⟩
theorem RetG.same (h:CB w P lo st qb qo pl tag S room (freeL S) T) (v:Value) (hb:Below w.heap.size w w'):RetG w P lo st qb tag v S room T (.returned v) w':=⟨rfl,qo,pl,tag,T,Nat.le_succ T,h.below hb,Stp.below hb⟩
theorem serr_ok {s:ByteArray} {n:Nat} (h1:nerr s.data.toList=0) (h2:dotB s=false) (h3:1≤n) (L:List En):serr s (n:Int)=0∧lsetE s (n:Int) L=lset s (n:Int) L:=by
 have:serr s (n:Int)=0:=by unfold serr;rw [Ja (by omega),Ja];rintro (e|e);exact absurd e (by rw [h2];decide);omega
 exact ⟨this,by unfold lsetE;rw [Jb this]⟩
theorem make_end {w3 w4:World} {qo3:Option Nat} {pl3:Nat→Pl} {tag3:Nat→Nat} {D n:Nat} {s t:ByteArray} {k:Int} {r:List KN} {x:KN} {p:Pl} (hG:br.Good S room) (hv:S.vacant (D:Int) s=0) (hbk:badKind k t=false) (hm:s.size≤9223372036854775807) (hL:freeL S=x::r) (hn:n=S.free 1 200)
  (h3:CB w3 P lo st qb qo3 pl3 tag3 S room r T) (hs3:Stp w w3 tag tag3) (hb:Below w3.heap.size w3 w4) (hx:InoC w4 st lo p (newI k (D:Int) t)) (b1:w3.heap.size≤p.nd) (b2:(newI k (D:Int) t).kind=1→w3.heap.size≤p.bo∧w3.heap.size≤p.bm∧p.bo≠p.nd∧p.bm≠p.nd∧p.bo≠p.bm) (b3:(newI k (D:Int) t).kind=2→w3.heap.size≤p.di∧p.di≠p.nd∧p.dr=none) :
  ∃C,(w4.setCell ⟨P,1+n,none⟩ (Pq p.nd)).cell? ⟨(pl3 D).nd,5,none⟩=some (Pq C) ∧
   Calls Tryz.prog 96 #[Pq C,.string s,.int .i64 (n:Int)] (w4.setCell ⟨P,1+n,none⟩ (Pq p.nd)) (fun e w'=>e=.returned (.int .i64 0)∧∃qo' pl' tag' T',T'≤T+1∧CB w' P lo st qb qo' pl' tag' (S.make (D:Int) s k t).2 room (freeL (S.make (D:Int) s k t).2) T'∧Stp w w' tag tag'):=by
 obtain ⟨D',hD',d1,d2,hD,hl,hg,hne,hdo⟩:=vacant_ok hv
 obtain rfl:D=D':=by omega
 obtain ⟨ya,n1,n2,_⟩:=freeL_cons hL
 rw [←hn] at n1 n2
 have hz:(S.ino n).kind=0:=by rw [hn];exact (free_spec S 200 1).2.2.1 (by omega)
 have ma:n≠D:=fun e=>by rw [e,hD] at hz;cases hz
 have qa:(newI k (D:Int) t).kind≠0:=by
  show k≠0
  intro e;subst e
  unfold badKind at hbk;simp at hbk
 obtain ⟨tag5,h5,ja⟩:=h3.born n2 hz qa hb hx b1 b2 b3
 have eD:(BS.ino ⟨upd S.ino n (newI k (D:Int) t),S.used⟩ D)=S.ino D:=upd_other _ _ (fun e=>ma e.symm)
 have xa:Stp w3 (w4.setCell ⟨P,1+n,none⟩ (Pq p.nd)) tag3 tag5:=⟨ja,(Only.of_below hb).trans ⟨rfl,rfl,rfl,by simp [World.setCell],fun j hj hF=>Below.heap_setCell _ _ _ _ (fun e=>hF (by show tag3 j≠0;rw [e,h3.tP];decide))⟩⟩
 have hi:=h5.ino D d2 (by rw [eD,hD];decide)
 rw [eD] at hi
 have c5:=hi.c5d hD
 rw [Ja (fun e=>ma e.symm)] at c5
 refine ⟨_,c5,?_⟩
 have hd:=h5.dset d2 (by rw [eD];exact hD) (by rw [eD];exact hG.1.sorted D) (by rw [eD];exact hG.1.dirLen D) s (n:Int) hm
 rw [eD] at hd
 dsimp only at hd
 rw [Ja (fun e=>ma e.symm)] at hd
 obtain ⟨e0,e1⟩:=serr_ok (n:=n) hne hdo n1 (S.ino D).dir
 rw [e0,e1] at hd
 refine hd.mono ?_
 rintro e w6 ⟨he,qo6,pl6,tag6,h6,hs6,hp6⟩
 have eM:(S.make (D:Int) s k t).2=⟨upd (upd S.ino n (newI k (D:Int) t)) D { S.ino D with dir:=lset s (n:Int) (S.ino D).dir },S.used⟩:=by
  unfold BS.make
  rw [Ja (by omega),Ja (by rw [hbk];decide)]
  dsimp only
  rw [←hn,Ja (by omega)]
  unfold BS.putDir BS.put
  dsimp only
  rw [Int.toNat_natCast,Int.toNat_natCast]
  show BS.mk (upd (upd S.ino n (newI k (D:Int) t)) D { upd S.ino n (newI k (D:Int) t) D with dir:=lset s (n:Int) (upd S.ino n (newI k (D:Int) t) D).dir }) S.used=_
  rw [upd_other _ _ (fun e=>ma e.symm)]
 have hf:r=freeL (S.make (D:Int) s k t).2:=by
  rw [eM]
  refine freeL_pop hL ?_ fun j hj=>?_
  ·rw [←hn]
   show (upd _ D _ n).kind≠0
   rw [upd_other _ _ ma,upd_same];exact qa
  ·rw [←hn] at hj
   show (upd _ D _ j).kind=_
   by_cases e:j=D
   ·subst e;rw [upd_same]
   ·rw [upd_other _ _ e,upd_other _ _ hj]
 rw [←eM] at h6
 rw [←hf]
 exact ⟨he,qo6,pl6,tag6,T,Nat.le_succ T,h6,hs3.trans (xa.trans hs6)⟩
theorem make_any (h:CB w P lo st qb qo pl tag S room (freeL S) T) (hG:br.Good S room) (hT:T≤900000) (d:Int) (s:ByteArray) (k:Int) (t:ByteArray) (hm:s.size≤9223372036854775807) (hmt:t.size≤9223372036854775807) :
  Calls Tryz.prog 33 #[Pq P,.int .i64 d,.string s,.int .i64 k,.string t] w (RetG w P lo st qb tag (.tuple #[.int .i64 (S.make d s k t).1.1,.int .i64 (S.make d s k t).1.2]) (S.make d s k t).2 room T):=by
 have HV:=Qa (vacant_any h hG d s hm)
 unfold RetW at HV
 have HF:=Qa (fun w2 v hb=>RetG.same (w':=w2) h v hb)
 by_cases h1:S.vacant d s=0
 ·obtain ⟨D,rfl,d1,d2,hD,_⟩:=vacant_ok h1
  have ma:vacV S pl (D:Int) s=.tuple #[Pq (pl D).nd,.int .i64 0]:=by unfold vacV;rw [Jb h1,h1];rfl
  rw [ma] at HV
  have Qc:=Qa (fun w2=>fits_any k t w2 hmt)
  cases hbk:badKind k t
  ·rw [hbk] at Qc
   have Qb:=Qa (fun w2 (hb:Below w.heap.size w w2)=>(h.below hb).qpop hT)
   have HQ:=Qa (fun w2 (hb:Below w.heap.size w w2)=>(h.below hb).cq)
   cases hL:freeL S with
   | nil =>
    rw [hL] at Qb
    have ja:qu.popV ([]:List KN)=.tuple #[.int .i64 0,.int .i64 0,.bool false]:=rfl
    rw [ja] at Qb
    have hv:=Qa (show S.make (D:Int) s k t=((0,28),S) by
     have:=freeL_nil hL
     unfold BS.make;rw [Ja (by omega),Ja (by rw [hbk];decide)];dsimp only;rw [Jb (by omega)])
    rw [hv.out]
    have HE:=Qa (show ∀w2 w3,Below w.heap.size w w2→Nx w2 w3 P lo st qb pl tag S room ([]:List KN).tail T→RetG w P lo st qb tag (.tuple #[.int .i64 0,.int .i64 28]) S room T (.returned (.tuple #[.int .i64 0,.int .i64 28])) w3 from fun w2 w3 hb hx=>by
     obtain ⟨qo',pl',tag',h1,h2,h3⟩:=hx
     exact ⟨rfl,qo',pl',tag',T,Nat.le_succ T,by rw [hL];exact h1,(Stp.below hb).trans h2⟩)
    generalize (pl D).nd=N at *
    clear h hG hT h1 ma hbk hL ja hv HF
    go_enter Tryz.func33,Tryz.ntmps33
    go_wp2_with fail
    refine HV.out.mono ?_
    rintro e w2 ⟨rfl,hb⟩
    have q0:=HQ.out _ hb
    have Qd:=Qa (Qb.out _ hb)
    have HB:=Qa hb
    clear HQ Qb hb HV
    go_wp2_with fail
    refine (Qc.out _).mono ?_
    rintro e w3 ⟨rfl,rfl⟩
    go_wp2_with fail
    refine Qd.out.mono ?_
    rintro e w3 ⟨rfl,hx⟩
    clear q0
    go_wp2_with fail
    go_ret2
    exact HE.out _ _ HB.out hx
   | cons x r =>
    obtain ⟨xa,n1,n2,_⟩:=freeL_cons hL
    obtain ⟨n,hn⟩:∃n,n=S.free 1 200:=⟨_,rfl⟩
    rw [←hn] at xa n1 n2
    subst xa
    rw [hL] at Qb
    have ja:qu.popV (kk n::r)=.tuple #[.int .i64 (n:Int),.int .i64 (n:Int),.bool true]:=rfl
    have ya:(kk n::r).tail=r:=rfl
    rw [ja,ya] at Qb
    have hv:=Qa (show (S.make (D:Int) s k t).1=((n:Int),0) by
     unfold BS.make;rw [Ja (by omega),Ja (by rw [hbk];decide)];dsimp only;rw [←hn,Ja (by omega)])
    rw [hv.out]
    have HM:=Qa (fun w3 w4 qo3 pl3 tag3 p h3 hs3 hb hx b1 b2 b3=>make_end (w:=w) (w3:=w3) (w4:=w4) (qo3:=qo3) (pl3:=pl3) (tag3:=tag3) (p:=p) (S:=S) (P:=P) (lo:=lo) (st:=st) (qb:=qb) (T:=T) (tag:=tag) (D:=D) hG h1 hbk hm hL hn h3 hs3 hb hx b1 b2 b3)
    have Qe:=Qa (fun w3 qo3 pl3 tag3 (h3:CB w3 P lo st qb qo3 pl3 tag3 S room r T)=>blank_any P st lo w3.drew h3.c0 h3.plt.1 (by have:=h3.plt;show lo≤w3.heap.size;omega) k (D:Int) t)
    have da:(S.ino n).kind=0:=by rw [hn];exact (free_spec S 200 1).2.2.1 (by omega)
    have Qf:=Qa (fun w3 w4 qo3 pl3 tag3 (h3:CB w3 P lo st qb qo3 pl3 tag3 S room r T) (hb:Below w3.heap.size w3 w4)=>(show w4.cell? ⟨P,1+n,none⟩=some (.pointer none)∧w4.frozen? ⟨P,1+n,none⟩=false from
     ⟨(hb.cell (p:=⟨P,1+n,none⟩) h3.plt.1).trans ((h3.ci n n2).trans (congrArg some (ptV_no da))),(hb.frozen (p:=⟨P,1+n,none⟩) h3.plt.1).trans (h3.cf _)⟩))
    have Qg:=Qa (show (S.ino D).kind≠0 by rw [hD];decide)
    have Qh:=Qa (show ∀pl3:Nat→Pl,(∀j,(S.ino j).kind≠0→(pl3 j).nd=(pl j).nd)→(pl3 D).nd=(pl D).nd from fun pl3 h=>h D Qg.out)
    generalize (pl D).nd=N at *
    have in0:(0:Int)≤(n:Int):=by omega
    have in1:(n:Int)≤200:=by omega
    have in2:(n:Int)<201:=by omega
    clear h hG hT h1 ma hbk hL ja hv HF ya hn da Qg
    go_enter Tryz.func33,Tryz.ntmps33
    go_wp2_with fail
    refine HV.out.mono ?_
    rintro e w2 ⟨rfl,hb⟩
    have q0:=HQ.out _ hb
    have Qd:=Qa (Qb.out _ hb)
    have HB:=Qa hb
    clear HQ Qb hb HV
    go_wp2_with fail
    refine (Qc.out _).mono ?_
    rintro e w3 ⟨rfl,rfl⟩
    go_wp2_with fail
    refine Qd.out.mono ?_
    rintro e w3 ⟨rfl,qo3,pl3,tag3,h3,hs3,hp3⟩
    clear q0
    go_wp2_with fail
    go_region_held3 (fun w'=>True)
     (first|trivial|assumption|go_keep)
     (first
     | (go_at_call 90;((with_reducible refine (Qe.out w3 qo3 pl3 tag3 h3).mono ?_);rintro e w4 ⟨p,rfl,hb4,hx4,b1,b2,b3⟩;have qa:=(Below.refl w3.heap.size w3).drew.trans hb4;obtain ⟨z1,z2⟩:=Qf.out w3 w4 qo3 pl3 tag3 h3 qa)))
    all_goals
     obtain ⟨C,c5,hd⟩:=HM.out w3 w4 qo3 pl3 tag3 p h3 ((Stp.below HB.out).trans hs3) qa hx4 b1 b2 b3
     rw [Qh.out pl3 hp3] at c5
     have HD:=Qa hd
     clear hd h3 hs3 hp3 hb4 qa hx4 b1 b2 b3 z1 z2 HM Qe Qf Qc Qh Qd
     go_wp2_with fail
     refine HD.out.mono ?_
     rintro e w6 ⟨rfl,hx⟩
     clear c5
     go_wp2_with fail
     go_ret2
     exact ⟨rfl,hx⟩
  ·rw [hbk] at Qc
   have hv:=Qa (show S.make (D:Int) s k t=((0,22),S) by unfold BS.make;rw [Ja (by omega),Jb hbk])
   rw [hv.out]
   generalize (pl D).nd=N at *
   clear h hG hT h1 ma hbk hv
   go_enter Tryz.func33,Tryz.ntmps33
   go_wp2_with fail
   refine HV.out.mono ?_
   rintro e w2 ⟨rfl,hb⟩
   go_wp2_with fail
   refine (Qc.out _).mono ?_
   rintro e w3 ⟨rfl,rfl⟩
   go_wp2_with fail
   go_ret2
   exact HF.out _ _ hb
 ·have hv:=Qa (show S.make d s k t=((0,S.vacant d s),S) by unfold BS.make;rw [Jb h1])
  have ma:vacV S pl d s=.tuple #[.pointer none,.int .i64 (S.vacant d s)]:=by unfold vacV;rw [Ja h1]
  rw [ma] at HV
  rw [hv.out]
  generalize S.vacant d s=x at *
  have hx:(x != 0)=true:=by simpa using h1
  clear h hG hT h1 ma hv
  go_enter Tryz.func33,Tryz.ntmps33
  go_wp2_with fail
  refine HV.out.mono ?_
  rintro e w2 ⟨rfl,hb⟩
  go_wp2_with fail
  go_ret2
  exact HF.out _ _ hb
end
end cb
end Go.Proofs.YtgoddboicjfkcaaGreat
