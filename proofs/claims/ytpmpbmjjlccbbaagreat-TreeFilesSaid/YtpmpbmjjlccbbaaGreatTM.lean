/- A tree: a new file's bytes are read by each of its names and descriptors. -/
import Derived.Test.YtpmpbmjjlccbbaaGreatZ25
import Derived.Test.YtpmpbmjjlccbbaaGreatZ33
import Derived.Test.YtpmpbmjjlccbbaaGreatZ40
namespace Go.Proofs.YtpmpbmjjlccbbaaGreat.wk
set_option linter.unusedVariables false
structure Ext (X X':Tr) (Lv:Int→Prop):Prop where
 kind:∀ a,Lv a→X'.kind a=X.kind a
 get:∀ a n,Lv a→X.kind a=2→(X.get a n).2=0→X'.get a n=X.get a n
 up:∀ a,Lv a→X.kind a=2→X'.parent a=X.parent a
 target:∀ a,Lv a→X'.target a=X.target a
theorem walk_ext {X X':Tr} {Lv:Int→Prop} (hL:Live X Lv) (hE:Ext X X' Lv) (fol:Bool) (m:Nat) (a:Int) (ns:List ByteArray) (d:Bool) (ha:Lv a) (h:(walkT X fol m a ns d).2=0):walkT X' fol m a ns d=walkT X fol m a ns d:=by
 match ns with
 | []=>rw [w_nil,w_nil]
 | n::r =>
  by_cases hk:X.kind a=2
  case neg=>rw [w_kind hk] at h;exact absurd h (by decide)
  have hk':X'.kind a=2:=(hE.kind a ha).trans hk
  by_cases h1:n=dot2
  ·subst h1
   rw [w_dots hk] at h
   rw [w_dots hk,w_dots hk',hE.up a ha hk]
   exact walk_ext hL hE fol m _ r d (hL.up a ha hk).1 h
  by_cases h2:n=dot1
  ·subst h2
   rw [w_dot hk] at h
   rw [w_dot hk,w_dot hk']
   exact walk_ext hL hE fol m _ r d ha h
  by_cases h3:(X.get a n).2=0
  case neg =>
   rw [w_err hk h1 h2 h3] at h
   split at h
   ·exact absurd h (show ¬ (2:Int)=0 by decide)
   ·exact absurd h h3
  have hg:=hE.get a n ha hk h3
  have hl:=hL.get a n ha hk h3
  have hki:=hE.kind _ hl
  have h3':(X'.get a n).2=0:=by rw [hg];exact h3
  have hlk:Lnk X' fol a n r d↔Lnk X fol a n r d:=by unfold Lnk;rw [hg,hki]
  by_cases h4:Lnk X fol a n r d
  ·match m with
   | 0=>rw [w_loop hk h1 h2 h3 h4] at h;exact absurd h (by decide)
   | k+1 =>
    rw [w_link hk h1 h2 h3 h4] at h
    rw [w_link hk h1 h2 h3 h4,w_link hk' h1 h2 h3' (hlk.2 h4),hg,hE.target _ hl]
    by_cases g1:(X.target (X.get a n).1).2=0
    case neg=>rw [if_pos g1] at h;exact absurd h g1
    by_cases g2:pe (X.target (X.get a n).1).1=0
    case neg=>rw [if_neg (nn g1),if_pos g2] at h;exact absurd h g2
    by_cases g3:400<(pn (X.target (X.get a n).1).1).length+r.length
    ·rw [if_neg (nn g1),if_neg (nn g2),if_pos g3] at h;exact absurd h (by decide)
    rw [if_neg (nn g1),if_neg (nn g2),if_neg g3] at h
    rw [if_neg (nn g1),if_neg (nn g1),if_neg (nn g2),if_neg (nn g2),if_neg g3,if_neg g3]
    refine walk_ext hL hE fol k _ _ _ ?_ h
    split
    ·exact hL.root.1
    ·exact ha
  have h4':¬ Lnk X' fol a n r d:=fun e=>h4 (hlk.1 e)
  by_cases h5:r=[]
  ·subst h5;rw [w_last hk h1 h2 h3 h4,w_last hk' h1 h2 h3' h4',hg,hki]
  rw [w_on hk h1 h2 h3 h4 h5] at h
  rw [w_on hk h1 h2 h3 h4 h5,w_on hk' h1 h2 h3' h4' h5,hg]
  exact walk_ext hL hE fol m _ r d hl h
termination_by (m,ns.length)
end Go.Proofs.YtpmpbmjjlccbbaaGreat.wk
namespace Go.Proofs.YtpmpbmjjlccbbaaGreat.wk
theorem walk_fol (X:Tr) (fol:Bool) (m:Nat) (a:Int) (ns rs:List ByteArray) (d:Bool) (hr:rs≠[]) (h:(walkT X true m a ns true).2=0) :
  (∃ k,walkT X fol m a (ns++rs) d=walkT X fol k (walkT X true m a ns true).1.2.2 rs d)∨(walkT X fol m a (ns++rs) d).2=36:=by
 match ns with
 | []=>rw [w_nil];exact .inl ⟨m,rfl⟩
 | n::r =>
  rw [List.cons_append]
  by_cases hk:X.kind a=2
  case neg=>rw [w_kind hk] at h;cases h
  by_cases h1:n=dot2
  ·subst h1
   rw [w_dots hk] at h
   rw [w_dots hk,w_dots hk]
   exact walk_fol X fol m _ r rs d hr h
  by_cases h2:n=dot1
  ·subst h2
   rw [w_dot hk] at h
   rw [w_dot hk,w_dot hk]
   exact walk_fol X fol m _ r rs d hr h
  by_cases h3:(X.get a n).2=0
  case neg =>
   rw [w_err hk h1 h2 h3] at h
   split at h
   ·cases h
   ·exact absurd h h3
  have hne:r++rs≠[]:=fun e=>hr (List.append_eq_nil_iff.1 e).2
  by_cases h4:Lnk X true a n r true
  ·have h4':Lnk X fol a n (r++rs) d:=⟨h4.1,.inl hne⟩
   match m with
   | 0=>rw [w_loop hk h1 h2 h3 h4] at h;cases h
   | k+1 =>
    rw [w_link hk h1 h2 h3 h4] at h
    rw [w_link hk h1 h2 h3 h4,w_link hk h1 h2 h3 h4']
    by_cases g1:(X.target (X.get a n).1).2=0
    case neg=>rw [if_pos g1] at h;exact absurd h g1
    by_cases g2:pe (X.target (X.get a n).1).1=0
    case neg=>rw [if_neg (nn g1),if_pos g2] at h;exact absurd h g2
    by_cases g3:400<(pn (X.target (X.get a n).1).1).length+r.length
    ·rw [if_neg (nn g1),if_neg (nn g2),if_pos g3] at h;cases h
    rw [if_neg (nn g1),if_neg (nn g2),if_neg g3] at h ⊢
    rw [if_neg (nn g1),if_neg (nn g2)]
    by_cases g4:400<(pn (X.target (X.get a n).1).1).length+(r++rs).length
    ·rw [if_pos g4];exact .inr rfl
    rw [if_neg g4,if_neg hne,← List.append_assoc]
    have e:(if r=[] then true || pd (X.target (X.get a n).1).1 else true)=true:=by split <;> simp
    rw [e] at h ⊢
    exact walk_fol X fol k _ _ rs d hr h
  have hk3:X.kind (X.get a n).1≠3:=fun e=>h4 ⟨e,.inr (.inl rfl)⟩
  rw [w_on hk h1 h2 h3 (fun e=>hk3 e.1) hne]
  by_cases h5:r=[]
  ·subst h5
   rw [w_last hk h1 h2 h3 h4] at h ⊢
   split at h
   ·cases h
   ·rename_i g
    rw [if_neg g]
    exact .inl ⟨m,rfl⟩
  ·rw [w_on hk h1 h2 h3 h4 h5] at h ⊢
   exact walk_fol X fol m _ r rs d hr h
termination_by (m,ns.length)
end Go.Proofs.YtpmpbmjjlccbbaaGreat.wk
namespace Go.Proofs.YtpmpbmjjlccbbaaGreat.tr
open Go.Proofs.YtpmpbmjjlccbbaaGreat.br (BS Inv Ino)
open Go.Proofs.YtpmpbmjjlccbbaaGreat.wk (walkT pe pn pd e0 r0 dot1 dot2)
open Go.Proofs.YtpmpbmjjlccbbaaGreat.cb (trS LvS)
open Go.Proofs.YtpmpbmjjlccbbaaGreat.dn (lget lset ldel)
set_option linter.unusedVariables false
theorem get_at {S:BS} {k:Nat} {n:ByteArray} (h1:1≤k) (h2:k≤200) (hk:(S.ino k).kind=2):S.get (k:Int) n=(match lget n (S.ino k).dir with|some v=>(v,0)|none=>(0,2)):=by
 unfold BS.get BS.dirE
 have hI:S.isI (k:Int)=true:=by unfold BS.isI;rw [br.at_nat];exact decide_eq_true ⟨by omega,by omega,by rw [hk];decide⟩
 rw [hI,br.at_nat,hk]
 simp
 rfl
theorem place_ok {S:BS} {t:ByteArray} {b:Int} (hb:b≠0) (h:placeE S t b=0):pe t=0∧pn t=(pn t).dropLast++[placeN t]∧placeN t≠dot1∧placeN t≠dot2∧(upR S t).2=0∧S.kindOf (placeD S t)=2:=by
 unfold placeE at h
 by_cases h1:pe t=0
 case neg=>rw [if_pos h1] at h;exact absurd h h1
 rw [if_neg (wk.nn h1)] at h
 by_cases h2:pn t=[]∨placeN t=dot1∨placeN t=dot2
 ·rw [if_pos h2] at h;exact absurd h hb
 rw [if_neg h2] at h
 by_cases h3:(upR S t).2=0
 case neg=>rw [if_pos h3] at h;exact absurd h h3
 rw [if_neg (wk.nn h3)] at h
 by_cases h4:S.kindOf (upR S t).1.2.2=2
 case neg=>rw [if_pos h4] at h;exact absurd h (show ¬ (20:Int)=0 by decide)
 have hne:pn t≠[]:=fun e=>h2 (.inl e)
 refine ⟨h1,?_,fun e=>h2 (.inr (.inl e)),fun e=>h2 (.inr (.inr e)),h3,h4⟩
 unfold placeN
 rw [List.getLast?_eq_some_getLast hne]
 exact (List.dropLast_concat_getLast hne).symm
theorem lead_place {S:BS} {t:ByteArray} {b:Int} (hb:b≠0) (h:placeE S t b=0) (fol:Bool):(∃ k,lead S t fol=walkT (trS S) fol k (placeD S t) [placeN t] (pd t))∨(lead S t fol).2=36:=by
 obtain ⟨h1,h2,_,_,h3,_⟩:=place_ok hb h
 unfold lead
 rw [if_neg (wk.nn h1)]
 have:=wk.walk_fol (trS S) fol 40 1 (pn t).dropLast [placeN t] (pd t) (by simp) h3
 rw [← h2] at this
 exact this
theorem dir_of {S:BS} {a:Int} (h:S.kindOf a=2):∃ k:Nat,a=(k:Int)∧1≤k∧k≤200∧(S.ino k).kind=2:=by
 obtain ⟨k,rfl,k1,k2,k3,_⟩:=(there_of (S:=S) (i:=a) (by rw [h];decide)).kind
 exact ⟨k,rfl,k1,k2,by rw [← k3];exact h⟩
end Go.Proofs.YtpmpbmjjlccbbaaGreat.tr
namespace Go.Proofs.YtpmpbmjjlccbbaaGreat.wk
set_option linter.unusedVariables false
structure Part2 (X X':Tr) (Out:Int→Prop):Prop where
 root:Out 1
 kind:∀ a,Out a→X'.kind a=X.kind a
 get:∀ a n,Out a→X.kind a=2→(X.get a n).2=0→(X'.get a n).2≠0∨(X'.get a n=X.get a n∧Out (X.get a n).1)∨(X.kind (X.get a n).1≠2∧X.kind (X.get a n).1≠3)
 up:∀ a,Out a→X.kind a=2→X'.parent a=X.parent a∧Out (X.parent a)
 target:∀ a,Out a→X'.target a=X.target a
theorem walk_part2 {X X':Tr} {Out:Int→Prop} (hP:Part2 X X' Out) (fol:Bool) (m:Nat) (a:Int) (ns:List ByteArray) (d:Bool) (hd:d=true) (ha:Out a) (h:(walkT X fol m a ns d).2=0) :
  ((walkT X' fol m a ns d).2≠0∨walkT X' fol m a ns d=walkT X fol m a ns d∧Out (walkT X fol m a ns d).1.1∧Out (walkT X fol m a ns d).1.2.2):=by
 match ns with
 | []=>rw [w_nil,w_nil];exact .inr ⟨rfl,ha,ha⟩
 | n::r =>
  by_cases hk:X.kind a=2
  case neg=>rw [w_kind hk] at h;exact absurd h (by decide)
  have hk':X'.kind a=2:=(hP.kind a ha).trans hk
  by_cases h1:n=dot2
  ·subst h1
   rw [w_dots hk] at h
   rw [w_dots hk,w_dots hk',(hP.up a ha hk).1]
   exact walk_part2 hP fol m _ r d hd (hP.up a ha hk).2 h
  by_cases h2:n=dot1
  ·subst h2
   rw [w_dot hk] at h
   rw [w_dot hk,w_dot hk']
   exact walk_part2 hP fol m _ r d hd ha h
  by_cases h3:(X.get a n).2=0
  case neg =>
   rw [w_err hk h1 h2 h3] at h
   split at h
   ·exact absurd h (show ¬ (2:Int)=0 by decide)
   ·exact absurd h h3
  rcases hP.get a n ha hk h3 with hb|⟨hg,hl⟩|⟨hn2,hn3⟩
  ·refine .inl ?_
   rw [w_err hk' h1 h2 hb]
   split
   ·show ¬ (2:Int)=0
    decide
   ·exact hb
  case inr.inr =>
   exfalso
   have h4:¬ Lnk X fol a n r d:=fun e=>hn3 e.1
   by_cases h5:r=[]
   ·subst h5
    rw [w_last hk h1 h2 h3 h4,if_pos ⟨hd,hn2⟩] at h
    exact absurd h (by decide)
   ·rw [w_on hk h1 h2 h3 h4 h5] at h
    obtain ⟨q,r',rfl⟩:∃ q r',r=q::r':=by cases r with|nil=>exact absurd rfl h5|cons q r'=>exact ⟨q,r',rfl⟩
    rw [w_kind hn2] at h
    exact absurd h (by decide)
  have hki:=hP.kind _ hl
  have h3':(X'.get a n).2=0:=by rw [hg];exact h3
  have hlk:Lnk X' fol a n r d↔Lnk X fol a n r d:=by unfold Lnk;rw [hg,hki]
  by_cases h4:Lnk X fol a n r d
  ·match m with
   | 0=>rw [w_loop hk h1 h2 h3 h4] at h;exact absurd h (by decide)
   | k+1 =>
    rw [w_link hk h1 h2 h3 h4] at h
    rw [w_link hk h1 h2 h3 h4,w_link hk' h1 h2 h3' (hlk.2 h4),hg,hP.target _ hl]
    by_cases g1:(X.target (X.get a n).1).2=0
    case neg=>rw [if_pos g1] at h;exact absurd h g1
    by_cases g2:pe (X.target (X.get a n).1).1=0
    case neg=>rw [if_neg (nn g1),if_pos g2] at h;exact absurd h g2
    by_cases g3:400<(pn (X.target (X.get a n).1).1).length+r.length
    ·rw [if_neg (nn g1),if_neg (nn g2),if_pos g3] at h;exact absurd h (by decide)
    rw [if_neg (nn g1),if_neg (nn g2),if_neg g3] at h
    rw [if_neg (nn g1),if_neg (nn g1),if_neg (nn g2),if_neg (nn g2),if_neg g3,if_neg g3]
    refine walk_part2 hP fol k _ _ _ (by split;rw [hd];rfl;exact hd) ?_ h
    split
    ·exact hP.root
    ·exact ha
  have h4':¬ Lnk X' fol a n r d:=fun e=>h4 (hlk.1 e)
  by_cases h5:r=[]
  ·subst h5
   rw [w_last hk h1 h2 h3 h4] at h
   rw [w_last hk h1 h2 h3 h4,w_last hk' h1 h2 h3' h4',hg,hki]
   split at h
   ·exact absurd h (by decide)
   ·rename_i h6
    rw [if_neg h6]
    exact .inr ⟨rfl,ha,hl⟩
  rw [w_on hk h1 h2 h3 h4 h5] at h
  rw [w_on hk h1 h2 h3 h4 h5,w_on hk' h1 h2 h3' h4' h5,hg]
  exact walk_part2 hP fol m _ r d hd hl h
termination_by (m,ns.length)
theorem walk_pre (X:Tr) (fol:Bool) (m:Nat) (a:Int) (ns:List ByteArray) (x:ByteArray) (d:Bool) (h:(walkT X fol m a (ns++[x]) d).2=0):(walkT X true m a ns true).2=0:=by
 match ns with
 | []=>rw [w_nil]
 | n::r =>
  rw [List.cons_append] at h
  have hne:r++[x]≠[]:=by simp
  by_cases hk:X.kind a=2
  case neg=>rw [w_kind hk] at h;exact absurd h (by decide)
  by_cases h1:n=dot2
  ·subst h1
   rw [w_dots hk] at h ⊢
   exact walk_pre X fol m _ r x d h
  by_cases h2:n=dot1
  ·subst h2
   rw [w_dot hk] at h ⊢
   exact walk_pre X fol m _ r x d h
  by_cases h3:(X.get a n).2=0
  case neg =>
   rw [w_err hk h1 h2 h3,if_neg (fun e=>hne e.2)] at h
   exact absurd h h3
  by_cases h4:X.kind (X.get a n).1=3
  ·have l1:Lnk X fol a n (r++[x]) d:=⟨h4,.inl hne⟩
   have l2:Lnk X true a n r true:=⟨h4,.inr (.inl rfl)⟩
   by_cases hm0:m=0
   ·rw [hm0,w_loop hk h1 h2 h3 l1] at h;exact absurd h (by decide)
   ·obtain ⟨k,hmk⟩:∃ k,m=k+1:=⟨m - 1,by omega⟩
    rw [hmk] at h ⊢
    rw [w_link hk h1 h2 h3 l1] at h
    rw [w_link hk h1 h2 h3 l2]
    by_cases g1:(X.target (X.get a n).1).2=0
    case neg=>rw [if_pos g1] at h;exact absurd h g1
    by_cases g2:pe (X.target (X.get a n).1).1=0
    case neg=>rw [if_neg (nn g1),if_pos g2] at h;exact absurd h g2
    by_cases g3:400<(pn (X.target (X.get a n).1).1).length+(r++[x]).length
    ·rw [if_neg (nn g1),if_neg (nn g2),if_pos g3] at h;exact absurd h (by decide)
    have g4:¬ 400<(pn (X.target (X.get a n).1).1).length+r.length:=by rw [List.length_append] at g3;omega
    rw [if_neg (nn g1),if_neg (nn g2),if_neg g3,if_neg hne,← List.append_assoc] at h
    rw [if_neg (nn g1),if_neg (nn g2),if_neg g4]
    have e:(if r=[] then true || pd (X.target (X.get a n).1).1 else true)=true:=by split <;> simp
    rw [e]
    exact walk_pre X fol k _ _ x d h
  rw [w_on hk h1 h2 h3 (fun e=>h4 e.1) hne] at h
  have l2:¬ Lnk X true a n r true:=fun e=>h4 e.1
  by_cases h5:r=[]
  ·subst h5
   rw [w_last hk h1 h2 h3 l2]
   by_cases h6:X.kind (X.get a n).1=2
   ·rw [if_neg (fun e=>e.2 h6)]
   ·rw [List.nil_append,w_kind h6] at h;exact absurd h (by decide)
  ·rw [w_on hk h1 h2 h3 l2 h5]
   exact walk_pre X fol m _ r x d h
termination_by (m,ns.length)
decreasing_by all_goals first|(apply Prod.Lex.left;omega)|(apply Prod.Lex.right;simp)
theorem walk_new {X X':Tr} {Lv:Int→Prop} (hL:Live X Lv) (hE:Ext X X' Lv) (fol:Bool) (m:Nat) (a:Int) (ns:List ByteArray) {b i j:Int} {s:ByteArray} (hs:s≠e0) (ha:Lv a) (h:walkT X false m a ns false=((b,s,j),2)) (hi:X'.get b s=(i,0)) (hk1:X'.kind i=1) :
  walkT X' fol m a ns false=((b,s,i),0):=by
 have hno:∀ {e:Int},(r0,e)=((b,s,j),(2:Int))→False:=fun h=>hs (congrArg (fun z:Rs=>z.1.2.1) h).symm
 match ns with
 | []=>rw [w_nil] at h;exact absurd (congrArg Prod.snd h) (show ¬ (0:Int)=2 by decide)
 | n::r =>
  by_cases hk:X.kind a=2
  case neg=>rw [w_kind hk] at h;exact (hno h).elim
  have hk':X'.kind a=2:=(hE.kind a ha).trans hk
  by_cases h1:n=dot2
  ·subst h1
   rw [w_dots hk] at h
   rw [w_dots hk',hE.up a ha hk]
   exact walk_new hL hE fol m _ r hs (hL.up a ha hk).1 h hi hk1
  by_cases h2:n=dot1
  ·subst h2
   rw [w_dot hk] at h
   rw [w_dot hk']
   exact walk_new hL hE fol m _ r hs ha h hi hk1
  by_cases h3:(X.get a n).2=0
  case neg =>
   rw [w_err hk h1 h2 h3] at h
   by_cases e:(X.get a n).2=2∧r=[]
   ·rw [if_pos e] at h
    obtain ⟨_,e2⟩:=e
    have hb:a=b:=congrArg (fun z:Rs=>z.1.1) h
    have hn:n=s:=congrArg (fun z:Rs=>z.1.2.1) h
    subst hb hn e2
    have h3':(X'.get a n).2=0:=by rw [hi]
    have h4':¬ Lnk X' fol a n [] false:=fun e=>by
     have:=e.1
     rw [hi,hk1] at this
     exact absurd this (by decide)
    rw [w_last hk' h1 h2 h3' h4',hi,if_neg (fun e=>by cases e.1)]
   ·rw [if_neg e] at h
    exact (hno h).elim
  have hg:=hE.get a n ha hk h3
  have hl:=hL.get a n ha hk h3
  have hki:=hE.kind _ hl
  have h3':(X'.get a n).2=0:=by rw [hg];exact h3
  by_cases h5:r=[]
  ·subst h5
   have h4:¬ Lnk X false a n [] false:=fun e=>by
    rcases e.2 with e|e|e
    ·exact e rfl
    ·cases e
    ·cases e
   rw [w_last hk h1 h2 h3 h4,if_neg (fun e=>by cases e.1)] at h
   exact absurd (congrArg Prod.snd h) (show ¬ (0:Int)=2 by decide)
  have hlk:Lnk X' fol a n r false↔Lnk X false a n r false:=by unfold Lnk;rw [hg,hki];exact ⟨fun e=>⟨e.1,.inl h5⟩,fun e=>⟨e.1,.inl h5⟩⟩
  by_cases h4:Lnk X false a n r false
  ·match m with
   | 0=>rw [w_loop hk h1 h2 h3 h4] at h;exact (hno h).elim
   | k+1 =>
    rw [w_link hk h1 h2 h3 h4] at h
    rw [w_link hk' h1 h2 h3' (hlk.2 h4),hg,hE.target _ hl]
    by_cases g1:(X.target (X.get a n).1).2=0
    case neg=>rw [if_pos g1] at h;exact (hno h).elim
    by_cases g2:pe (X.target (X.get a n).1).1=0
    case neg=>rw [if_neg (nn g1),if_pos g2] at h;exact (hno h).elim
    by_cases g3:400<(pn (X.target (X.get a n).1).1).length+r.length
    ·rw [if_neg (nn g1),if_neg (nn g2),if_pos g3] at h;exact (hno h).elim
    rw [if_neg (nn g1),if_neg (nn g2),if_neg g3,if_neg h5] at h
    rw [if_neg (nn g1),if_neg (nn g2),if_neg g3,if_neg h5]
    refine walk_new hL hE fol k _ _ hs ?_ h hi hk1
    split
    ·exact hL.root.1
    ·exact ha
  have h4':¬ Lnk X' fol a n r false:=fun e=>h4 (hlk.1 e)
  rw [w_on hk h1 h2 h3 h4 h5] at h
  rw [w_on hk' h1 h2 h3' h4' h5,hg]
  exact walk_new hL hE fol m _ r hs hl h hi hk1
termination_by (m,ns.length)
end Go.Proofs.YtpmpbmjjlccbbaaGreat.wk
namespace Go.Proofs.YtpmpbmjjlccbbaaGreat.tr
open Go.Proofs.YtpmpbmjjlccbbaaGreat.br (BS Inv Ino)
open Go.Proofs.YtpmpbmjjlccbbaaGreat.wk (walkT pe pn pd e0 r0 dot1 dot2 Ext Part2)
open Go.Proofs.YtpmpbmjjlccbbaaGreat.cb (trS LvS)
open Go.Proofs.YtpmpbmjjlccbbaaGreat.dn (lget lset ldel Sorted)
set_option linter.unusedVariables false
set_option linter.unusedSimpArgs false
def Rel (E:Nat→ByteArray→Int→Prop) (S S':BS):Prop:=∀ k,(S'.ino k).kind≠0→(S'.ino k).kind=(S.ino k).kind∧(S'.ino k).parent=(S.ino k).parent∧(S'.ino k).target=(S.ino k).target ∧
 ∀ n v,lget n (S'.ino k).dir=some v→lget n (S.ino k).dir=some v∨E k n v
def NoE (k:Nat) (n:ByteArray) (v:Int):Prop:=False
def Srt (S:BS):Prop:=∀ k,Sorted (S.ino k).dir
section
variable {E:Nat→ByteArray→Int→Prop} {S S1 S2 S':BS} {room:Nat}
theorem Rel.refl:Rel E S S:=fun k _=>⟨rfl,rfl,rfl,fun n v h=>.inl h⟩
theorem Rel.trans (h:Rel E S S1) (g:Rel E S1 S2):Rel E S S2:=fun k hk=>by
 obtain ⟨g1,g2,g3,g4⟩:=g k hk
 obtain ⟨h1,h2,h3,h4⟩:=h k (by rw [← g1];exact hk)
 exact ⟨g1.trans h1,g2.trans h2,g3.trans h3,fun n v e=>(g4 n v e).elim (fun e=>h4 n v e) .inr⟩
theorem rel_upd {i u:Nat} {x:Ino} (h:x.kind≠0→x.kind=(S.ino i).kind∧x.parent=(S.ino i).parent∧x.target=(S.ino i).target∧∀ n v,lget n x.dir=some v→lget n (S.ino i).dir=some v∨E i n v):Rel E S ⟨br.upd S.ino i x,u⟩:=fun k hk=>by
 have hu:(⟨br.upd S.ino i x,u⟩:BS).ino k=br.upd S.ino i x k:=rfl
 rw [hu] at hk ⊢
 by_cases e:k=i
 ·subst e;rw [br.upd_same] at hk ⊢;exact h hk
 ·rw [br.upd_other _ _ e];exact ⟨rfl,rfl,rfl,fun n v h=>.inl h⟩
theorem rel_back {i u:Nat} {x:Ino} (h:(S.ino i).kind≠0→(S.ino i).kind=x.kind∧(S.ino i).parent=x.parent∧(S.ino i).target=x.target∧∀ n v,lget n (S.ino i).dir=some v→lget n x.dir=some v∨E i n v):Rel E ⟨br.upd S.ino i x,u⟩ S:=fun k hk=>by
 have hu:(⟨br.upd S.ino i x,u⟩:BS).ino k=br.upd S.ino i x k:=rfl
 rw [hu]
 by_cases e:k=i
 ·subst e;rw [br.upd_same];exact h hk
 ·rw [br.upd_other _ _ e];exact ⟨rfl,rfl,rfl,fun n v h=>.inl h⟩
theorem lget_del {n s:ByteArray} {v:Int} {L:List dn.En} (h:lget n (ldel s L)=some v):lget n L=some v:=by
 by_cases e:n=s
 ·subst e;rw [br.lget_gone] at h;cases h
 ·rwa [br.lget_ldel e] at h
theorem lget_set {n s:ByteArray} {v i:Int} {L:List dn.En} (hL:Sorted L) (h:lget n (lset s i L)=some v):lget n L=some v∨(n=s∧v=i):=by
 by_cases e:n=s
 ·subst e;rw [br.lget_lset hL] at h;exact .inr ⟨rfl,(Option.some.inj h).symm⟩
 ·rw [br.lget_lset_other hL e] at h;exact .inl h
theorem rel_del (S:BS) (d:Int) (s:ByteArray):Rel E S (S.putDir d (ldel s (S.at d).dir)):=rel_upd fun _=>⟨rfl,rfl,rfl,fun n v h=>.inl (lget_del h)⟩
theorem rel_set (hS:Srt S) {d:Int} {u:ByteArray} {i:Int} (hE:E d.toNat u i):Rel E S (S.putDir d (lset u i (S.at d).dir)) :=
 rel_upd fun _=>⟨rfl,rfl,rfl,fun n v h=>(lget_set (hS _) h).imp id fun e=>by rw [e.1,e.2];exact hE⟩
theorem rel_less (S:BS) (i a b:Int):Rel E S (S.less i a b):=by
 unfold BS.less
 dsimp only
 split
 ·exact rel_upd fun h=>absurd rfl h
 ·exact rel_upd fun _=>⟨rfl,rfl,rfl,fun n v h=>.inl h⟩
theorem rel_drop (S:BS) (d:Int) (s:ByteArray) (i:Int):Rel E S (S.drop d s i):=(rel_del S d s).trans (rel_less _ _ _ _)
theorem rel_unlink (S:BS) (d:Int) (s:ByteArray):Rel E S (S.unlink d s).2:=by
 unfold BS.unlink
 repeat' split
 all_goals first|exact Rel.refl|exact rel_drop _ _ _ _
theorem srt_upd (hS:Srt S) {i u:Nat} {x:Ino} (hx:Sorted x.dir):Srt ⟨br.upd S.ino i x,u⟩:=fun k=>by
 show Sorted (br.upd S.ino i x k).dir
 by_cases e:k=i
 ·subst e;rw [br.upd_same];exact hx
 ·rw [br.upd_other _ _ e];exact hS k
theorem srt_drop (hS:Srt S) (d:Int) (s:ByteArray) (i:Int):Srt (S.drop d s i):=by
 have h1:Srt (S.putDir d (ldel s (S.at d).dir)):=srt_upd hS (dn.ldel_sorted (hS _))
 unfold BS.drop BS.less
 dsimp only
 split
 ·exact srt_upd h1 List.Pairwise.nil
 ·exact srt_upd h1 (h1 _)
theorem put_at (S:BS) (d:Int) (L:List dn.En):((S.putDir d L).at d).dir=L:=by
 show (br.upd S.ino d.toNat _ d.toNat).dir=L
 rw [br.upd_same]
theorem rel_move (hS:Srt S) {d t i:Int} {s u:ByteArray} (hk:(S.at i).kind≠2):Rel (fun k n _=>k=t.toNat∧n=u) S (S.move d s t u i)∧lget u ((S.move d s t u i).at t).dir=some i:=by
 have h1:Srt (S.putDir d (ldel s (S.at d).dir)):=srt_upd hS (dn.ldel_sorted (hS _))
 unfold BS.move
 dsimp only
 rw [if_neg hk,put_at]
 exact ⟨(rel_del S d s).trans (rel_set h1 ⟨rfl,rfl⟩),br.lget_lset (h1 _)⟩
theorem rel_rename (hS:Srt S) {d t:Int} {s u:ByteArray} (h:(S.rename d s t u).1=0) (hk:(S.at (S.get d s).1).kind≠2) (hh:(S.at (S.get d s).1).holds≠0) :
  Rel (fun k n _=>k=t.toNat∧n=u) S (S.rename d s t u).2∧lget u ((S.rename d s t u).2.at t).dir=some (S.get d s).1:=by
 unfold BS.rename at h ⊢
 by_cases h1:S.dirE d true=0
 case neg=>rw [if_pos h1] at h;exact absurd h h1
 rw [if_neg (wk.nn h1)] at h ⊢
 by_cases h2:(S.get d s).2=0
 case neg=>rw [if_pos h2] at h;exact absurd h h2
 rw [if_neg (wk.nn h2)] at h ⊢
 by_cases h3:S.dirE t true=0
 case neg=>rw [if_pos h3] at h;exact absurd h h3
 rw [if_neg (wk.nn h3)] at h ⊢
 by_cases h4:br.nameE u=0
 case neg=>rw [if_pos h4] at h;exact absurd h h4
 rw [if_neg (wk.nn h4)] at h ⊢
 dsimp only at h ⊢
 generalize (S.get d s).1=i at *
 rw [if_neg (fun e=>hk e.1)] at h ⊢
 cases ho:lget u (S.at t).dir with
 | none=>exact rel_move hS hk
 | some old =>
  rw [ho] at h
  dsimp only at h ⊢
  by_cases e1:old=i
  ·rw [if_pos e1];exact ⟨Rel.refl,by rw [ho,e1]⟩
  rw [if_neg e1] at h ⊢
  by_cases e2:(S.at old).kind=2∧(S.at i).kind≠2
  ·rw [if_pos e2] at h;exact absurd h (show ¬ (21:Int)=0 by decide)
  rw [if_neg e2] at h ⊢
  by_cases e3:(S.at old).kind≠2∧(S.at i).kind=2
  ·exact absurd e3.2 hk
  rw [if_neg e3] at h ⊢
  by_cases e4:(S.at old).kind=2∧(S.at old).dir≠[]
  ·rw [if_pos e4] at h;exact absurd h (show ¬ (39:Int)=0 by decide)
  rw [if_neg e4] at h ⊢
  dsimp only
  have hk2:((S.drop t u old).at i).kind≠2:=by
   have:=(hk_drop S t u old) i.toNat
   show ((S.drop t u old).ino i.toNat).kind≠2
   rw [this.2.1 hh]
   exact hk
  obtain ⟨g1,g2⟩:=rel_move (d:=d) (s:=s) (t:=t) (u:=u) (srt_drop hS t u old) hk2
  exact ⟨(rel_drop S t u old).trans g1,g2⟩
theorem rel_at (hG:br.Good S' room) (hr:Rel E S S') {k:Nat} (k1:1≤k) (k2:k≤200) (hl:(S'.ino k).links≠0):S.kindOf (k:Int)=S'.kindOf (k:Int)∧S.parentOf (k:Int)=S'.parentOf (k:Int)∧S.targetOf (k:Int)=S'.targetOf (k:Int) ∧
  (S'.kindOf (k:Int)=2→∀ n,(S'.get (k:Int) n).2=0→lget n (S'.ino k).dir=some (S'.get (k:Int) n).1∧(S.get (k:Int) n=S'.get (k:Int) n∨E k n (S'.get (k:Int) n).1)):=by
 have hk:(S'.ino k).kind≠0:=fun e=>by rw [hG.1.none k e] at hl;exact hl rfl
 obtain ⟨h1,h2,h3,h4⟩:=hr k hk
 have hk0:(S.ino k).kind≠0:=by rw [← h1];exact hk
 refine ⟨?_,?_,?_,fun hd n hn=>?_⟩
 ·rw [cb.kind_of k1 k2,cb.kind_of k1 k2,h1]
 ·rw [cb.parent_of k1 k2 hk,cb.parent_of k1 k2 hk0,h2]
 ·unfold BS.targetOf
  rw [cb.isI_of k1 k2 hk,cb.isI_of k1 k2 hk0,br.at_nat,br.at_nat,h1,h3]
 ·have hg:=cb.get_yes hn
  refine ⟨hg,(h4 n _ hg).imp (fun e=>?_) id⟩
  rw [cb.kind_of k1 k2] at hd
  rw [get_at k1 k2 (by rw [← h1];exact hd),e]
  exact Prod.ext rfl hn.symm
theorem rel_ext (hG:br.Good S' room) (hr:Rel NoE S S'):Ext (trS S') (trS S) (LvS S'):=by
 refine ⟨?_,?_,?_,?_⟩
 ·rintro a ⟨k,rfl,k1,k2,hl⟩;exact (rel_at hG hr k1 k2 hl).1
 ·rintro a n ⟨k,rfl,k1,k2,hl⟩ hk h;exact ((rel_at hG hr k1 k2 hl).2.2.2 hk n h).2.elim id fun e=>e.elim
 ·rintro a ⟨k,rfl,k1,k2,hl⟩ hk;exact (rel_at hG hr k1 k2 hl).2.1
 ·rintro a ⟨k,rfl,k1,k2,hl⟩;exact (rel_at hG hr k1 k2 hl).2.2.1
theorem rel_part (hG:br.Good S' room) (hr:Rel E S S') (hE:∀ (k:Nat) n v,E k n v→lget n (S'.ino k).dir=some v→S'.kindOf v≠2∧S'.kindOf v≠3):Part2 (trS S') (trS S) (LvS S'):=by
 have hL:=cb.live_of hG
 refine ⟨hL.root.1,?_,?_,?_,?_⟩
 ·rintro a ⟨k,rfl,k1,k2,hl⟩;exact (rel_at hG hr k1 k2 hl).1
 ·rintro a n ⟨k,rfl,k1,k2,hl⟩ hk h
  obtain ⟨h1,h2⟩:=(rel_at hG hr k1 k2 hl).2.2.2 hk n h
  rcases h2 with h2|h2
  ·exact .inr (.inl ⟨h2,hL.get _ n ⟨k,rfl,k1,k2,hl⟩ hk h⟩)
  ·exact .inr (.inr (hE k n _ h2 h1))
 ·rintro a ⟨k,rfl,k1,k2,hl⟩ hk;exact ⟨(rel_at hG hr k1 k2 hl).2.1,(hL.up _ ⟨k,rfl,k1,k2,hl⟩ hk).1⟩
 ·rintro a ⟨k,rfl,k1,k2,hl⟩;exact (rel_at hG hr k1 k2 hl).2.2.1
theorem lead_ext (hG:br.Good S' room) (hr:Rel NoE S S') {t:ByteArray} {fol:Bool} (h:(lead S' t fol).2=0):lead S t fol=lead S' t fol:=by
 unfold lead at h ⊢
 by_cases hp:pe t=0
 case neg=>rw [if_pos hp] at h;exact absurd h hp
 rw [if_neg (wk.nn hp)] at h
 rw [if_neg (wk.nn hp),if_neg (wk.nn hp)]
 exact wk.walk_ext (cb.live_of hG) (rel_ext hG hr) fol 40 1 (pn t) (pd t) (cb.live_of hG).root.1 h
theorem up_ext (hG:br.Good S' room) (hr:Rel NoE S S') {t:ByteArray} (h:(upR S' t).2=0):upR S t=upR S' t :=
 wk.walk_ext (cb.live_of hG) (rel_ext hG hr) true 40 1 _ true (cb.live_of hG).root.1 h
end
end Go.Proofs.YtpmpbmjjlccbbaaGreat.tr
namespace Go.Proofs.YtpmpbmjjlccbbaaGreat.tr
open Go.Proofs.YtpmpbmjjlccbbaaGreat.br (BS Inv Ino)
open Go.Proofs.YtpmpbmjjlccbbaaGreat.wk (e0)
open Go.Proofs.YtpmpbmjjlccbbaaGreat.cb (readI WrI)
open Go.Proofs.YtpmpbmjjlccbbaaGreat.ds (De Tb lowV openT getV setT closeT full)
set_option linter.unusedVariables false
set_option linter.unusedSimpArgs false
theorem cnt_succ (N:Nat) (f:Nat→Bool):bl.cnt (N+1) f=bl.cnt N f+if f N=true then 1 else 0:=by
 unfold bl.cnt
 rw [List.range_succ,List.filter_append,List.length_append]
 congr 1
 by_cases h:f N=true
 ·simp [h]
 ·simp [h]
theorem cnt_or (N:Nat) (f g:Nat→Bool):bl.cnt N (fun k=>f k || g k)≤bl.cnt N f+bl.cnt N g:=by
 induction N with
 | zero=>simp [bl.cnt]
 | succ N ih =>
  rw [cnt_succ,cnt_succ,cnt_succ]
  cases hf:f N <;> cases hg:g N <;> simp [hf,hg] <;> omega
theorem cnt_win (N c m:Nat):bl.cnt N (fun k=>decide (c≤k∧k<c+m))≤min (N - c) m:=by
 induction N with
 | zero=>simp [bl.cnt]
 | succ N ih =>
  rw [cnt_succ]
  by_cases h:c≤N∧N<c+m
  ·rw [if_pos (by simpa using h)];omega
  ·rw [if_neg (by simpa using h)];omega
theorem cnt_more (N:Nat) {f g:Nat→Bool} (h:∀ k,f k=true→g k=true):bl.cnt N f≤bl.cnt N g:=by
 induction N with
 | zero=>simp [bl.cnt]
 | succ N ih =>
  rw [cnt_succ,cnt_succ]
  cases hf:f N
  ·simp;omega
  ·simp [h N hf];omega
theorem thW_cnt (b:bl.AB) (s p:Nat):bl.cnt 4096 (bl.thW b s (s+p))≤b.n+(p / 16+2):=by
 have h1:bl.cnt 4096 (bl.thW b s (s+p))≤bl.cnt 4096 (fun k=>b.th k || decide (s / 16≤k∧k<s / 16+(p / 16+2))):=cnt_more 4096 fun k hk=>by
  unfold bl.thW at hk
  simp only [Bool.or_eq_true,decide_eq_true_eq] at hk ⊢
  rcases hk with h|h
  ·exact .inl h
  ·exact .inr (by omega)
 have h2:=cnt_or 4096 b.th (fun k=>decide (s / 16≤k∧k<s / 16+(p / 16+2)))
 have h3:=cnt_win 4096 (s / 16) (p / 16+2)
 show _≤bl.cnt 4096 b.th+_
 omega
theorem wr_n (b:bl.AB) (off:Int) (p:Nat) (f:Nat→UInt8):(bl.wr b off p f).n≤b.n+(p / 16+2):=thW_cnt b off.toNat p
theorem cut_n (b:bl.AB) (off:Int):(bl.cut b off).n≤b.n:=by
 unfold bl.cut
 split
 ·exact cnt_more 4096 fun k hk=>by
   unfold bl.cutB at hk
   simp only [Bool.and_eq_true] at hk
   exact hk.1
 ·exact Nat.le_refl _
section
variable {S:BS}
theorem put_used (S:BS) (i:Int) (x:Ino):(S.put i x).used=S.used:=rfl
theorem less_used (S:BS) (i a b:Int):(S.less i a b).used≤S.used:=by
 unfold BS.less
 dsimp only
 split
 ·exact Nat.sub_le _ _
 ·exact Nat.le_refl _
theorem drop_used (S:BS) (d:Int) (s:ByteArray) (i:Int):(S.drop d s i).used≤S.used:=less_used _ _ _ _
theorem move_used (S:BS) (d:Int) (s:ByteArray) (t:Int) (u:ByteArray) (i:Int):(S.move d s t u i).used=S.used:=by
 unfold BS.move
 dsimp only
 split <;> rfl
theorem make_used (S:BS) (d:Int) (s:ByteArray) (k:Int) (t:ByteArray):(S.make d s k t).2.used=S.used:=by
 unfold BS.make
 dsimp only
 repeat' split
 all_goals rfl
theorem link_used (S:BS) (d:Int) (s:ByteArray) (i:Int):(S.link d s i).2.used=S.used:=by
 unfold BS.link
 dsimp only
 repeat' split
 all_goals rfl
theorem unlink_used (S:BS) (d:Int) (s:ByteArray):(S.unlink d s).2.used≤S.used:=by
 unfold BS.unlink
 repeat' split
 all_goals first|exact Nat.le_refl _|exact drop_used _ _ _ _
theorem rmdir_used (S:BS) (d:Int) (s:ByteArray):(S.rmdir d s).2.used≤S.used:=by
 unfold BS.rmdir
 repeat' split
 all_goals first|exact Nat.le_refl _|exact drop_used _ _ _ _
theorem rename_used (S:BS) (d:Int) (s:ByteArray) (t:Int) (u:ByteArray):(S.rename d s t u).2.used≤S.used:=by
 unfold BS.rename
 dsimp only
 repeat' split
 all_goals first|exact Nat.le_refl _|(dsimp only;rw [move_used];exact Nat.le_refl _)|(dsimp only;rw [move_used];exact drop_used _ _ _ _)
theorem cutI_used (S:BS) (i off:Int):(S.cutI i off).2.used≤S.used:=by
 unfold BS.cutI
 split
 ·exact Nat.le_refl _
 ·have:=cut_n (S.at i).body off
  show S.used+_ - _≤S.used
  omega
theorem hold_used (S:BS) (i:Int):(S.hold i).2.used=S.used:=by
 unfold BS.hold
 split <;> rfl
theorem release_used (S:BS) (i:Int):(S.release i).2.used≤S.used:=by
 unfold BS.release
 repeat' split
 all_goals first|exact Nat.le_refl _|exact less_used _ _ _ _
theorem wrote_used (S:BS) (i off:Int) (p:Nat) (f:Nat→UInt8):(S.wrote i off p f).used≤S.used+(p / 16+2):=by
 have:=wr_n (S.at i).body off p f
 show S.used+_ - _≤_
 omega
end
section
variable {room:Nat} {y y':Sy} {r:Res}
theorem wrI_used {S S':BS} {i off:Int} {len p:Nat} {f:Nat→UInt8} {err:Int} (h:WrI S room i off len f p err S'):S'.used≤S.used+(len / 16+2):=by
 rcases h with ⟨_,_,_,rfl⟩|⟨_,h2,_,_,rfl⟩
 ·omega
 ·have h1:=wrote_used S i off p f
  have hp:p≤len:=by
   rcases h2 with ⟨_,a,_⟩|⟨_,_,a,_⟩|⟨_,_,a,_⟩|⟨_,_,_,a,_⟩
   ·omega
   ·omega
   ·omega
   ·have:=a.le;omega
  have:p / 16≤len / 16:=Nat.div_le_div_right hp
  omega
theorem opened_used (y:Sy) (d:De):(opened y d).2.S.used=y.S.used:=hold_used _ _
theorem openIno_used (y:Sy) (i flag:Int):(openIno y i flag).2.S.used≤y.S.used:=by
 unfold openIno
 repeat' split
 all_goals first|exact Nat.le_refl _|(rw [opened_used];dsimp only;first|exact cutI_used _ _ _|exact Nat.le_refl _)
theorem doOpen_used (y:Sy) (c:Cal):(doOpen y c).2.S.used≤y.S.used:=by
 unfold doOpen
 dsimp only
 repeat' split
 all_goals first|exact Nat.le_refl _|exact openIno_used _ _ _|(dsimp only;rw [make_used];exact Nat.le_refl _)|(refine Nat.le_trans (openIno_used _ _ _) ?_;dsimp only;rw [make_used];exact Nat.le_refl _)
theorem does_used {c:Cal} (h:Does room y c r y'):y'.S.used≤y.S.used+(c.a.size / 16+2):=by
 have hw:∀ p,DoWrite room y c p r y'→y'.S.used≤y.S.used+(c.a.size / 16+2):=fun p h=>by
  unfold DoWrite at h
  dsimp only at h
  split at h
  ·rw [h.2];omega
  ·obtain ⟨q,e,S',hw,h1,h2⟩:=h
   have:=wrI_used hw
   by_cases he:e=0
   ·rw [(h2 he).2];exact this
   ·rw [(h1 he).2];omega
 have h0:∀ {z:Sy},y'=z→z.S.used≤y.S.used→y'.S.used≤y.S.used+(c.a.size / 16+2):=fun e h=>by rw [e];omega
 unfold Does at h
 have fin:∀ {x:Res×Sy},(r,y')=x→x.2.S.used≤y.S.used→y'.S.used≤y.S.used+(c.a.size / 16+2):=fun e k=>h0 (congrArg Prod.snd e) k
 refine ite_elim h (fun _ k=>fin k (by
  exact doOpen_used y c)) fun _ h=>?_
 refine ite_elim h (fun _ k=>fin k (by
  unfold doClose;split
  ·exact Nat.le_refl _
  ·exact release_used _ _)) fun _ h=>?_
 refine ite_elim h (fun _ k=>fin k (by
  unfold doRead;dsimp only;repeat' split
  all_goals exact Nat.le_refl _)) fun _ h=>?_
 refine ite_elim h (fun _ k=>fin k (by
  unfold doRead;dsimp only;repeat' split
  all_goals exact Nat.le_refl _)) fun _ h=>?_
 refine ite_elim h (fun _ k=>hw _ k) fun _ h=>?_
 refine ite_elim h (fun _ k=>hw _ k) fun _ h=>?_
 refine ite_elim h (fun _ k=>fin k (by
  unfold doSeek;dsimp only;repeat' split
  all_goals exact Nat.le_refl _)) fun _ h=>?_
 refine ite_elim h (fun _ k=>fin k (by
  unfold doCut;dsimp only;split
  ·exact Nat.le_refl _
  ·exact cutI_used _ _ _)) fun _ h=>?_
 refine ite_elim h (fun _ k=>h0 k.2 (Nat.le_refl _)) fun _ h=>?_
 refine ite_elim h (fun _ k=>h0 k.2 (Nat.le_refl _)) fun _ h=>?_
 refine ite_elim h (fun _ k=>fin k (by
  unfold doMkdir;dsimp only;split
  ·exact Nat.le_refl _
  ·dsimp only;rw [make_used];exact Nat.le_refl _)) fun _ h=>?_
 refine ite_elim h (fun _ k=>fin k (by
  unfold doRmdir;dsimp only;split
  ·exact Nat.le_refl _
  ·exact rmdir_used _ _ _)) fun _ h=>?_
 refine ite_elim h (fun _ k=>fin k (by
  unfold doUnlink;dsimp only;repeat' split
  all_goals first|exact Nat.le_refl _|exact unlink_used _ _ _)) fun _ h=>?_
 refine ite_elim h (fun _ k=>fin k (by
  unfold doLink;dsimp only;repeat' split
  all_goals first|exact Nat.le_refl _|(dsimp only;rw [link_used];exact Nat.le_refl _))) fun _ h=>?_
 refine ite_elim h (fun _ k=>fin k (by
  unfold doSymlink;dsimp only;repeat' split
  all_goals first|exact Nat.le_refl _|(dsimp only;rw [make_used];exact Nat.le_refl _))) fun _ h=>?_
 refine ite_elim h (fun _ k=>h0 k.2 (Nat.le_refl _)) fun _ h=>?_
 refine ite_elim h (fun _ k=>fin k (by
  unfold doRename;dsimp only;repeat' split
  all_goals first|exact Nat.le_refl _|exact rename_used _ _ _ _ _)) fun _ h=>?_
 refine ite_elim h (fun _ k=>fin k (by
  unfold doOpendir;dsimp only;repeat' split
  all_goals first|exact Nat.le_refl _|(rw [opened_used];exact Nat.le_refl _))) fun _ h=>?_
 refine ite_elim h (fun _ k=>fin k (by
  unfold doReaddir;dsimp only;repeat' split
  all_goals exact Nat.le_refl _)) fun _ h=>?_
 refine ite_elim h (fun _ k=>fin k (by
  unfold doRewind;dsimp only;repeat' split
  all_goals exact Nat.le_refl _)) fun _ h=>?_
 exact h0 h.2 (Nat.le_refl _)
end
end Go.Proofs.YtpmpbmjjlccbbaaGreat.tr
namespace Go.Proofs.YtpmpbmjjlccbbaaGreat.tr
open Go.Proofs.YtpmpbmjjlccbbaaGreat.br (BS Inv Ino)
open Go.Proofs.YtpmpbmjjlccbbaaGreat.wk (walkT pe pn pd e0 r0 dot1 dot2 Ext Part2)
open Go.Proofs.YtpmpbmjjlccbbaaGreat.cb (trS LvS readI WrI)
open Go.Proofs.YtpmpbmjjlccbbaaGreat.dn (lget lset ldel Sorted)
open Go.Proofs.YtpmpbmjjlccbbaaGreat.ds (De Tb low lowV openT getV setT closeT full spot put)
set_option linter.unusedVariables false
set_option linter.unusedSimpArgs false
def HB (I:Nat) (S S':BS):Prop:=(S.ino I).holds≠0→(S'.ino I).holds=(S.ino I).holds∧(S'.ino I).kind=(S.ino I).kind∧(S'.ino I).body=(S.ino I).body
section
variable {I:Nat} {S S1 S2:BS}
theorem HB.refl:HB I S S:=fun _=>⟨rfl,rfl,rfl⟩
theorem HB.trans (h:HB I S S1) (k:HB I S1 S2):HB I S S2:=fun e=>by
 obtain ⟨h1,h2,h3⟩:=h e
 obtain ⟨k1,k2,k3⟩:=k (by rw [h1];exact e)
 exact ⟨k1.trans h1,k2.trans h2,k3.trans h3⟩
theorem hb_upd {i u:Nat} {x:Ino} (h:(S.ino i).holds≠0→x.holds=(S.ino i).holds∧x.kind=(S.ino i).kind∧x.body=(S.ino i).body):HB I S ⟨br.upd S.ino i x,u⟩:=fun hh=>by
 have hu:(⟨br.upd S.ino i x,u⟩:BS).ino I=br.upd S.ino i x I:=rfl
 rw [hu]
 by_cases e:I=i
 ·subst e;rw [br.upd_same];exact h hh
 ·rw [br.upd_other _ _ e];exact ⟨rfl,rfl,rfl⟩
theorem hb_dir (S:BS) (d:Int) (L:List dn.En):HB I S (S.putDir d L):=hb_upd fun _=>⟨rfl,rfl,rfl⟩
theorem hb_less (S:BS) (i dl:Int):HB I S (S.less i dl 0):=by
 unfold BS.less
 dsimp only
 split
 ·rename_i h
  refine hb_upd fun e=>absurd ?_ e
  have:=h.2;show (S.at i).holds=0;omega
 ·exact hb_upd fun _=>⟨by show (S.at i).holds - 0=_;exact Int.sub_zero _,rfl,rfl⟩
theorem hb_drop (S:BS) (d:Int) (s:ByteArray) (i:Int):HB I S (S.drop d s i):=(hb_dir _ _ _).trans (hb_less _ _ _)
theorem hb_move (S:BS) (d:Int) (s:ByteArray) (t:Int) (u:ByteArray) (i:Int):HB I S (S.move d s t u i):=by
 unfold BS.move
 dsimp only
 split
 ·exact ((hb_dir _ _ _).trans (hb_dir _ _ _)).trans (hb_upd fun _=>⟨rfl,rfl,rfl⟩)
 ·exact (hb_dir _ _ _).trans (hb_dir _ _ _)
theorem hb_unlink (S:BS) (d:Int) (s:ByteArray):HB I S (S.unlink d s).2:=by
 unfold BS.unlink
 repeat' split
 all_goals first|exact HB.refl|exact hb_drop _ _ _ _
theorem hb_rename (S:BS) (d:Int) (s:ByteArray) (t:Int) (u:ByteArray):HB I S (S.rename d s t u).2:=by
 unfold BS.rename
 dsimp only
 repeat' split
 all_goals first|exact HB.refl|exact hb_move _ _ _ _ _ _|exact (hb_drop _ _ _ _).trans (hb_move _ _ _ _ _ _)
theorem hb_link (S:BS) (d:Int) (s:ByteArray) (i:Int):HB I S (S.link d s i).2:=by
 unfold BS.link
 dsimp only
 repeat' split
 all_goals first|exact HB.refl|exact HB.trans (S1:=S.put i { S.at i with links:=(S.at i).links+1 }) (hb_upd fun _=>⟨rfl,rfl,rfl⟩) (hb_dir _ _ _)
end
def Fil (f o:Int) (I:Nat) (bs:List UInt8) (fd:Int) (y:Sy):Prop:=getV y.T fd=(⟨(I:Int),f,o,false,[],0⟩,0)∧1≤I∧I≤200∧(y.S.ino I).kind=1∧(y.S.ino I).body.size=bs.length∧∀ j,j<bs.length→(y.S.ino I).body.dat j=bs.getD j 0
section
variable {room I:Nat} {y y':Sy} {f o fd:Int} {bs:List UInt8} {r:Res}
theorem fil_set {T:Tb} {fd:Int} {d d':De} (hg:getV T fd=(d,0)):getV (setT T fd d') fd=(d',0):=by
 obtain ⟨k,rfl,hk,hT,hs⟩:=spot_of hg
 have e:setT T (k:Int) d'=put T k (some d'):=by unfold setT;rw [hs];rfl
 rw [e]
 unfold getV spot
 rw [if_pos ⟨by omega,by omega⟩,Int.toNat_natCast,ds.put_same]
theorem fil_other {T:Tb} {fd fd':Int} {d d':De} (hg:getV T fd=(d,0)) (hne:fd'≠fd):getV (setT T fd' d') fd=(d,0):=by
 unfold setT
 cases hs:spot T fd' with
 | none=>exact hg
 | some x =>
  obtain ⟨k,rfl,_,_⟩:=ds.spot_some hs
  obtain ⟨j,rfl,hj,hT,_⟩:=spot_of hg
  show getV (put T ((k:Int)).toNat _) (j:Int)=_
  unfold getV spot
  rw [if_pos ⟨by omega,by omega⟩,Int.toNat_natCast,Int.toNat_natCast,ds.put_other T _ (by omega),hT]
theorem fil_open {T:Tb} {fd:Int} {d d':De} (hg:getV T fd=(d,0)):getV (openT T d') fd=(d,0):=by
 obtain ⟨k,rfl,hk,hT,hs⟩:=spot_of hg
 unfold openT
 cases hl:low T with
 | none=>exact hg
 | some j =>
  obtain ⟨_,hj,_⟩:=ds.low_some hl
  have hne:k≠j:=fun e=>by subst e;rw [hT] at hj;cases hj
  show getV (put T j (some d')) (k:Int)=(d,0)
  unfold getV spot
  rw [if_pos ⟨by omega,by omega⟩,Int.toNat_natCast,ds.put_other T (some d') hne,hT]
theorem fil_new {T:Tb} {d:De} (h:full T=false):getV (openT T d) (lowV T).1=(d,0):=by
 unfold full at h
 unfold openT lowV
 cases hl:low T with
 | none=>rw [hl] at h;exact absurd h (by decide)
 | some k =>
  obtain ⟨h1,_,_⟩:=ds.low_some hl
  show getV (put T k (some d)) (k:Int)=(d,0)
  unfold getV spot
  rw [if_pos ⟨by omega,by omega⟩,Int.toNat_natCast,ds.put_same]
theorem Fil.held (h:Fil f o I bs fd y) (hd:Hd room y):(y.S.ino I).holds≠0:=by
 obtain ⟨hg,_⟩:=h
 obtain ⟨k,rfl,hk,hT,_⟩:=spot_of hg
 obtain ⟨J,hJ,_,_,hh,_⟩:=hd.held hk hT
 have:J=I:=by have e:(I:Int)=(J:Int):=hJ;omega
 rw [this] at hh;exact hh
theorem Fil.keep (h:Fil f o I bs fd y) (hd:Hd room y) {S':BS} {T':Tb} (hb:HB I y.S S') (hT:getV T' fd=getV y.T fd):Fil f o I bs fd ⟨S',T'⟩:=by
 obtain ⟨_,b2,b3⟩:=hb (h.held hd)
 obtain ⟨hg,i1,i2,hk,hs,hx⟩:=h
 refine ⟨hT.trans hg,i1,i2,b2.trans hk,?_,?_⟩
 ·show (S'.ino I).body.size=_;rw [b3];exact hs
 ·show ∀ j,_→(S'.ino I).body.dat j=_;rw [b3];exact hx
theorem fil_fileE {S:BS} (h1:1≤I) (h2:I≤200) (hk:(S.ino I).kind=1):S.fileE (I:Int)=0:=by
 unfold BS.fileE
 rw [cb.kind_of h1 h2,hk]
 decide
theorem Fil.q (h:Fil f o I bs fd y) (hd:Hd room y):readI y.S (I:Int) 0 65536=(0,bs.length):=by
 obtain ⟨hg,h1,h2,hk,hs,hb⟩:=h
 have hsz:=(hd.good.1.body I).size
 unfold readI
 rw [if_neg (by rw [fil_fileE h1 h2 hk];decide),br.at_nat]
 unfold bl.readR
 rw [if_neg (by decide),hs]
 congr 1
 have:(65536:Int).toNat=65536:=rfl
 rw [this]
 omega
theorem Fil.bytes (h:Fil f o I bs fd y) (n:Nat) (hn:n=bs.length):(List.ofFn (n:=n) fun j=>(y.S.at (I:Int)).body.dat ((0:Int).toNat+j))=bs:=by
 subst hn
 obtain ⟨hg,h1,h2,hk,hs,hb⟩:=h
 apply List.ext_getElem
 ·simp
 ·intro j g1 g2
  rw [List.getElem_ofFn]
  show (y.S.at (I:Int)).body.dat ((0:Int).toNat+j)=bs[j]
  rw [br.at_nat,show (0:Int).toNat+j=j by simp,hb j g2,List.getD,List.getElem?_eq_getElem g2]
  rfl
theorem fil_pread (h:Fil f o I bs fd y) (hd:Hd room y) (hf:kB (some 0) f=false):doRead y ⟨5,fd,0,65536,0,e0,e0⟩ true=(⟨0,(bs.length:Int),⟨bs.toArray⟩,(0,0,0)⟩,y):=by
 have hfd:fileD y.T fd (some 0)=(⟨(I:Int),f,o,false,[],0⟩,0):=fileD_yes h.1 rfl hf
 have hq:=h.q hd
 unfold doRead
 dsimp only
 rw [hfd]
 dsimp only
 rw [if_neg (by decide),if_neg (by simp)]
 simp only [if_true,if_neg (show ¬ ((65536:Int)<65536) by decide)]
 rw [hq]
 rw [if_neg (by simp)]
 exact congrArg (fun L:List UInt8=>((⟨0,(bs.length:Int),⟨L.toArray⟩,(0,0,0)⟩,y):Res×Sy)) (h.bytes _ (by simp [hq]))
theorem fil_read (h:Fil f 0 I bs fd y) (hd:Hd room y) (hf:kB (some 0) f=false):doRead y ⟨3,fd,0,65536,0,e0,e0⟩ false=(⟨0,(bs.length:Int),⟨bs.toArray⟩,(0,0,0)⟩,⟨y.S,setT y.T fd ⟨(I:Int),f,0+(bs.length:Int),false,[],0⟩⟩):=by
 have hfd:fileD y.T fd (some 0)=(⟨(I:Int),f,0,false,[],0⟩,0):=fileD_yes h.1 rfl hf
 have hq:=h.q hd
 unfold doRead
 dsimp only
 rw [hfd]
 dsimp only
 rw [if_neg (by decide),if_neg (by simp)]
 simp only [Bool.false_eq_true,if_false,if_neg (show ¬ ((65536:Int)<65536) by decide)]
 rw [hq]
 rw [if_neg (by simp)]
 exact congrArg (fun L:List UInt8=>((⟨0,(bs.length:Int),⟨L.toArray⟩,(0,0,0)⟩,⟨y.S,setT y.T fd ⟨(I:Int),f,0+(bs.length:Int),false,[],0⟩⟩):Res×Sy)) (h.bytes _ (by simp [hq]))
theorem made {c:Cal} (hG:br.Good y.S room) (h:(r,y')=doOpen y c) (he:r.e=0) (hf:c.flag=15) :
  ∃ I:Nat,Fil 15 0 I [] r.n y'∧(y'.S.ino I).links=1∧∀ fol,(lead y'.S c.a fol).2=0∧(lead y'.S c.a fol).1.2.2=(I:Int):=by
 have hw:∀ {e:Int} {z:Sy},e≠0→(r,y')=(wrong e,z)→False:=fun hne h2=>by
  injection h2 with h2 _
  rw [h2] at he
  exact hne he
 unfold doOpen at h
 dsimp only at h
 rw [hf] at h
 rw [if_neg (by decide)] at h
 by_cases hfull:full y.T=true
 ·rw [if_pos hfull] at h;exact (hw (by decide) h).elim
 rw [if_neg hfull] at h
 have hft:full y.T=false:=by simpa using hfull
 rw [show (bit 15 2 && bit 15 3)=true by decide,show bit 15 2=true by decide] at h
 simp only [Bool.not_true,and_true,if_true] at h
 by_cases hr:(lead y.S c.a false).2=2∧(lead y.S c.a false).1.2.1≠e0
 case neg =>
  rw [if_neg hr] at h
  split at h
  ·rename_i h1;exact (hw h1 h).elim
  ·exact (hw (by decide) h).elim
 rw [if_pos hr] at h
 by_cases hpd:pd c.a=true
 ·rw [if_pos hpd] at h;exact (hw (by decide) h).elim
 rw [if_neg hpd] at h
 have hpd':pd c.a=false:=by simpa using hpd
 obtain ⟨hr2,hrn⟩:=hr
 obtain ⟨D,s,j,hR⟩:∃ D s j,lead y.S c.a false=((D,s,j),2):=⟨_,_,_,by rw [← hr2]⟩
 rw [hR] at h hrn
 dsimp only at h hrn
 by_cases hm:(y.S.make D s 1 e0).1.2=0
 case neg=>rw [if_pos hm] at h;exact (hw hm h).elim
 rw [if_neg (wk.nn hm)] at h
 unfold BS.make at h hm
 by_cases m1:y.S.vacant D s=0
 case neg=>rw [if_pos m1] at hm;exact absurd hm m1
 rw [if_neg (wk.nn m1)] at h hm
 have m2:br.badKind 1 e0=false:=by decide
 rw [m2] at h hm
 simp only [Bool.false_eq_true,if_false] at h hm
 by_cases m3:200<y.S.free 1 200
 ·rw [if_pos m3] at hm;exact absurd hm (show ¬ (28:Int)=0 by decide)
 rw [if_neg m3] at h
 dsimp only at h
 obtain ⟨f1,f2,f3,f4⟩:=br.free_spec y.S 200 1
 generalize y.S.free 1 200=n at *
 have hn0:(y.S.ino n).kind=0:=f3 (by omega)
 unfold BS.vacant at m1
 by_cases v1:y.S.dirE D true=0
 case neg=>rw [if_pos v1] at m1;exact absurd m1 v1
 rw [if_neg (wk.nn v1)] at m1
 by_cases v2:br.nameE s=0
 case neg=>rw [if_pos v2] at m1;exact absurd m1 v2
 rw [if_neg (wk.nn v2)] at m1
 have v3:lget s (y.S.at D).dir=none:=by
  cases hl:lget s (y.S.at D).dir with
  | none=>rfl
  | some v=>rw [hl] at m1;exact absurd m1 (show ¬ (17:Int)=0 by decide)
 have v4:y.S.kindOf D=2:=by
  unfold BS.dirE at v1
  unfold BS.kindOf
  by_cases i1:y.S.isI D=true
  case neg=>rw [if_pos (by simpa using i1)] at v1;exact absurd v1 (by decide)
  rw [if_neg (by rw [i1];decide)] at v1
  rw [if_pos i1]
  by_cases i2:(y.S.at D).kind=2
  ·exact i2
  ·rw [if_pos i2] at v1;exact absurd v1 (by decide)
 obtain ⟨K,rfl,K1,K2,Kk⟩:=dir_of v4
 have hnK:K≠n:=fun e=>by rw [e,hn0] at Kk;exact absurd Kk (by decide)
 rw [br.at_nat] at v3
 have eN:∀ x:Ino,(y.S.put (n:Int) x).at (K:Int)=y.S.ino K:=fun x=>by rw [br.at_nat,br.put_nat,if_neg hnK]
 rw [eN] at h
 obtain ⟨S1,hS1⟩:∃ S1,S1=(y.S.put (n:Int) ⟨1,1,0,0,if (1:Int)=2 then (K:Int) else 0,br.abE,[],e0⟩).putDir (K:Int) (lset s (n:Int) (y.S.ino K).dir):=⟨_,rfl⟩
 rw [← hS1] at h
 have sN:S1.ino n=⟨1,1,0,0,if (1:Int)=2 then (K:Int) else 0,br.abE,[],e0⟩:=by
  rw [hS1];unfold BS.putDir
  rw [br.put_nat,if_neg (fun e=>hnK e.symm),br.put_nat,if_pos rfl]
 have sK:S1.ino K={ y.S.ino K with dir:=lset s (n:Int) (y.S.ino K).dir }:=by
  rw [hS1];unfold BS.putDir
  rw [br.put_nat,if_pos rfl,eN]
 have kN:S1.kindOf (n:Int)=1:=by rw [cb.kind_of f1 (by omega),sN]
 unfold openIno at h
 rw [kN] at h
 rw [if_neg (by decide),if_neg (by decide)] at h
 rw [show bit 15 4=false by decide] at h
 simp only [Bool.false_eq_true,if_false] at h
 unfold opened at h
 injection h with h1 h2
 have hS2:(S1.hold (n:Int)).2=S1.put (n:Int) { S1.at (n:Int) with holds:=(S1.at (n:Int)).holds+1 }:=by
  unfold BS.hold
  rw [if_neg (by rw [cb.isI_of f1 (by omega) (by rw [sN];exact (show ¬ (1:Int)=0 by decide))];decide)]
 dsimp only at h2
 have e2:y'.S=S1.put (n:Int) { S1.at (n:Int) with holds:=(S1.at (n:Int)).holds+1 }:=by rw [h2];exact hS2
 have yN:y'.S.ino n={ S1.ino n with holds:=(S1.ino n).holds+1 }:=by rw [e2,br.put_nat,if_pos rfl,br.at_nat]
 have yK:y'.S.ino K=S1.ino K:=by rw [e2,br.put_nat,if_neg hnK]
 refine ⟨n,⟨?_,f1,by omega,?_,?_,fun j hj=>absurd hj (Nat.not_lt_zero _)⟩,?_,fun fol=>?_⟩
 ·rw [h1,h2];exact fil_new hft
 ·rw [yN,sN]
 ·rw [yN,sN];rfl
 ·rw [yN,sN]
 ·have hsrt:Sorted (y.S.ino K).dir:=hG.1.sorted K
  have r1:Rel NoE y'.S y.S:=fun k hk=>by
   by_cases k1:k=n
   ·rw [k1] at hk;exact absurd hn0 hk
   ·have e3:y'.S.ino k=S1.ino k:=by rw [e2,br.put_nat,if_neg k1]
    rw [e3]
    by_cases k2:k=K
    ·subst k2
     rw [sK]
     refine ⟨rfl,rfl,rfl,fun x v hx=>.inl ?_⟩
     have hne:x≠s:=fun e=>by rw [e,v3] at hx;cases hx
     show lget x (lset s (n:Int) (y.S.ino k).dir)=some v
     rw [br.lget_lset_other hsrt hne];exact hx
    ·have e4:S1.ino k=y.S.ino k:=by
      rw [hS1];unfold BS.putDir
      rw [br.put_nat,if_neg k2,br.put_nat,if_neg k1]
     rw [e4];exact ⟨rfl,rfl,rfl,fun x v hx=>.inl hx⟩
  have hg:y'.S.get (K:Int) s=((n:Int),0):=by
   rw [get_at K1 K2 (by rw [yK,sK];exact Kk),yK,sK]
   dsimp only
   rw [br.lget_lset hsrt]
  have hkn:y'.S.kindOf (n:Int)=1:=by rw [cb.kind_of f1 (by omega),yN,sN]
  unfold lead at hR
  by_cases hp:pe c.a=0
  case neg=>rw [if_pos hp] at hR;exact absurd (congrArg (fun z:wk.Rs=>z.1.2.1) hR).symm hrn
  rw [if_neg (wk.nn hp),hpd'] at hR
  have hwn:=wk.walk_new (cb.live_of hG) (rel_ext hG r1) fol 40 1 (pn c.a) hrn (cb.live_of hG).root.1 hR hg hkn
  unfold lead
  rw [if_neg (wk.nn hp),hpd',hwn]
  exact ⟨rfl,rfl⟩
end
end Go.Proofs.YtpmpbmjjlccbbaaGreat.tr
namespace Go.Proofs.YtpmpbmjjlccbbaaGreat.tr
open Go.Proofs.YtpmpbmjjlccbbaaGreat.br (BS Inv Ino)
open Go.Proofs.YtpmpbmjjlccbbaaGreat.wk (walkT pe pn pd e0 r0 dot1 dot2 Ext Part2)
open Go.Proofs.YtpmpbmjjlccbbaaGreat.cb (trS LvS readI WrI)
open Go.Proofs.YtpmpbmjjlccbbaaGreat.dn (lget lset ldel Sorted)
open Go.Proofs.YtpmpbmjjlccbbaaGreat.ds (De Tb low lowV openT getV setT closeT full spot put)
set_option linter.unusedVariables false
set_option linter.unusedSimpArgs false
section
variable {room I:Nat} {y y':Sy} {f o fd:Int} {bs:List UInt8} {r:Res} {S S':BS}
theorem filled {x:ByteArray} (hd:Hd 65536 y) (h:Fil 15 0 I [] fd y) (hu:y.S.used≤61000) (hx:x.size≤4096) (hw:DoWrite 65536 y ⟨4,fd,0,0,0,x,e0⟩ false r y') :
  r.e=0∧r.n=(x.size:Int)∧(∃ o,Fil 15 o I x.data.toList fd y')∧(y'.S.ino I).links=(y.S.ino I).links∧Rel NoE y'.S y.S:=by
 obtain ⟨hg,i1,i2,hk,hs,hb⟩:=h
 have hfd:fileD y.T fd (some 1)=(⟨(I:Int),15,0,false,[],0⟩,0):=fileD_yes hg rfl (show kB (some 1) 15=false by decide)
 unfold DoWrite at hw
 dsimp only at hw
 rw [hfd] at hw
 dsimp only at hw
 rw [if_neg (by decide)] at hw
 obtain ⟨q,e,S',hwr,g1,g2⟩:=hw
 have hat:writeAt y ⟨4,fd,0,0,0,x,e0⟩ false ⟨(I:Int),15,0,false,[],0⟩=0:=by
  unfold writeAt
  rw [if_neg (by decide),if_neg (by simp only [];decide)]
 rw [hat] at hwr
 rcases hwr with ⟨k1,_⟩|⟨_,k2,_,k4,rfl⟩
 ·exact absurd (fil_fileE i1 i2 hk) k1
 rw [br.at_nat] at k2 k4
 have hq:e=0∧q=x.size:=by
  rcases k2 with ⟨a,_⟩|⟨_,a,b,c⟩|⟨a,b,c,dd⟩|⟨a,b,c,st,ee⟩
  ·omega
  ·exact ⟨c,by omega⟩
  ·omega
  ·rw [show (0:Int).toNat=0 from rfl] at st
   have hqT:q=min x.size (65536 - 0):=by
    rcases st.stop with h|h
    ·exact h
    ·exfalso
     apply h
     refine .inr ?_
     have hle:=st.le
     have:=thW_cnt (y.S.ino I).body 0 q
     unfold bl.usedW
     have hn:bl.AB.n (y.S.ino I).body=bl.cnt 4096 (y.S.ino I).body.th:=rfl
     omega
   have hq0:q≠0:=by omega
   rw [if_neg hq0] at ee
   exact ⟨ee,by omega⟩
 obtain ⟨he,hqx⟩:=hq
 obtain ⟨hr,hy⟩:=g2 he
 rw [if_neg (by decide)] at hy
 have hino:(y.S.wrote (I:Int) 0 q (fun j=>x.data[j]?.getD 0)).ino I={ y.S.ino I with body:=bl.wr (y.S.ino I).body 0 q (fun j=>x.data[j]?.getD 0) }:=by
  unfold BS.wrote
  rw [br.at_nat]
  show br.upd _ ((I:Int)).toNat _ I=_
  rw [Int.toNat_natCast,br.upd_same]
 have hxl:x.data.toList.length=x.size:=by rw [Array.length_toList];rfl
 refine ⟨by rw [hr],by rw [hr,hqx],⟨writeAt y ⟨4,fd,0,0,0,x,e0⟩ false ⟨(I:Int),15,0,false,[],0⟩+(q:Int),?_,i1,i2,?_,?_,?_⟩,?_,?_⟩
 ·rw [hy];exact fil_set hg
 ·rw [hy];dsimp only;rw [hino];exact hk
 ·rw [hy];dsimp only;rw [hino,hxl]
  show (if q=0 then (y.S.ino I).body.size else max (y.S.ino I).body.size ((0:Int).toNat+q))=_
  have hs0:(y.S.ino I).body.size=0:=hs
  rw [hs0,show (0:Int).toNat=0 from rfl]
  split <;> omega
 ·intro j hj
  rw [hxl] at hj
  rw [hy];dsimp only;rw [hino]
  show bl.over (y.S.ino I).body.dat (0:Int).toNat q (fun j=>x.data[j]?.getD 0) j=_
  rw [show (0:Int).toNat=0 from rfl]
  unfold bl.over
  rw [if_pos (by omega),List.getD,Array.getElem?_toList]
  rfl
 ·rw [hy];dsimp only;rw [hino]
 ·rw [hy];exact rel_back fun _=>⟨rfl,rfl,rfl,fun n v h=>.inl h⟩
theorem stat_file {c:Cal} (hl:(lead y.S c.a true).2=0∧(lead y.S c.a true).1.2.2=(I:Int)) (h:Fil f o I bs fd y) (h1:(y.S.ino I).links=1):doStat y c true=⟨0,0,e0,(1,bs.length,1)⟩:=by
 obtain ⟨_,i1,i2,hk,hs,_⟩:=h
 unfold doStat
 dsimp only
 rw [if_neg (wk.nn hl.1),hl.2]
 unfold BS.stat
 rw [cb.isI_of i1 i2 (by rw [hk];decide),if_pos rfl,br.at_nat]
 unfold Ino.sizeOf
 rw [hk,if_pos rfl,hs,h1]
theorem place_same {t:ByteArray} {b:Int} (hb:b≠0) (hp:placeE S t b=0) (hu:upR S' t=upR S t) (hk:S'.kindOf (placeD S t)=2):placeE S' t b=0∧placeD S' t=placeD S t:=by
 obtain ⟨p1,p2,p3,p4,p5,p6⟩:=place_ok hb hp
 have hne:pn t≠[]:=fun e=>by rw [e] at p2;cases p2
 refine ⟨?_,by unfold placeD;rw [hu]⟩
 unfold placeE
 rw [if_neg (wk.nn p1),if_neg (fun e=>e.elim hne fun e=>e.elim p3 p4),hu,if_neg (wk.nn p5),if_neg (wk.nn (show S'.kindOf (upR S t).1.2.2=2 from hk))]
theorem lead_at {t:ByteArray} {b:Int} {D:Nat} {fol:Bool} (hb:b≠0) (hp:placeE S t b=0) (hD:placeD S t=(D:Int)) (D1:1≤D) (D2:D≤200) (Dk:(S.ino D).kind=2) (hg:lget (placeN t) (S.ino D).dir=some (I:Int)) (i1:1≤I) (i2:I≤200) (hk:(S.ino I).kind=1) (h:(lead S t fol).2=0) :
  (lead S t fol).1.2.2=(I:Int):=by
 obtain ⟨_,_,n1,n2,_,_⟩:=place_ok hb hp
 have hget:(trS S).get (D:Int) (placeN t)=((I:Int),0):=by
  show S.get (D:Int) (placeN t)=_
  rw [get_at D1 D2 Dk,hg]
 have hkI:(trS S).kind (I:Int)=1:=by show S.kindOf (I:Int)=1;rw [cb.kind_of i1 i2,hk]
 rcases lead_place hb hp fol with ⟨k,e⟩|e
 ·rw [hD] at e
  have hL:¬ wk.Lnk (trS S) fol (D:Int) (placeN t) [] (pd t):=fun e=>by
   have:=e.1
   rw [hget,hkI] at this
   exact absurd this (by decide)
  have hw:=wk.w_last (X:=trS S) (fol:=fol) (m:=k) (a:=(D:Int)) (n:=placeN t) (d:=pd t) (by show S.kindOf (D:Int)=2;rw [cb.kind_of D1 D2,Dk]) n2 n1 (by rw [hget]) hL
  rw [e,hw] at h ⊢
  by_cases c:pd t=true∧(trS S).kind ((trS S).get (D:Int) (placeN t)).1≠2
  ·rw [if_pos c] at h;exact absurd h (show ¬ (20:Int)=0 by decide)
  ·rw [if_neg c,hget]
 ·rw [e] at h;exact absurd h (by decide)
def Nam (S:BS) (I:Nat) (t:ByteArray):Prop:=∃ D:Nat,1≤D∧D≤200∧(S.ino D).kind=2∧placeE S t 17=0∧placeD S t=(D:Int)∧lget (placeN t) (S.ino D).dir=some (I:Int)
theorem f_linked {c:Cal} (hG:br.Good y.S room) (h:(r,y')=doLink y c) (he:r.e=0) (i1:1≤I) (i2:I≤200) (hl:(lead y.S c.a false).2=0∧(lead y.S c.a false).1.2.2=(I:Int)) :
  y'.T=y.T∧HB I y.S y'.S∧Nam y'.S I c.b:=by
 have hw:∀ {e:Int} {z:Sy},e≠0→(r,y')=(wrong e,z)→False:=fun hne h2=>by
  injection h2 with h2 _
  rw [h2] at he
  exact hne he
 unfold doLink at h
 dsimp only at h
 rw [if_neg (wk.nn hl.1),hl.2] at h
 by_cases p1:y.S.kindOf (I:Int)=2
 ·rw [if_pos p1] at h;exact (hw (by decide) h).elim
 rw [if_neg p1] at h
 by_cases p2:placeE y.S c.b 17=0
 case neg=>rw [if_pos p2] at h;exact (hw p2 h).elim
 rw [if_neg (wk.nn p2)] at h
 by_cases p3:pd c.b=true
 ·rw [if_pos p3] at h;exact (hw (by decide) h).elim
 rw [if_neg p3] at h
 injection h with h1 h2
 rw [h1] at he
 have hm:(y.S.link (placeD y.S c.b) (placeN c.b) (I:Int)).1=0:=he
 have hS:y'.S=(y.S.link (placeD y.S c.b) (placeN c.b) (I:Int)).2:=by rw [h2]
 refine ⟨by rw [h2],by rw [hS];exact hb_link _ _ _ _,?_⟩
 obtain ⟨_,_,_,_,u1,u2⟩:=place_ok (by decide) p2
 obtain ⟨D,hD,D1,D2,Dk⟩:=dir_of u2
 rw [hD] at hm hS
 unfold BS.link at hm hS
 by_cases v:y.S.vacant (D:Int) (placeN c.b)=0
 case neg=>rw [if_pos v] at hm;exact absurd hm v
 rw [if_neg (wk.nn v)] at hm hS
 by_cases q1:y.S.isI (I:Int)=false∨(y.S.at (I:Int)).links=0
 ·rw [if_pos q1] at hm;exact absurd hm (show ¬ (2:Int)=0 by decide)
 rw [if_neg q1] at hm hS
 by_cases q2:(y.S.at (I:Int)).kind=2
 ·rw [if_pos q2] at hm;exact absurd hm (show ¬ (1:Int)=0 by decide)
 rw [if_neg q2] at hm hS
 by_cases q3:20≤(y.S.at (I:Int)).links
 ·rw [if_pos q3] at hm;exact absurd hm (show ¬ (31:Int)=0 by decide)
 rw [if_neg q3] at hm hS
 dsimp only at hS
 have v3:lget (placeN c.b) (y.S.ino D).dir=none:=by
  unfold BS.vacant at v
  by_cases v1:y.S.dirE (D:Int) true=0
  case neg=>rw [if_pos v1] at v;exact absurd v v1
  rw [if_neg (wk.nn v1)] at v
  by_cases v2:br.nameE (placeN c.b)=0
  case neg=>rw [if_pos v2] at v;exact absurd v v2
  rw [if_neg (wk.nn v2),br.at_nat] at v
  cases hl:lget (placeN c.b) (y.S.ino D).dir with
  | none=>rfl
  | some w=>rw [hl] at v;exact absurd v (show ¬ (17:Int)=0 by decide)
 have hsrt:Sorted (y.S.ino D).dir:=hG.1.sorted D
 obtain ⟨S1,hS1⟩:∃ S1,S1=y.S.put (I:Int) { y.S.at (I:Int) with links:=(y.S.at (I:Int)).links+1 }:=⟨_,rfl⟩
 rw [← hS1] at hS
 have hd1:∀ k,(S1.ino k).dir=(y.S.ino k).dir∧(S1.ino k).kind=(y.S.ino k).kind:=fun k=>by
  rw [hS1,br.put_nat]
  split
  ·rename_i e;rw [e,br.at_nat];exact ⟨rfl,rfl⟩
  ·exact ⟨rfl,rfl⟩
 have r0:Rel NoE S1 y.S:=by rw [hS1];exact rel_back fun _=>⟨rfl,rfl,rfl,fun n v h=>.inl h⟩
 have r1:Rel NoE y'.S S1:=by
  rw [hS]
  refine rel_back fun _=>⟨rfl,rfl,rfl,fun n x hx=>.inl ?_⟩
  show lget n (lset (placeN c.b) (I:Int) (S1.at (D:Int)).dir)=some x
  rw [Int.toNat_natCast] at hx
  rw [br.at_nat,(hd1 D).1]
  rw [(hd1 D).1] at hx
  have hne:n≠placeN c.b:=fun e=>by rw [e,v3] at hx;cases hx
  rw [br.lget_lset_other hsrt hne];exact hx
 have hr:Rel NoE y'.S y.S:=r1.trans r0
 have hu:=up_ext hG hr u1
 have hyD:y'.S.ino D={ S1.ino D with dir:=lset (placeN c.b) (I:Int) (y.S.ino D).dir }:=by
  rw [hS];unfold BS.putDir
  rw [br.put_nat,if_pos rfl,br.at_nat,(hd1 D).1]
 have hyk:(y'.S.ino D).kind=2:=by rw [hyD];show (S1.ino D).kind=2;rw [(hd1 D).2,Dk]
 have hps:=place_same (S:=y.S) (S':=y'.S) (by decide) p2 hu (by rw [hD,cb.kind_of D1 D2];exact hyk)
 exact ⟨D,D1,D2,hyk,hps.1,hps.2.trans hD,by rw [hyD];exact br.lget_lset hsrt⟩
theorem found_b {t:ByteArray} (hG:br.Good S' room) (hr:Rel NoE S S') (hN:Nam S I t) (i1:1≤I) (i2:I≤200) (hk:(S.ino I).kind=1) (h:(lead S' t true).2=0):(lead S' t true).1.2.2=(I:Int):=by
 obtain ⟨D,D1,D2,Dk,hp,hD,hg⟩:=hN
 have e:=lead_ext hG hr h
 rw [← e] at h ⊢
 exact lead_at (by decide) hp hD D1 D2 Dk hg i1 i2 hk h
theorem found_c {c:Cal} (hd:Hd room y) (hG':br.Good y'.S room) (hr:Rel NoE S y.S) (hN:Nam S I c.a) (hF:Fil f o I bs fd y) (h:(r,y')=doRename y c) (he:r.e=0) (hl:(lead y'.S c.b true).2=0):(lead y'.S c.b true).1.2.2=(I:Int):=by
 have hw:∀ {e:Int} {z:Sy},e≠0→(r,y')=(wrong e,z)→False:=fun hne h2=>by
  injection h2 with h2 _
  rw [h2] at he
  exact hne he
 have hG:=hd.good
 have hheld:=hF.held hd
 obtain ⟨_,i1,i2,hk,_,_⟩:=hF
 obtain ⟨D,D1,D2,Dk,hp,hD,hg⟩:=hN
 unfold doRename at h
 dsimp only at h
 by_cases p1:placeE y.S c.a 16=0
 case neg=>rw [if_pos p1] at h;exact (hw p1 h).elim
 rw [if_neg (wk.nn p1)] at h
 by_cases p2:placeE y.S c.b 16=0
 case neg=>rw [if_pos p2] at h;exact (hw p2 h).elim
 rw [if_neg (wk.nn p2)] at h
 by_cases p3:(y.S.get (placeD y.S c.a) (placeN c.a)).2=0
 case neg=>rw [if_pos p3] at h;exact (hw p3 h).elim
 rw [if_neg (wk.nn p3)] at h
 by_cases p4:(pd c.a=true∨pd c.b=true)∧y.S.kindOf (y.S.get (placeD y.S c.a) (placeN c.a)).1≠2
 ·rw [if_pos p4] at h;exact (hw (by decide) h).elim
 rw [if_neg p4] at h
 injection h with h1 h2
 rw [h1] at he
 have hm:(y.S.rename (placeD y.S c.a) (placeN c.a) (placeD y.S c.b) (placeN c.b)).1=0:=he
 have hS:y'.S=(y.S.rename (placeD y.S c.a) (placeN c.a) (placeD y.S c.b) (placeN c.b)).2:=by rw [h2]
 obtain ⟨_,_,_,_,ua,da⟩:=place_ok (by decide) p1
 obtain ⟨c1,c2,_,_,ub,db⟩:=place_ok (by decide) p2
 have hDa:placeD y.S c.a=(D:Int):=by
  have:=up_ext hG hr ua
  rw [← hD];unfold placeD;rw [this]
 rw [hDa] at p3 hm hS
 obtain ⟨D',hD',_,_,Dk4,hg4⟩:=br.get_ok p3
 have hDD:D'=D:=by omega
 subst hDD
 have hgI:(y.S.get (D':Int) (placeN c.a)).1=(I:Int):=by
  rcases (hr D' (by rw [Dk4];decide)).2.2.2 _ _ hg4 with e|e
  ·rw [hg] at e;exact (Option.some.inj e).symm
  ·exact e.elim
 have hsrt:Srt y.S:=fun k=>hG.1.sorted k
 have hI1:(y.S.at (y.S.get (D':Int) (placeN c.a)).1).kind≠2:=by rw [hgI,br.at_nat,hk];decide
 have hI2:(y.S.at (y.S.get (D':Int) (placeN c.a)).1).holds≠0:=by rw [hgI,br.at_nat];exact hheld
 obtain ⟨hrel,hgot⟩:=rel_rename hsrt hm hI1 hI2
 rw [← hS] at hrel hgot
 rw [hgI] at hgot
 have hb:HB I y.S y'.S:=by rw [hS];exact hb_rename _ _ _ _ _
 have hk':(y'.S.ino I).kind=1:=(hb hheld).2.1.trans hk
 have hkI:y'.S.kindOf (I:Int)=1:=by rw [cb.kind_of i1 i2,hk']
 obtain ⟨U,hU,U1,U2,Uk⟩:=dir_of db
 rw [hU] at hgot hrel
 rw [br.at_nat] at hgot
 rw [Int.toNat_natCast] at hrel
 have hpart:=rel_part hG' hrel (fun k n v e hv=>by
  rw [e.1,e.2,hgot] at hv
  have hv2:=Option.some.inj hv
  rw [← hv2,hkI]
  exact ⟨by decide,by decide⟩)
 have hl2:=hl
 unfold lead at hl2
 rw [if_neg (wk.nn c1),c2] at hl2
 have hup:(upR y'.S c.b).2=0:=wk.walk_pre (trS y'.S) true 40 1 (pn c.b).dropLast (placeN c.b) (pd c.b) hl2
 rcases wk.walk_part2 hpart true 40 1 (pn c.b).dropLast true rfl hpart.root hup with e|⟨e,_,hlv⟩
 ·exact absurd ub e
 have eu:upR y'.S c.b=upR y.S c.b:=e.symm
 have hk2:y'.S.kindOf (placeD y.S c.b)=2:=by
  have h3:=hpart.kind _ hlv
  have h4:(walkT (trS y'.S) true 40 1 (pn c.b).dropLast true).1.2.2=placeD y.S c.b:=by unfold placeD;rw [← eu];rfl
  rw [h4] at h3
  exact h3.symm.trans db
 have hps:=place_same (S:=y.S) (S':=y'.S) (by decide) p2 eu hk2
 rw [hU,cb.kind_of U1 U2] at hk2
 exact lead_at (by decide) hps.1 (hps.2.trans hU) U1 U2 hk2 hgot i1 i2 hk' hl
theorem reopened {c:Cal} (hd:Hd room y) (h:(r,y')=doOpen y c) (he:r.e=0) (hf:c.flag=1) (hl:(lead y.S c.a true).2=0→(lead y.S c.a true).1.2.2=(I:Int)) (hF:Fil 15 o I bs fd y) :
  Fil 1 0 I bs r.n y'∧Fil 15 o I bs fd y'∧r.n≠fd:=by
 have hw:∀ {e:Int} {z:Sy},e≠0→(r,y')=(wrong e,z)→False:=fun hne h2=>by
  injection h2 with h2 _
  rw [h2] at he
  exact hne he
 unfold doOpen at h
 dsimp only at h
 rw [hf] at h
 rw [if_neg (by decide)] at h
 by_cases hfull:full y.T=true
 ·rw [if_pos hfull] at h;exact (hw (by decide) h).elim
 rw [if_neg hfull] at h
 have hft:full y.T=false:=by simpa using hfull
 rw [show (bit 1 2 && bit 1 3)=false by decide,show bit 1 2=false by decide] at h
 simp only [Bool.not_false,Bool.false_eq_true,and_false,if_false] at h
 by_cases hr:(lead y.S c.a true).2=0
 case neg=>rw [if_pos hr] at h;exact (hw hr h).elim
 rw [if_neg (wk.nn hr),hl hr] at h
 obtain ⟨hg,i1,i2,hk,hs,hb⟩:=hF
 have hkI:y.S.kindOf (I:Int)=1:=by rw [cb.kind_of i1 i2,hk]
 unfold openIno at h
 rw [hkI] at h
 rw [if_neg (by decide),if_neg (by decide)] at h
 rw [show bit 1 4=false by decide] at h
 simp only [Bool.false_eq_true,if_false] at h
 unfold opened at h
 injection h with h1 h2
 dsimp only at h1 h2
 have hS2:(y.S.hold (I:Int)).2=y.S.put (I:Int) { y.S.at (I:Int) with holds:=(y.S.at (I:Int)).holds+1 }:=by
  unfold BS.hold
  rw [if_neg (by rw [cb.isI_of i1 i2 (by rw [hk];decide)];decide)]
 have yI:y'.S.ino I={ y.S.ino I with holds:=(y.S.ino I).holds+1 }:=by
  rw [h2];show (y.S.hold (I:Int)).2.ino I=_
  rw [hS2,br.put_nat,if_pos rfl,br.at_nat]
 have hT:y'.T=openT y.T ⟨(I:Int),1,0,false,[],0⟩:=by rw [h2]
 have hn:r.n=(lowV y.T).1:=by rw [h1]
 have g1:getV y'.T r.n=(⟨(I:Int),1,0,false,[],0⟩,0):=by rw [hT,hn];exact fil_new hft
 have g2:getV y'.T fd=(⟨(I:Int),15,o,false,[],0⟩,0):=by rw [hT];exact fil_open hg
 refine ⟨⟨g1,i1,i2,?_,?_,?_⟩,⟨g2,i1,i2,?_,?_,?_⟩,fun e=>?_⟩
 ·rw [yI];exact hk
 ·rw [yI];exact hs
 ·rw [yI];exact hb
 ·rw [yI];exact hk
 ·rw [yI];exact hs
 ·rw [yI];exact hb
 ·rw [e,g2] at g1
  exact absurd (congrArg (fun z:De×Int=>z.1.flag) g1) (show ¬ (15:Int)=1 by decide)
theorem keep_unlink {c:Cal} (h:(r,y')=doUnlink y c):y'.T=y.T∧HB I y.S y'.S∧Rel NoE y.S y'.S:=by
 have hy:y'=(doUnlink y c).2:=congrArg Prod.snd h
 unfold doUnlink at hy
 dsimp only at hy
 split at hy
 ·rw [hy];exact ⟨rfl,HB.refl,Rel.refl⟩
 ·split at hy
  ·rw [hy];exact ⟨rfl,HB.refl,Rel.refl⟩
  ·rw [hy];exact ⟨rfl,hb_unlink _ _ _,rel_unlink _ _ _⟩
theorem keep_rename {c:Cal} (h:(r,y')=doRename y c):y'.T=y.T∧HB I y.S y'.S:=by
 have hy:y'=(doRename y c).2:=congrArg Prod.snd h
 unfold doRename at hy
 dsimp only at hy
 repeat' split at hy
 all_goals first|(rw [hy];exact ⟨rfl,HB.refl⟩)|(rw [hy];exact ⟨rfl,hb_rename _ _ _ _ _⟩)
theorem Fil.step (h:Fil f o I bs fd y) (hd:Hd room y) (k1:y'.T=y.T) (k2:HB I y.S y'.S):Fil f o I bs fd y':=h.keep hd k2 (T':=y'.T) (by rw [k1])
theorem fil_data (x:ByteArray):(⟨x.data.toList.toArray⟩:ByteArray)=x:=by cases x;simp
theorem fil_len (x:ByteArray):x.data.toList.length=x.size:=by rw [Array.length_toList];rfl
end
end Go.Proofs.YtpmpbmjjlccbbaaGreat.tr