/- Part 35 of what is known of the program's functions and of the document's words: contracts, and the mathematics beneath them. -/
import Derived.Test.YtpmpbmjjlccbbaaGreatProg
import Derived.Test.YtpmpbmjjlccbbaaGreatZ34
import Derived.Test.YtpmpbmjjlccbbaaGreatZ33
set_option linter.unusedVariables false
set_option linter.unusedSimpArgs false
set_option maxRecDepth 100000
set_option maxHeartbeats 8000000
namespace Go.Proofs.YtpmpbmjjlccbbaaGreat.wk
structure Part (X X' : Tr) (Out : Int → Prop) : Prop where
 root : Out 1
 kind : ∀ a, Out a → X'.kind a = X.kind a
 get : ∀ a n, Out a → X.kind a = 2 → (X.get a n).2 = 0 → (X'.get a n).2 ≠ 0 ∨ (X'.get a n = X.get a n ∧ Out (X.get a n).1)
 up : ∀ a, Out a → X.kind a = 2 → X'.parent a = X.parent a ∧ Out (X.parent a)
 target : ∀ a, Out a → X'.target a = X.target a
theorem walk_part {X X' : Tr} {Out : Int → Prop} (hP : Part X X' Out) (fol : Bool) (m : Nat) (a : Int) (ns : List ByteArray) (d : Bool) (ha : Out a) (h : (walkT X fol m a ns d).2 = 0) :
  ((walkT X' fol m a ns d).2 ≠ 0 ∨ walkT X' fol m a ns d = walkT X fol m a ns d ∧ Out (walkT X fol m a ns d).1.1 ∧ Out (walkT X fol m a ns d).1.2.2) := by
 match ns with
 | [] => rw [w_nil, w_nil]; exact .inr ⟨rfl, ha, ha⟩
 | n :: r =>
  by_cases hk : X.kind a = 2
  case neg => rw [w_kind hk] at h; exact absurd h (by decide)
  have hk' : X'.kind a = 2 := (hP.kind a ha).trans hk
  by_cases h1 : n = dot2
  ·subst h1
   rw [w_dots hk] at h
   rw [w_dots hk, w_dots hk', (hP.up a ha hk).1]
   exact walk_part hP fol m _ r d (hP.up a ha hk).2 h
  by_cases h2 : n = dot1
  ·subst h2
   rw [w_dot hk] at h
   rw [w_dot hk, w_dot hk']
   exact walk_part hP fol m _ r d ha h
  by_cases h3 : (X.get a n).2 = 0
  case neg =>
   rw [w_err hk h1 h2 h3] at h
   split at h
   ·exact absurd h (show ¬ (2 : Int) = 0 by decide)
   ·exact absurd h h3
  rcases hP.get a n ha hk h3 with hb | ⟨hg, hl⟩
  ·refine .inl ?_
   rw [w_err hk' h1 h2 hb]
   split
   ·show ¬ (2 : Int) = 0
    decide
   ·exact hb
  have hki := hP.kind _ hl
  have h3' : (X'.get a n).2 = 0 := by rw [hg]; exact h3
  have hlk : Lnk X' fol a n r d ↔ Lnk X fol a n r d := by unfold Lnk; rw [hg, hki]
  by_cases h4 : Lnk X fol a n r d
  ·match m with
   | 0 => rw [w_loop hk h1 h2 h3 h4] at h; exact absurd h (by decide)
   | k + 1 =>
    rw [w_link hk h1 h2 h3 h4] at h
    rw [w_link hk h1 h2 h3 h4, w_link hk' h1 h2 h3' (hlk.2 h4), hg, hP.target _ hl]
    by_cases g1 : (X.target (X.get a n).1).2 = 0
    case neg => rw [if_pos g1] at h; exact absurd h g1
    by_cases g2 : pe (X.target (X.get a n).1).1 = 0
    case neg => rw [if_neg (nn g1), if_pos g2] at h; exact absurd h g2
    by_cases g3 : 400 < (pn (X.target (X.get a n).1).1).length + r.length
    ·rw [if_neg (nn g1), if_neg (nn g2), if_pos g3] at h; exact absurd h (by decide)
    rw [if_neg (nn g1), if_neg (nn g2), if_neg g3] at h
    rw [if_neg (nn g1), if_neg (nn g1), if_neg (nn g2), if_neg (nn g2), if_neg g3, if_neg g3]
    refine walk_part hP fol k _ _ _ ?_ h
    split
    ·exact hP.root
    ·exact ha
  have h4' : ¬ Lnk X' fol a n r d := fun e => h4 (hlk.1 e)
  by_cases h5 : r = []
  ·subst h5
   rw [w_last hk h1 h2 h3 h4] at h
   rw [w_last hk h1 h2 h3 h4, w_last hk' h1 h2 h3' h4', hg, hki]
   split at h
   ·exact absurd h (by decide)
   ·rename_i h6
    rw [if_neg h6]
    exact .inr ⟨rfl, ha, hl⟩
  rw [w_on hk h1 h2 h3 h4 h5] at h
  rw [w_on hk h1 h2 h3 h4 h5, w_on hk' h1 h2 h3' h4' h5, hg]
  exact walk_part hP fol m _ r d hl h
termination_by (m, ns.length)
end Go.Proofs.YtpmpbmjjlccbbaaGreat.wk
section
namespace Go.Proofs.YtpmpbmjjlccbbaaGreat.wk
theorem walk_fol (X : Tr) (fol : Bool) (m : Nat) (a : Int) (ns rs : List ByteArray) (d : Bool) (hr : rs ≠ []) (h : (walkT X true m a ns true).2 = 0) :
  (∃ k, walkT X fol m a (ns ++ rs) d = walkT X fol k (walkT X true m a ns true).1.2.2 rs d) ∨ (walkT X fol m a (ns ++ rs) d).2 = 36 := by
 match ns with
 | [] => rw [w_nil]; exact .inl ⟨m, rfl⟩
 | n :: r =>
  rw [List.cons_append]
  by_cases hk : X.kind a = 2
  case neg => rw [w_kind hk] at h; cases h
  by_cases h1 : n = dot2
  ·subst h1
   rw [w_dots hk] at h
   rw [w_dots hk, w_dots hk]
   exact walk_fol X fol m _ r rs d hr h
  by_cases h2 : n = dot1
  ·subst h2
   rw [w_dot hk] at h
   rw [w_dot hk, w_dot hk]
   exact walk_fol X fol m _ r rs d hr h
  by_cases h3 : (X.get a n).2 = 0
  case neg =>
   rw [w_err hk h1 h2 h3] at h
   split at h
   ·cases h
   ·exact absurd h h3
  have hne : r ++ rs ≠ [] := fun e => hr (List.append_eq_nil_iff.1 e).2
  by_cases h4 : Lnk X true a n r true
  ·have h4' : Lnk X fol a n (r ++ rs) d := ⟨h4.1, .inl hne⟩
   match m with
   | 0 => rw [w_loop hk h1 h2 h3 h4] at h; cases h
   | k + 1 =>
    rw [w_link hk h1 h2 h3 h4] at h
    rw [w_link hk h1 h2 h3 h4, w_link hk h1 h2 h3 h4']
    by_cases g1 : (X.target (X.get a n).1).2 = 0
    case neg => rw [if_pos g1] at h; exact absurd h g1
    by_cases g2 : pe (X.target (X.get a n).1).1 = 0
    case neg => rw [if_neg (nn g1), if_pos g2] at h; exact absurd h g2
    by_cases g3 : 400 < (pn (X.target (X.get a n).1).1).length + r.length
    ·rw [if_neg (nn g1), if_neg (nn g2), if_pos g3] at h; cases h
    rw [if_neg (nn g1), if_neg (nn g2), if_neg g3] at h ⊢
    rw [if_neg (nn g1), if_neg (nn g2)]
    by_cases g4 : 400 < (pn (X.target (X.get a n).1).1).length + (r ++ rs).length
    ·rw [if_pos g4]; exact .inr rfl
    rw [if_neg g4, if_neg hne, ← List.append_assoc]
    have e : (if r = [] then true || pd (X.target (X.get a n).1).1 else true) = true := by split <;> simp
    rw [e] at h ⊢
    exact walk_fol X fol k _ _ rs d hr h
  have hk3 : X.kind (X.get a n).1 ≠ 3 := fun e => h4 ⟨e, .inr (.inl rfl)⟩
  rw [w_on hk h1 h2 h3 (fun e => hk3 e.1) hne]
  by_cases h5 : r = []
  ·subst h5
   rw [w_last hk h1 h2 h3 h4] at h ⊢
   split at h
   ·cases h
   ·rename_i g
    rw [if_neg g]
    exact .inl ⟨m, rfl⟩
  ·rw [w_on hk h1 h2 h3 h4 h5] at h ⊢
   exact walk_fol X fol m _ r rs d hr h
termination_by (m, ns.length)
end Go.Proofs.YtpmpbmjjlccbbaaGreat.wk
namespace Go.Proofs.YtpmpbmjjlccbbaaGreat.tr
open Go.Proofs.YtpmpbmjjlccbbaaGreat.br (BS Inv Ino Moved halfD)
open Go.Proofs.YtpmpbmjjlccbbaaGreat.wk (walkT pe pn pd e0 r0 dot1 dot2 Part)
open Go.Proofs.YtpmpbmjjlccbbaaGreat.cb (trS LvS)
open Go.Proofs.YtpmpbmjjlccbbaaGreat.dn (lget lset ldel)
def OutI (S : BS) (I : Nat) (a : Int) : Prop := LvS S a ∧ (S.kindOf a = 2 → (S.ino I).kind = 2 → ∀ n, S.below a I n = false)
theorem get_at {S : BS} {k : Nat} {n : ByteArray} (h1 : 1 ≤ k) (h2 : k ≤ 200) (hk : (S.ino k).kind = 2) : S.get (k : Int) n = (match lget n (S.ino k).dir with | some v => (v, 0) | none => (0, 2)) := by
 unfold BS.get BS.dirE
 have hI : S.isI (k : Int) = true := by unfold BS.isI; rw [br.at_nat]; exact decide_eq_true ⟨by omega, by omega, by rw [hk]; decide⟩
 rw [hI, br.at_nat, hk]
 simp
 rfl
theorem one_name {S : BS} {room k c : Nat} {n s : ByteArray} (h : Inv S room) (hl : (S.ino c).links ≤ 1) (c1 : 1 ≤ c) (c2 : c ≤ 200) (h1 : lget n (S.ino k).dir = some (c : Int)) (h2 : lget s (S.ino k).dir = some (c : Int)) : n = s := by
 refine Classical.byContradiction fun hne => ?_
 have e1 := br.names_ldel (i := (c : Int)) (h.sorted k) h2
 rw [if_pos rfl] at e1
 have h3 : lget n (ldel s (S.ino k).dir) = some (c : Int) := by rw [br.lget_ldel hne]; exact h1
 have h4 : 0 < br.names (c : Int) (ldel s (S.ino k).dir) := br.names_mem.2 ⟨(n, (c : Int)), ((dn.lget_some (dn.ldel_sorted (h.sorted k))).1 h3), rfl⟩
 have hk : 1 ≤ k ∧ k ≤ 200 := (h.lead h1).2.1
 have h5 : br.names (c : Int) (S.ino k).dir ≤ S.names c 200 := br.sumF_le (f := fun j => br.names (c : Int) (S.ino j).dir) hk.1 hk.2
 have h6 := h.links c c1 c2
 split at h6 <;> omega
theorem part_moved {S S' : BS} {room D T I : Nat} {s u : ByteArray} (hG : br.Good S room) (hG' : br.Good S' room) (hI1 : I ≠ 1) (hg : lget s (S.ino D).dir = some (I : Int)) (hu : lget u (S.ino T).dir = none) (d : Moved S S' D T I s u) :
  Part (trS S) (trS S') (OutI S I) := by
 have hL := cb.live_of hG
 have hkof : ∀ a, LvS S a → S'.kindOf a = S.kindOf a := fun a ⟨k, e, k1, k2, _⟩ => by subst e; rw [cb.kind_of k1 k2, cb.kind_of k1 k2, d.kind]
 refine ⟨⟨hL.root.1, fun _ _ n => br.below_root hG.1 hI1 n⟩, fun a ha => hkof a ha.1, fun a n ha hk h => ?_, fun a ha hk => ?_, fun a ha => ?_⟩
 ·obtain ⟨⟨k, rfl, k1, k2, kl⟩, hb⟩ := ha
  have hk2 : (S.ino k).kind = 2 := by have : S.kindOf (k : Int) = 2 := hk; rwa [cb.kind_of k1 k2] at this
  have hk2' : (S'.ino k).kind = 2 := by rw [d.kind]; exact hk2
  have hlv := hL.get (k : Int) n ⟨k, rfl, k1, k2, kl⟩ hk h
  have hgy := cb.get_yes (S := S) (k := k) (n := n) h
  have e1 : (trS S).get (k : Int) n = S.get (k : Int) n := rfl
  have e2 : (trS S').get (k : Int) n = S'.get (k : Int) n := rfl
  rw [e1, e2]
  rw [e1] at h hlv
  by_cases hDs : k = D ∧ n = s
  ·obtain ⟨rfl, rfl⟩ := hDs
   refine .inl ?_
   rw [get_at k1 k2 hk2', d.dir]
   have hz : lget n (if k = T then lset u (I : Int) (halfD S k n T) else halfD S k n k) = none := by
    have hh : halfD S k n k = ldel n (S.ino k).dir := by unfold halfD; rw [if_pos rfl]
    by_cases hT : k = T
    ·subst hT
     rw [if_pos rfl, hh]
     have hnu : n ≠ u := fun e => by rw [e, hu] at hg; cases hg
     rw [br.lget_lset_other (by rw [← hh]; exact br.half_sorted hG.1 k) hnu]
     exact br.lget_gone n _
    ·rw [if_neg hT, hh]; exact br.lget_gone n _
   rw [hz]
   show ¬ (2 : Int) = 0
   decide
  ·refine .inr ⟨?_, hlv, fun hck hIk m => ?_⟩
   ·rw [get_at k1 k2 hk2', get_at k1 k2 hk2, d.dir]
    have hh : lget n (halfD S D s k) = lget n (S.ino k).dir := by
     unfold halfD
     by_cases e : k = D
     ·subst e
      rw [if_pos rfl]
      exact br.lget_ldel (fun e => hDs ⟨rfl, e⟩) _
     ·rw [if_neg e]
    have hz : lget n (if k = T then lset u (I : Int) (halfD S D s T) else halfD S D s k) = lget n (S.ino k).dir := by
     by_cases hT : k = T
     ·subst hT
      rw [if_pos rfl]
      have hnu : n ≠ u := fun e => by rw [e, hu] at hgy; cases hgy
      rw [br.lget_lset_other (br.half_sorted hG.1 k) hnu]
      exact hh
     ·rw [if_neg hT]; exact hh
    rw [hz]
   ·obtain ⟨c, hc, c1, c2, cl⟩ := hlv
    rw [hc] at hck ⊢
    have hck2 : (S.ino c).kind = 2 := by rwa [cb.kind_of c1 c2] at hck
    have hpar : (S.ino c).parent = (k : Int) := by
     rw [hc] at hgy
     have := hG.1.up k (n, (c : Int)) ((dn.lget_some (hG.1.sorted k)).1 hgy) (by rw [br.at_nat]; exact hck2)
     rwa [br.at_nat] at this
    have hcI : c ≠ I := fun e => by
     subst e
     have hl1 : (S.ino c).links ≤ 1 := hG.1.single c hck2
     have hpD : (S.ino c).parent = (D : Int) := by
      have := hG.1.up D (s, (c : Int)) ((dn.lget_some (hG.1.sorted D)).1 hg) (by rw [br.at_nat]; exact hck2)
      rwa [br.at_nat] at this
     have hkD : k = D := by rw [hpar] at hpD; omega
     subst hkD
     exact hDs ⟨rfl, by rw [hc] at hgy; exact one_name hG.1 hl1 c1 c2 hgy hg⟩
    match m with
    | 0 => rfl
    | m + 1 =>
     rw [br.below_up, hpar, hb (by rw [cb.kind_of k1 k2]; exact hk2) hIk m]
     simp; omega
 ·obtain ⟨⟨k, rfl, k1, k2, kl⟩, hb⟩ := ha
  have hk2 : (S.ino k).kind = 2 := by have : S.kindOf (k : Int) = 2 := hk; rwa [cb.kind_of k1 k2] at this
  have hk2' : (S'.ino k).kind = 2 := by rw [d.kind]; exact hk2
  have hup := hL.up (k : Int) ⟨k, rfl, k1, k2, kl⟩ hk
  have hp : S.parentOf (k : Int) = (S.ino k).parent := cb.parent_of k1 k2 (by rw [hk2]; decide)
  have hp' : S'.parentOf (k : Int) = (S'.ino k).parent := cb.parent_of k1 k2 (by rw [hk2']; decide)
  have hkI : (S.ino I).kind = 2 → k ≠ I := fun hIk e => by
   have := hb hk hIk 1
   rw [e, show (1 : Nat) = 0 + 1 from rfl, br.below_self] at this
   cases this
  refine ⟨?_, hup.1, fun hpk hIk n => ?_⟩
  ·show S'.parentOf (k : Int) = S.parentOf (k : Int)
   rw [hp, hp', d.parent, if_neg (fun e => hkI e.2 e.1)]
  ·have := hb hk hIk (n + 1)
   rw [br.below_up] at this
   show S.below (S.parentOf (k : Int)) I n = false
   rw [hp]
   simp at this
   exact this.2
 ·obtain ⟨⟨k, rfl, k1, k2, kl⟩, _⟩ := ha
  show S'.targetOf (k : Int) = S.targetOf (k : Int)
  unfold BS.targetOf BS.isI
  rw [br.at_nat, br.at_nat, d.kind, d.target]
end Go.Proofs.YtpmpbmjjlccbbaaGreat.tr
end
namespace Go.Proofs.YtpmpbmjjlccbbaaGreat.tr
open br (BS Inv Ino Moved halfD)
open wk (walkT pe pn pd e0 r0 dot1 dot2 Part)
open cb (trS LvS)
open dn (lget lset ldel)
theorem ren_ok {S : BS} {d t : Int} {s u : ByteArray} (h : (S.rename d s t u).1 = 0) (hu : lget u (S.at t).dir = none) :
  (S.get d s).2 = 0 ∧ S.dirE d true = 0 ∧ S.dirE t true = 0 ∧ ((S.at (S.get d s).1).kind = 2 → S.below t (S.get d s).1 300 = false) ∧ (S.rename d s t u).2 = S.move d s t u (S.get d s).1 := by
 unfold BS.rename at h ⊢
 by_cases h1 : S.dirE d true = 0
 case neg => rw [if_pos h1] at h; exact absurd h h1
 rw [if_neg (wk.nn h1)] at h ⊢
 by_cases h2 : (S.get d s).2 = 0
 case neg => rw [if_pos h2] at h; exact absurd h h2
 rw [if_neg (wk.nn h2)] at h ⊢
 by_cases h3 : S.dirE t true = 0
 case neg => rw [if_pos h3] at h; exact absurd h h3
 rw [if_neg (wk.nn h3)] at h ⊢
 by_cases h4 : br.nameE u = 0
 case neg => rw [if_pos h4] at h; exact absurd h h4
 rw [if_neg (wk.nn h4)] at h ⊢
 dsimp only at h ⊢
 by_cases h5 : (S.at (S.get d s).1).kind = 2 ∧ S.below t (S.get d s).1 300 = true
 ·rw [if_pos h5] at h; exact absurd h (show ¬ (22 : Int) = 0 by decide)
 rw [if_neg h5] at h ⊢
 rw [hu]
 exact ⟨h2, h1, h3, fun k => by
  cases hb : S.below t (S.get d s).1 300
  ·rfl
  ·exact absurd ⟨k, hb⟩ h5, rfl⟩
theorem ren_over {S : BS} {d t : Int} {s u : ByteArray} {old : Int} (h : (S.rename d s t u).1 = 0) (hu : lget u (S.at t).dir = some old) (hk : (S.at (S.get d s).1).kind = 2) (ho : (S.at old).kind ≠ 2) : False := by
 unfold BS.rename at h
 by_cases h1 : S.dirE d true = 0
 case neg => rw [if_pos h1] at h; exact h1 h
 rw [if_neg (wk.nn h1)] at h
 by_cases h2 : (S.get d s).2 = 0
 case neg => rw [if_pos h2] at h; exact h2 h
 rw [if_neg (wk.nn h2)] at h
 by_cases h3 : S.dirE t true = 0
 case neg => rw [if_pos h3] at h; exact h3 h
 rw [if_neg (wk.nn h3)] at h
 by_cases h4 : br.nameE u = 0
 case neg => rw [if_pos h4] at h; exact h4 h
 rw [if_neg (wk.nn h4)] at h
 dsimp only at h
 by_cases h5 : (S.at (S.get d s).1).kind = 2 ∧ S.below t (S.get d s).1 300 = true
 ·rw [if_pos h5] at h; exact absurd h (show ¬ (22 : Int) = 0 by decide)
 rw [if_neg h5, hu] at h
 dsimp only at h
 rw [if_neg (fun e => ho (by rw [e]; exact hk)), if_neg (fun e => e.2 hk), if_pos ⟨ho, hk⟩] at h
 exact absurd h (show ¬ (20 : Int) = 0 by decide)
theorem place_ok {S : BS} {t : ByteArray} {b : Int} (hb : b ≠ 0) (h : placeE S t b = 0) : pe t = 0 ∧ pn t = (pn t).dropLast ++ [placeN t] ∧ placeN t ≠ dot1 ∧ placeN t ≠ dot2 ∧ (upR S t).2 = 0 ∧ S.kindOf (placeD S t) = 2 := by
 unfold placeE at h
 by_cases h1 : pe t = 0
 case neg => rw [if_pos h1] at h; exact absurd h h1
 rw [if_neg (wk.nn h1)] at h
 by_cases h2 : pn t = [] ∨ placeN t = dot1 ∨ placeN t = dot2
 ·rw [if_pos h2] at h; exact absurd h hb
 rw [if_neg h2] at h
 by_cases h3 : (upR S t).2 = 0
 case neg => rw [if_pos h3] at h; exact absurd h h3
 rw [if_neg (wk.nn h3)] at h
 by_cases h4 : S.kindOf (upR S t).1.2.2 = 2
 case neg => rw [if_pos h4] at h; exact absurd h (show ¬ (20 : Int) = 0 by decide)
 have hne : pn t ≠ [] := fun e => h2 (.inl e)
 refine ⟨h1, ?_, fun e => h2 (.inr (.inl e)), fun e => h2 (.inr (.inr e)), h3, h4⟩
 unfold placeN
 rw [List.getLast?_eq_some_getLast hne]
 exact (List.dropLast_concat_getLast hne).symm
theorem lead_place {S : BS} {t : ByteArray} {b : Int} (hb : b ≠ 0) (h : placeE S t b = 0) (fol : Bool) : (∃ k, lead S t fol = walkT (trS S) fol k (placeD S t) [placeN t] (pd t)) ∨ (lead S t fol).2 = 36 := by
 obtain ⟨h1, h2, _, _, h3, _⟩ := place_ok hb h
 unfold lead
 rw [if_neg (wk.nn h1)]
 have := wk.walk_fol (trS S) fol 40 1 (pn t).dropLast [placeN t] (pd t) (by simp) h3
 rw [← h2] at this
 exact this
theorem get_two {S : BS} {k : Nat} {n : ByteArray} (h1 : 1 ≤ k) (h2 : k ≤ 200) (hk : (S.ino k).kind = 2) (h : (S.get (k : Int) n).2 ≠ 0) : lget n (S.ino k).dir = none := by
 rw [get_at h1 h2 hk] at h
 cases hl : lget n (S.ino k).dir with
 | none => rfl
 | some v => rw [hl] at h; exact absurd rfl h
theorem dir_of {S : BS} {a : Int} (h : S.kindOf a = 2) : ∃ k : Nat, a = (k : Int) ∧ 1 ≤ k ∧ k ≤ 200 ∧ (S.ino k).kind = 2 := by
 obtain ⟨k, rfl, k1, k2, k3, _⟩ := (there_of (S := S) (i := a) (by rw [h]; decide)).kind
 exact ⟨k, rfl, k1, k2, by rw [← k3]; exact h⟩
theorem vacant_of {S : BS} {d : Int} {s b : ByteArray} (hb : placeE S b 16 = 0) (hl : (lead S b false).2 = 2) (hr : (S.rename d s (placeD S b) (placeN b)).1 = 0) (hd : pd b = true → S.kindOf (S.get d s).1 = 2) : lget (placeN b) (S.at (placeD S b)).dir = none := by
 obtain ⟨h1, h2, h3, h4, h5, h6⟩ := place_ok (by decide) hb
 obtain ⟨k, hk, k1, k2, k3⟩ := dir_of h6
 rcases lead_place (by decide) hb false with ⟨m, hm⟩ | hm
 case inr => rw [hm] at hl; exact absurd hl (by decide)
 rw [hm] at hl
 rw [hk, br.at_nat]
 rw [hk] at hl h6
 by_cases hg : (S.get (k : Int) (placeN b)).2 = 0
 case neg => exact get_two k1 k2 k3 hg
 exfalso
 by_cases hL : wk.Lnk (trS S) false (k : Int) (placeN b) [] (pd b)
 ·have hpd : pd b = true := by
   rcases hL.2 with e | e | e
   ·exact absurd rfl e
   ·cases e
   ·exact e
  have hold := cb.get_yes hg
  have hkl : S.kindOf (S.get (k : Int) (placeN b)).1 = 3 := hL.1
  have hat : ∀ x, S.kindOf x ≠ 0 → (S.at x).kind = S.kindOf x := fun x hx => by
   obtain ⟨j, rfl, j1, j2, j3, _⟩ := (there_of hx).kind
   rw [br.at_nat, j3]
  refine ren_over (old := (S.get (k : Int) (placeN b)).1) hr (by rw [hk, br.at_nat]; exact hold) (by rw [hat _ (by rw [hd hpd]; decide)]; exact hd hpd) (by rw [hat _ (by rw [hkl]; decide), hkl]; decide)
 ·have := wk.w_last (X := trS S) (fol := false) (m := m) (show (trS S).kind (k : Int) = 2 from h6) h4 h3 hg hL
  rw [this] at hl
  split at hl
  ·exact absurd hl (by decide)
  ·exact absurd hl (show ¬ (0 : Int) = 2 by decide)
theorem moves_back {room : Nat} {y y1 y2 : Sy} {c1 c2 : Cal} {r1 r2 : Res} (h : Hd room y) (e1 : (r1, y1) = doRename y c1) (k1 : r1.e = 0) (e2 : (r2, y2) = doRename y1 c2) (k2 : r2.e = 0) (ha : c2.b = c1.a) (hb : c2.a = c1.b)
  (hl : (lead y.S c1.b false).2 = 2) : y2 = y := by
 obtain ⟨S, T⟩ := y
 dsimp only at h hl
 have hG := h.good
 dsimp only at hG
 unfold doRename at e1
 dsimp only at e1
 by_cases p1 : placeE S c1.a 16 = 0
 case neg => rw [if_pos p1] at e1; injection e1 with e _; rw [e] at k1; exact absurd k1 p1
 rw [if_neg (wk.nn p1)] at e1
 by_cases p2 : placeE S c1.b 16 = 0
 case neg => rw [if_pos p2] at e1; injection e1 with e _; rw [e] at k1; exact absurd k1 p2
 rw [if_neg (wk.nn p2)] at e1
 by_cases p3 : (S.get (placeD S c1.a) (placeN c1.a)).2 = 0
 case neg => rw [if_pos p3] at e1; injection e1 with e _; rw [e] at k1; exact absurd k1 p3
 rw [if_neg (wk.nn p3)] at e1
 by_cases p4 : (pd c1.a = true ∨ pd c1.b = true) ∧ S.kindOf (S.get (placeD S c1.a) (placeN c1.a)).1 ≠ 2
 ·rw [if_pos p4] at e1; injection e1 with e _; rw [e] at k1; exact absurd k1 (show ¬ (20 : Int) = 0 by decide)
 rw [if_neg p4] at e1
 injection e1 with er ey
 rw [er] at k1
 have k1' : (S.rename (placeD S c1.a) (placeN c1.a) (placeD S c1.b) (placeN c1.b)).1 = 0 := k1
 have hu := vacant_of p2 hl k1' (fun e => Classical.byContradiction fun k => p4 ⟨.inr e, k⟩)
 obtain ⟨_, hdD, hdT, hbel, hS1⟩ := ren_ok k1' hu
 obtain ⟨_, _, _, _, ua, da⟩ := place_ok (by decide) p1
 obtain ⟨_, _, _, _, ub, db⟩ := place_ok (by decide) p2
 obtain ⟨D, hD, D1, D2, Dk⟩ := dir_of da
 obtain ⟨U, hU, U1, U2, Uk⟩ := dir_of db
 rw [hD, hU] at hS1
 rw [hD] at p3 hbel
 rw [hU] at hu hbel
 rw [br.at_nat] at hu
 have hg := cb.get_yes p3
 obtain ⟨_, _, I, hI, i1, i2, iR, il, _⟩ := hG.1.lead hg
 rw [hI] at hg hbel hS1
 have hID : I ≠ D := fun e => by subst e; exact hG.1.own hG.2 hg
 have hIU : I ≠ U := fun e => by
  subst e
  have := hbel (by rw [br.at_nat]; exact Uk)
  rw [show (300 : Nat) = 299 + 1 from rfl, br.below_self] at this
  cases this
 have dM := br.move_moved (S := S) (placeN c1.a) (placeN c1.b) hID hIU
 have eS1 : y1.S = S.move (D : Int) (placeN c1.a) (U : Int) (placeN c1.b) (I : Int) := by rw [ey, hD, hU]; exact hS1
 have eT1 : y1.T = T := by rw [ey]
 have hG1 : br.Good y1.S room := by rw [ey]; exact br.Good.rename hG _ _ _ _
 clear er ey k1' hS1
 obtain ⟨S1, T1⟩ := y1
 dsimp only at eS1 eT1 hG1 e2
 subst eT1
 rw [← eS1] at dM
 have hPart := part_moved hG hG1 iR hg hu dM
 have same : ∀ t, (upR S t).2 = 0 → (upR S1 t).2 = 0 → upR S1 t = upR S t := fun t t1 t2 => by
  rcases wk.walk_part hPart true 40 1 (pn t).dropLast true hPart.root t1 with e | ⟨e, _⟩
  ·exact absurd t2 e
  ·exact e
 unfold doRename at e2
 rw [ha, hb] at e2
 dsimp only at e2
 by_cases q1 : placeE S1 c1.b 16 = 0
 case neg => rw [if_pos q1] at e2; injection e2 with e _; rw [e] at k2; exact absurd k2 q1
 rw [if_neg (wk.nn q1)] at e2
 by_cases q2 : placeE S1 c1.a 16 = 0
 case neg => rw [if_pos q2] at e2; injection e2 with e _; rw [e] at k2; exact absurd k2 q2
 rw [if_neg (wk.nn q2)] at e2
 have hU1 : placeD S1 c1.b = (U : Int) := by
  rw [← hU]; unfold placeD; rw [same _ ub (place_ok (by decide) q1).2.2.2.2.1]
 have hD1 : placeD S1 c1.a = (D : Int) := by
  rw [← hD]; unfold placeD; rw [same _ ua (place_ok (by decide) q2).2.2.2.2.1]
 rw [hU1, hD1] at e2
 by_cases q3 : (S1.get (U : Int) (placeN c1.b)).2 = 0
 case neg => rw [if_pos q3] at e2; injection e2 with e _; rw [e] at k2; exact absurd k2 q3
 rw [if_neg (wk.nn q3)] at e2
 by_cases q4 : (pd c1.b = true ∨ pd c1.a = true) ∧ S1.kindOf (S1.get (U : Int) (placeN c1.b)).1 ≠ 2
 ·rw [if_pos q4] at e2; injection e2 with e _; rw [e] at k2; exact absurd k2 (show ¬ (20 : Int) = 0 by decide)
 rw [if_neg q4] at e2
 injection e2 with er ey
 rw [er] at k2
 have k2' : (S1.rename (U : Int) (placeN c1.b) (D : Int) (placeN c1.a)).1 = 0 := k2
 have hhu : lget (placeN c1.b) (halfD S D (placeN c1.a) U) = none := br.half_none hu
 have hgone : lget (placeN c1.a) (S1.at (D : Int)).dir = none := by
  rw [br.at_nat, dM.dir]
  have hh : halfD S D (placeN c1.a) D = ldel (placeN c1.a) (S.ino D).dir := by unfold halfD; rw [if_pos rfl]
  by_cases e : D = U
  ·subst e
   rw [if_pos rfl, hh]
   have hnu : placeN c1.a ≠ placeN c1.b := fun e => by rw [e, hu] at hg; cases hg
   rw [br.lget_lset_other (by rw [← hh]; exact br.half_sorted hG.1 D) hnu]
   exact br.lget_gone _ _
  ·rw [if_neg e, hh]; exact br.lget_gone _ _
 have hgot : (S1.get (U : Int) (placeN c1.b)).1 = (I : Int) := by
  rw [get_at U1 U2 (by rw [dM.kind]; exact Uk), dM.dir, if_pos rfl, br.lget_lset (br.half_sorted hG.1 U)]
 obtain ⟨_, _, _, _, hS2⟩ := ren_ok k2' hgone
 rw [hgot] at hS2
 have dM2 := br.move_moved (S := S1) (placeN c1.b) (placeN c1.a) hIU hID
 rw [← hS2] at dM2
 have hback := br.moved_back hG.1 hg hu dM dM2 (fun hk => by
  have := hG.1.up D (placeN c1.a, (I : Int)) ((dn.lget_some (hG.1.sorted D)).1 hg) (by rw [br.at_nat]; exact hk)
  rwa [br.at_nat] at this)
 rw [ey, hback]
end Go.Proofs.YtpmpbmjjlccbbaaGreat.tr
