/- Part 34 of what is known of the program's functions and of the document's words: contracts, and the mathematics beneath them. -/
import Derived.Test.YtpmpbmjjlccbbaaGreatProg
import Derived.Test.YtpmpbmjjlccbbaaGreatZ25
set_option linter.unusedVariables false
set_option linter.unusedSimpArgs false
set_option maxRecDepth 100000
set_option maxHeartbeats 8000000
namespace Go.Proofs.YtpmpbmjjlccbbaaGreat.wk
structure Ext (X X' : Tr) (Lv : Int → Prop) : Prop where
 kind : ∀ a, Lv a → X'.kind a = X.kind a
 get : ∀ a n, Lv a → X.kind a = 2 → (X.get a n).2 = 0 → X'.get a n = X.get a n
 up : ∀ a, Lv a → X.kind a = 2 → X'.parent a = X.parent a
 target : ∀ a, Lv a → X'.target a = X.target a
theorem walk_ext {X X' : Tr} {Lv : Int → Prop} (hL : Live X Lv) (hE : Ext X X' Lv) (fol : Bool) (m : Nat) (a : Int) (ns : List ByteArray) (d : Bool) (ha : Lv a) (h : (walkT X fol m a ns d).2 = 0) : walkT X' fol m a ns d = walkT X fol m a ns d := by
 match ns with
 | [] => rw [w_nil, w_nil]
 | n :: r =>
  by_cases hk : X.kind a = 2
  case neg => rw [w_kind hk] at h; exact absurd h (by decide)
  have hk' : X'.kind a = 2 := (hE.kind a ha).trans hk
  by_cases h1 : n = dot2
  ·subst h1
   rw [w_dots hk] at h
   rw [w_dots hk, w_dots hk', hE.up a ha hk]
   exact walk_ext hL hE fol m _ r d (hL.up a ha hk).1 h
  by_cases h2 : n = dot1
  ·subst h2
   rw [w_dot hk] at h
   rw [w_dot hk, w_dot hk']
   exact walk_ext hL hE fol m _ r d ha h
  by_cases h3 : (X.get a n).2 = 0
  case neg =>
   rw [w_err hk h1 h2 h3] at h
   split at h
   ·exact absurd h (show ¬ (2 : Int) = 0 by decide)
   ·exact absurd h h3
  have hg := hE.get a n ha hk h3
  have hl := hL.get a n ha hk h3
  have hki := hE.kind _ hl
  have h3' : (X'.get a n).2 = 0 := by rw [hg]; exact h3
  have hlk : Lnk X' fol a n r d ↔ Lnk X fol a n r d := by unfold Lnk; rw [hg, hki]
  by_cases h4 : Lnk X fol a n r d
  ·match m with
   | 0 => rw [w_loop hk h1 h2 h3 h4] at h; exact absurd h (by decide)
   | k + 1 =>
    rw [w_link hk h1 h2 h3 h4] at h
    rw [w_link hk h1 h2 h3 h4, w_link hk' h1 h2 h3' (hlk.2 h4), hg, hE.target _ hl]
    by_cases g1 : (X.target (X.get a n).1).2 = 0
    case neg => rw [if_pos g1] at h; exact absurd h g1
    by_cases g2 : pe (X.target (X.get a n).1).1 = 0
    case neg => rw [if_neg (nn g1), if_pos g2] at h; exact absurd h g2
    by_cases g3 : 400 < (pn (X.target (X.get a n).1).1).length + r.length
    ·rw [if_neg (nn g1), if_neg (nn g2), if_pos g3] at h; exact absurd h (by decide)
    rw [if_neg (nn g1), if_neg (nn g2), if_neg g3] at h
    rw [if_neg (nn g1), if_neg (nn g1), if_neg (nn g2), if_neg (nn g2), if_neg g3, if_neg g3]
    refine walk_ext hL hE fol k _ _ _ ?_ h
    split
    ·exact hL.root.1
    ·exact ha
  have h4' : ¬ Lnk X' fol a n r d := fun e => h4 (hlk.1 e)
  by_cases h5 : r = []
  ·subst h5; rw [w_last hk h1 h2 h3 h4, w_last hk' h1 h2 h3' h4', hg, hki]
  rw [w_on hk h1 h2 h3 h4 h5] at h
  rw [w_on hk h1 h2 h3 h4 h5, w_on hk' h1 h2 h3' h4' h5, hg]
  exact walk_ext hL hE fol m _ r d hl h
termination_by (m, ns.length)
end Go.Proofs.YtpmpbmjjlccbbaaGreat.wk
