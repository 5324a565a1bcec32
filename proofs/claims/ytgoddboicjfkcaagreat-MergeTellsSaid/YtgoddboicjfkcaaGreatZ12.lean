/- Part 12 of what is known of the program's functions and of the document's words: contracts, and the mathematics beneath them. -/
import Derived.Test.YtgoddboicjfkcaaGreatProg
import Derived.Test.YtgoddboicjfkcaaGreatZ11
set_option linter.unusedVariables false
set_option linter.unusedSimpArgs false
set_option maxRecDepth 100000
set_option maxHeartbeats 8000000
namespace Go.Proofs.YtgoddboicjfkcaaGreat.br
open Go.RowKit
open dn (En lget lset ldel nerr dotB Sorted lget_some lget_none ldel_mem ldel_sorted lset_mem lset_sorted)
open bl (AB cut cutR cutB readR WR wr)
theorem lget_ldel {s u : ByteArray} (h : s ≠ u) (L : List En) : lget s (ldel u L) = lget s L := by
 induction L with
 | nil => rfl
 | cons x l ih =>
  by_cases e : x.1 = u
  ·have h1 : ldel u (x :: l) = ldel u l := by simp [ldel, e]
   have h2 : lget s (x :: l) = lget s l := by
    have : ¬ x.1 = s := fun e1 => h (e1.symm.trans e)
    simp [lget, this]
   rw [h1, h2, ih]
  ·have h1 : ldel u (x :: l) = x :: ldel u l := by simp [ldel, e]
   rw [h1]
   by_cases e2 : x.1 = s
   ·simp [lget, e2]
   ·have a : ∀ m, lget s (x :: m) = lget s m := fun m => by simp [lget, e2]
    rw [a, a, ih]
theorem lget_gone (u : ByteArray) (L : List En) : lget u (ldel u L) = none := lget_none.2 fun e he => ((ldel_mem e).1 he).2
theorem half_none {S : BS} {D T : Nat} {s u : ByteArray} (h : lget u (S.ino T).dir = none) : lget u (halfD S D s T) = none :=
 lget_none.2 fun e he => (lget_none.1 h) e (half_sub T e he)
theorem below_self {S : BS} {I n : Nat} : S.below (I : Int) I (n + 1) = true := by rw [below_up, decide_eq_true rfl]; rfl
theorem Good.move {S : BS} {room D T I : Nat} (h : Good S room) {s u : ByteArray} (hg : lget s (S.ino D).dir = some (I : Int)) (hu : lget u (S.ino T).dir = none ∨ lget u (halfD S D s T) = none) (hTk : (S.ino T).kind = 2) (hTl : (S.ino T).links ≠ 0) (hs : nerr u.data.toList = 0 ∧ dotB u = false)
  (hb : (S.ino I).kind = 2 → S.below (T : Int) I 300 = false) : Good (S.move D s T u I) room := by
 obtain ⟨hDk, hDn, I', hI', i1, i2, i3, i4, i5⟩ := h.1.lead hg
 obtain rfl : I = I' := by omega
 have h1 : I ≠ D := fun e => by subst e; exact h.1.own h.2 hg
 have h2 : I ≠ T := fun e => by
  subst e
  have := hb hTk
  rw [below_self] at this; cases this
 have d := move_moved (S := S) s u h1 h2
 have hu2 : lget u (halfD S D s T) = none := by
  rcases hu with h3 | h3
  ·exact half_none h3
  ·exact h3
 exact ⟨d.inv h.1 h2 hg hu2 hTk hTl hs, d.tree h.1 h.2 i3 hTk hTl hb⟩
theorem below_zero {S : BS} {I : Nat} (h0 : S.ino 0 = Ino.nil) (hI : 1 ≤ I) (n : Nat) : S.below 0 I n = false := by
 induction n with
 | zero => rfl
 | succ n ih =>
  have e1 : (S.at 0).parent = 0 := by show (S.ino 0).parent = 0; rw [h0]; rfl
  unfold BS.below
  rw [e1, ih, decide_eq_false (fun e : (0 : Int) = (I : Int) => by omega)]
  rfl
theorem Drop.below {S S' : BS} {D I J : Nat} {s : ByteArray} (d : Drop S S' D I s) (h0 : S'.ino 0 = Ino.nil) (hJ : 1 ≤ J) (n : Nat) (x : Int) (h : S'.below x J n = true) : S.below x J n = true := by
 induction n generalizing x with
 | zero => cases h
 | succ n ih =>
  unfold BS.below at h ⊢
  by_cases e : x = (J : Int)
  ·rw [decide_eq_true e]; rfl
  ·rw [decide_eq_false e, Bool.false_or] at h ⊢
   have hp : (S'.at x).parent = (S.at x).parent ∨ (S'.at x).parent = 0 := by
    show (S'.ino x.toNat).parent = (S.ino x.toNat).parent ∨ (S'.ino x.toNat).parent = 0
    by_cases e1 : (S'.ino x.toNat).kind = 0
    ·by_cases e2 : x.toNat = I
     ·rcases d.ino with ⟨h1, _⟩ | ⟨h1, _⟩
      ·right; rw [e2, h1]; rfl
      ·left; rw [e2, h1]
     ·by_cases e3 : x.toNat = D
      ·left; rw [e3, d.dir]
      ·left; rw [d.oth _ e3 e2]
    ·exact .inl (d.keep _ e1).2.1
   rcases hp with h1 | h1
   ·rw [h1] at h; exact ih _ h
   ·rw [h1, below_zero h0 hJ] at h; cases h
theorem Good.rename {S : BS} {room : Nat} (h : Good S room) (d : Int) (s : ByteArray) (t : Int) (u : ByteArray) : Good (S.rename d s t u).2 room := by
 unfold BS.rename
 by_cases e1 : S.dirE d true = 0
 ·rw [if_neg (by simpa using e1)]
  by_cases e2 : (S.get d s).2 = 0
  ·rw [if_neg (by simpa using e2)]
   by_cases e3 : S.dirE t true = 0
   ·rw [if_neg (by simpa using e3)]
    by_cases e4 : nameE u = 0
    ·rw [if_neg (by simpa using e4)]
     obtain ⟨D, rfl, h1, h2, hk, hg⟩ := get_ok e2
     obtain ⟨T, rfl, t1, t2, tk, tl⟩ := dirE_ok e3
     have tl := tl rfl
     have hs := nameE_ok e4
     generalize (S.get (D : Int) s).1 = v at *
     obtain ⟨_, _, I, rfl, i1, i2, i3, i4, i5⟩ := h.1.lead hg
     dsimp only
     rw [at_nat S I, at_nat S T]
     by_cases e5 : (S.ino I).kind = 2 ∧ S.below (T : Int) I 300 = true
     ·rw [if_pos e5]; exact h
     ·rw [if_neg e5]
      have hb : (S.ino I).kind = 2 → S.below (T : Int) I 300 = false := fun hk2 => by
       cases hbb : S.below (T : Int) I 300
       ·rfl
       ·exact absurd ⟨hk2, hbb⟩ e5
      cases hT : lget u (S.ino T).dir with
      | none => exact h.move hg (.inl hT) tk tl hs hb
      | some old =>
       dsimp only
       by_cases e6 : old = (I : Int)
       ·rw [if_pos e6]; exact h
       ·rw [if_neg e6]
        by_cases e7 : (S.at old).kind = 2 ∧ (S.ino I).kind ≠ 2
        ·rw [if_pos e7]; exact h
        ·rw [if_neg e7]
         by_cases e8 : (S.at old).kind ≠ 2 ∧ (S.ino I).kind = 2
         ·rw [if_pos e8]; exact h
         ·rw [if_neg e8]
          by_cases e9 : (S.at old).kind = 2 ∧ (S.at old).dir ≠ []
          ·rw [if_pos e9]; exact h
          ·rw [if_neg e9]
           have hd : (S.at old).kind = 2 → (S.at old).dir = [] := fun x => by
            by_cases y : (S.at old).dir = []
            ·exact y
            ·exact absurd ⟨x, y⟩ e9
           obtain ⟨hgood, J, rfl, hJ, dd⟩ := h.drop hT hd
           rw [at_nat] at hd
           have hdJ : (S.ino J).dir = [] := by
            by_cases e : (S.ino J).kind = 2
            ·exact hd e
            ·exact h.1.noDir J e
           have hIJ : I ≠ J := fun e => e6 (by rw [e])
           have hdirs := dd.dirs hJ hdJ
           have hgS : lget s ((S.drop (T : Int) u J).ino D).dir = some (I : Int) := by
            rw [hdirs]
            by_cases e : D = T
            ·subst e
             rw [if_pos rfl, lget_ldel (fun e => by subst e; rw [hg] at hT; exact e6 (by injection hT with x; exact x.symm))]
             exact hg
            ·rw [if_neg e]; exact hg
           have huS : lget u ((S.drop (T : Int) u J).ino T).dir = none := by rw [hdirs, if_pos rfl]; exact lget_gone u _
           have hT0 : (S.drop (T : Int) u J).ino T = { S.ino T with dir := ldel u (S.ino T).dir } := dd.dir
           refine hgood.move hgS (.inl huS) (by rw [hT0]; exact tk) (by rw [hT0]; exact tl) hs fun hk2 => ?_
           have hkI : (S.ino I).kind = 2 := by rw [← (dd.keep I (by rw [hk2]; decide)).1]; exact hk2
           cases hbb : (S.drop (T : Int) u J).below (T : Int) I 300
           ·rfl
           ·have := dd.below (hgood.1.out 0 (.inl rfl)) i1 300 _ hbb
            rw [hb hkI] at this; cases this
    ·rw [if_pos e4]; exact h
   ·rw [if_pos e3]; exact h
  ·rw [if_pos e2]; exact h
 ·rw [if_pos e1]; exact h
theorem Good.tweak {S : BS} {room I : Nat} (h : Good S room) (x : Ino) (hk : x.kind = (S.ino I).kind) (hl : x.links = (S.ino I).links) (hp : x.parent = (S.ino I).parent) (hb : x.body = (S.ino I).body) (hd : x.dir = (S.ino I).dir)
  (ht : x.target = (S.ino I).target) (h0 : 0 ≤ x.holds) (hn : x.kind ≠ 0) (hkp : x.links ≠ 0 ∨ x.holds ≠ 0) : Good (S.put (I : Int) x) room := by
 have e : S.put (I : Int) x = ⟨upd S.ino I x, S.used⟩ := by unfold BS.put; rw [Int.toNat_natCast]
 rw [e]
 have K : ∀ k, (upd S.ino I x k).kind = (S.ino k).kind ∧ (upd S.ino I x k).links = (S.ino k).links ∧ (upd S.ino I x k).parent = (S.ino k).parent := fun k => by
  by_cases e : k = I
  ·subst e; rw [upd_same]; exact ⟨hk, hl, hp⟩
  ·rw [upd_other _ _ e]; exact ⟨rfl, rfl, rfl⟩
 exact ⟨h.1.tweak I x hk hl hp hb hd ht h0 hn hkp, h.2.of (fun k a b => ⟨(K k).1 ▸ a, (K k).2.1 ▸ b, (K k).2.2⟩) fun k a b => ⟨(K k).1.trans a, fun c => b ((K k).2.1.symm.trans c)⟩⟩
theorem Good.mark {S : BS} {room : Nat} (h : Good S room) (i m : Int) : Good (S.mark i m).2 room := by
 unfold BS.mark
 cases hi : S.isI i
 ·exact h
 ·rw [if_neg (by decide)]
  obtain ⟨I, rfl, i1, i2, i3⟩ := isI_yes hi
  rw [at_nat]
  exact h.tweak _ rfl rfl rfl rfl rfl rfl (h.1.nums I).2 i3 (h.1.kept I i3)
theorem fileE_ok {S : BS} {i : Int} (h : S.fileE i = 0) : ∃ I : Nat, i = (I : Int) ∧ 1 ≤ I ∧ I ≤ 200 ∧ (S.ino I).kind = 1 := by
 unfold BS.fileE BS.kindOf at h
 cases hi : S.isI i
 ·rw [hi] at h; cases h
 ·rw [hi] at h
  obtain ⟨I, rfl, i1, i2, i3⟩ := isI_yes hi
  rw [at_nat] at h
  refine ⟨I, rfl, i1, i2, ?_⟩
  by_cases e : (S.ino I).kind = 1
  ·exact e
  ·simp only [if_true] at h
   rw [if_neg i3] at h
   by_cases e2 : (S.ino I).kind = 2
   ·rw [if_pos e2] at h; cases h
   ·rw [if_neg e2, if_neg e] at h; cases h
theorem Good.turn {S : BS} {room I : Nat} (h : Good S room) (hk : (S.ino I).kind = 1) {b : AB} (hb : b.Ok) (hr : S.used + b.n - (S.ino I).body.n ≤ room) : Good ⟨upd S.ino I { S.ino I with body := b }, S.used + b.n - (S.ino I).body.n⟩ room := by
 have d : Turned S ⟨upd S.ino I { S.ino I with body := b }, S.used + b.n - (S.ino I).body.n⟩ I b := ⟨fun k hk => upd_other _ _ hk, upd_same _ _ _, rfl⟩
 exact ⟨d.inv h.1 hk hb hr, d.tree h.2⟩
end Go.Proofs.YtgoddboicjfkcaaGreat.br
