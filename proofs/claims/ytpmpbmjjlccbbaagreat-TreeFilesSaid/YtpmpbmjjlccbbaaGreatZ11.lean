/- Part 11 of what is known of the program's functions and of the document's words: contracts, and the mathematics beneath them. -/
import Derived.Test.YtpmpbmjjlccbbaaGreatProg
import Derived.Test.YtpmpbmjjlccbbaaGreatZ10
set_option linter.unusedVariables false
set_option linter.unusedSimpArgs false
set_option maxRecDepth 100000
set_option maxHeartbeats 8000000
namespace Go.Proofs.YtpmpbmjjlccbbaaGreat.br
open Go.RowKit
open dn (En lget lset ldel nerr dotB Sorted lget_some lget_none ldel_mem ldel_sorted lset_mem lset_sorted)
open bl (AB cut cutR cutB readR WR wr)
structure Fits (x z : Ino) (D : Nat) : Prop where
 kind : 1 ≤ z.kind ∧ z.kind ≤ 4
 was : x.kind ≠ 2
 links : z.links = x.links + 1 ∧ z.links ≤ 20
 holds : 0 ≤ z.holds
 body : z.body = x.body
 dir : z.dir = [] ∧ x.dir = []
 noBody : z.kind ≠ 1 → z.body = abE
 noTarget : z.kind ≠ 3 → z.target = ⟨#[]⟩
 target : z.target.size ≤ 400
 isDir : z.kind = 2 → z.links = 1 ∧ z.parent = (D : Int)
structure Gain (S S' : BS) (D I : Nat) (s : ByteArray) : Prop where
 oth : ∀ k, k ≠ D → k ≠ I → S'.ino k = S.ino k
 dir : S'.ino D = { S.ino D with dir := lset s I (S.ino D).dir }
 fits : Fits (S.ino I) (S'.ino I) D
 used : S'.used = S.used
section
variable {S S' : BS} {D I room : Nat} {s : ByteArray}
theorem Gain.dirs (d : Gain S S' D I s) (hne : I ≠ D) (k : Nat) : (S'.ino k).dir = if k = D then lset s I (S.ino D).dir else (S.ino k).dir := by
 by_cases e : k = D
 ·subst e; rw [if_pos rfl, d.dir]
 ·rw [if_neg e]
  by_cases e2 : k = I
  ·subst e2; rw [d.fits.dir.1, d.fits.dir.2]
  ·rw [d.oth k e e2]
theorem Gain.keep (d : Gain S S' D I s) (k : Nat) (hk : k ≠ I) : (S'.ino k).kind = (S.ino k).kind ∧ (S'.ino k).parent = (S.ino k).parent ∧ (S'.ino k).body = (S.ino k).body ∧ (S'.ino k).target = (S.ino k).target ∧ (S'.ino k).holds = (S.ino k).holds ∧ (S'.ino k).links = (S.ino k).links := by
 by_cases e : k = D
 ·subst e; rw [d.dir]; exact ⟨rfl, rfl, rfl, rfl, rfl, rfl⟩
 ·rw [d.oth k e hk]; exact ⟨rfl, rfl, rfl, rfl, rfl, rfl⟩
theorem Gain.names (d : Gain S S' D I s) (hDn : 1 ≤ D ∧ D ≤ 200) (hne : I ≠ D) (hg : lget s (S.ino D).dir = none) (j : Int) : S'.names j 200 = S.names j 200 + if (I : Int) = j then 1 else 0 := by
 obtain ⟨y, hy⟩ : ∃ y : Ino, y.dir = lset s I (S.ino D).dir := ⟨{ S.ino D with dir := lset s I (S.ino D).dir }, rfl⟩
 have e1 : S'.names j 200 = (⟨upd S.ino D y, 0⟩ : BS).names j 200 := sumF_congr fun k _ _ => by
  show br.names j (S'.ino k).dir = br.names j (upd S.ino D y k).dir
  rw [d.dirs hne k]
  by_cases e : k = D
  ·subst e; rw [if_pos rfl, upd_same, hy]
  ·rw [if_neg e, upd_other _ _ e]
 have e2 := names_put S j D y 0 hDn.1 hDn.2
 have e3 := names_lset (i := j) (v := (I : Int)) hg
 rw [hy] at e2
 rw [e1]
 omega
theorem Gain.chunks (d : Gain S S' D I s) (h : Inv S room) : S'.used = S'.chunks 200 := by
 rw [d.used, h.used]
 exact sumF_congr fun k _ _ => by
  show (S.ino k).body.n = (S'.ino k).body.n
  by_cases e : k = I
  ·subst e; rw [d.fits.body]
  ·rw [(d.keep k e).2.2.1]
theorem Gain.inv (d : Gain S S' D I s) (h : Inv S room) (hI : 1 ≤ I ∧ I ≤ 200) (hDk : (S.ino D).kind = 2) (hDl : (S.ino D).links ≠ 0) (hg : lget s (S.ino D).dir = none) (hs : nerr s.data.toList = 0 ∧ dotB s = false) : Inv S' room := by
 have hne : I ≠ D := fun e => d.fits.was (by rw [e]; exact hDk)
 have hDn := h.num (k := D) (by rw [hDk]; decide)
 have hI1 : I ≠ 1 := fun e => d.fits.was (by rw [e]; exact h.root.1)
 have K := d.keep
 have R := d.dirs hne
 have N := d.names hDn hne hg
 have F := d.fits
 have hIl := h.links I hI.1 hI.2
 rw [if_neg hI1] at hIl
 have hIn := (h.nums I).1
 have hem : ∀ e ∈ lset s (I : Int) (S.ino D).dir, e = (s, (I : Int)) ∨ e ∈ (S.ino D).dir := fun e he => by
  rcases (lset_mem (h.sorted D) e).1 he with h1 | h1
  ·exact .inl h1
  ·exact .inr h1.1
 refine ⟨fun k hk => ?_, fun k hk => ?_, fun k => ?_, fun k => ?_, fun k hk => ?_, ?_, fun k => ?_, fun k hk => ?_, fun k hk => ?_, fun k hk => ?_, fun k => ?_, fun k => ?_, fun k e he => ?_, d.chunks h, by rw [d.used]; exact h.room, fun k h1 h2 => ?_, fun k => ?_, fun k hk h0 => ?_, fun k e he hk => ?_, fun k hk => ?_⟩
 ·rw [d.oth k (by omega) (by omega)]; exact h.out k hk
 ·by_cases e : k = I
  ·subst e; have := F.kind; omega
  ·rw [(K k e).1] at hk
   by_cases e2 : k = D
   ·subst e2; rw [hDk] at hk; cases hk
   ·rw [d.oth k e2 e]; exact h.none k hk
 ·by_cases e : k = I
  ·subst e; have := F.kind; omega
  ·rw [(K k e).1]; exact h.kinds k
 ·by_cases e : k = I
  ·subst e; exact ⟨by rw [F.links.1]; omega, F.holds⟩
  ·rw [(K k e).2.2.2.2.1, (K k e).2.2.2.2.2]; exact h.nums k
 ·by_cases e : k = I
  ·subst e; left; rw [F.links.1]; omega
  ·rw [(K k e).2.2.2.2.1, (K k e).2.2.2.2.2]; rw [(K k e).1] at hk; exact h.kept k hk
 ·have e : (1 : Nat) ≠ I := fun e => hI1 e.symm
  rw [(K 1 e).1, (K 1 e).2.1, (K 1 e).2.2.2.2.2]; exact h.root
 ·by_cases e : k = I
  ·subst e; rw [F.body]; exact h.body k
  ·rw [(K k e).2.2.1]; exact h.body k
 ·by_cases e : k = I
  ·subst e; exact F.noBody hk
  ·rw [(K k e).2.2.1]; rw [(K k e).1] at hk; exact h.noBody k hk
 ·by_cases e : k = I
  ·subst e; exact F.dir.1
  ·rw [(K k e).1] at hk
   rw [R]
   by_cases e2 : k = D
   ·subst e2; exact absurd hDk hk
   ·rw [if_neg e2]; exact h.noDir k hk
 ·by_cases e : k = I
  ·subst e; exact F.noTarget hk
  ·rw [(K k e).2.2.2.1]; rw [(K k e).1] at hk; exact h.noTarget k hk
 ·by_cases e : k = I
  ·subst e; exact F.target
  ·rw [(K k e).2.2.2.1]; exact h.target k
 ·rw [R]; split
  ·exact lset_sorted (h.sorted D)
  ·exact h.sorted k
 ·rw [R] at he
  split at he
  ·rcases hem e he with rfl | h1
   ·exact ⟨hs.1, hs.2, by show (1 : Int) ≤ (I : Int); omega, by show (I : Int) ≤ 200; omega⟩
   ·exact h.good D e h1
  ·exact h.good k e he
 ·have e2 := h.links k h1 h2
  rw [N]
  by_cases e : k = I
  ·subst e
   rw [F.links.1, e2, if_pos rfl]
   omega
  ·rw [(K k e).2.2.2.2.2, e2, if_neg (fun e3 : (I : Int) = (k : Int) => e (by omega))]
   omega
 ·by_cases e : k = I
  ·subst e; exact F.links.2
  ·rw [(K k e).2.2.2.2.2]; exact h.twenty k
 ·by_cases e : k = I
  ·subst e; exact F.dir.1
  ·rw [(K k e).1] at hk
   rw [(K k e).2.2.2.2.2] at h0
   rw [R]
   by_cases e2 : k = D
   ·subst e2; exact absurd h0 hDl
   ·rw [if_neg e2]; exact h.gone k hk h0
 ·show (S'.ino e.2.toNat).parent = _
  have hk2 : (S'.ino e.2.toNat).kind = 2 := hk
  by_cases e2 : e.2.toNat = I
  ·rw [e2] at hk2 ⊢
   have hz := F.isDir hk2
   have hl0 : (S.ino I).links = 0 := by have := F.links.1; omega
   have hN0 : S.names (I : Int) 200 = 0 := by omega
   have hkD : k = D := by
    by_cases e3 : k = D
    ·exact e3
    ·rw [R, if_neg e3] at he
     obtain ⟨_, hkn, _⟩ := h.entry he
     have h5 := (h.good k e he).2.2.1
     have h3 : 0 < br.names (I : Int) (S.ino k).dir := names_mem.2 ⟨e, he, by omega⟩
     have h4 : br.names (I : Int) (S.ino k).dir ≤ S.names (I : Int) 200 := sumF_le (f := fun k => br.names (I : Int) (S.ino k).dir) hkn.1 hkn.2
     omega
   rw [hkD]; exact hz.2
  ·rw [(K _ e2).2.1]
   rw [(K _ e2).1] at hk2
   rw [R] at he
   split at he
   ·rename_i e1; subst e1
    rcases hem e he with rfl | h1
    ·exact absurd (Int.toNat_natCast I) e2
    ·exact h.up k e h1 hk2
   ·exact h.up k e he hk2
 ·by_cases e : k = I
  ·subst e; rw [(F.isDir hk).1]; decide
  ·rw [(K k e).2.2.2.2.2]; rw [(K k e).1] at hk; exact h.single k hk
theorem Gain.tree (d : Gain S S' D I s) (h : Inv S room) (ht : Tree S) (hDk : (S.ino D).kind = 2) (hDl : (S.ino D).links ≠ 0) : Tree S' := by
 have hne : I ≠ D := fun e => d.fits.was (by rw [e]; exact hDk)
 have K := d.keep
 obtain ⟨deep, hdp⟩ := ht
 refine ⟨fun k => if k = I then deep D + 1 else deep k, fun k hk hl h1 => ?_⟩
 by_cases e : k = I
 ·subst e
  refine ⟨D, (d.fits.isDir hk).2, by rw [(K D (fun e => hne e.symm)).1]; exact hDk, by rw [(K D (fun e => hne e.symm)).2.2.2.2.2]; exact hDl, ?_⟩
  dsimp only
  rw [if_pos rfl, if_neg (fun e => hne e.symm)]; omega
 ·rw [(K k e).1] at hk
  rw [(K k e).2.2.2.2.2] at hl
  obtain ⟨p, hp, hpk, hpl, hlt⟩ := hdp k hk hl h1
  have hpI : p ≠ I := fun e => d.fits.was (by rw [← e]; exact hpk)
  exact ⟨p, by rw [(K k e).2.1]; exact hp, by rw [(K p hpI).1]; exact hpk, by rw [(K p hpI).2.2.2.2.2]; exact hpl, by dsimp only; rw [if_neg hpI, if_neg e]; exact hlt⟩
end
theorem Tree.of {S S' : BS} (h : Tree S) (h1 : ∀ k, (S'.ino k).kind = 2 → (S'.ino k).links ≠ 0 → (S.ino k).kind = 2 ∧ (S.ino k).links ≠ 0 ∧ (S'.ino k).parent = (S.ino k).parent)
  (h2 : ∀ k, (S.ino k).kind = 2 → (S.ino k).links ≠ 0 → (S'.ino k).kind = 2 ∧ (S'.ino k).links ≠ 0) : Tree S' := by
 obtain ⟨deep, hd⟩ := h
 refine ⟨deep, fun k hk hl hn => ?_⟩
 obtain ⟨a, b, c⟩ := h1 k hk hl
 obtain ⟨p, hp, x, y, z⟩ := hd k a b hn
 obtain ⟨x', y'⟩ := h2 p x y
 exact ⟨p, c.trans hp, x', y', z⟩
structure Turned (S S' : BS) (I : Nat) (b : AB) : Prop where
 oth : ∀ k, k ≠ I → S'.ino k = S.ino k
 ino : S'.ino I = { S.ino I with body := b }
 used : S'.used = S.used + b.n - (S.ino I).body.n
theorem Turned.keep {S S' : BS} {I : Nat} {b : AB} (d : Turned S S' I b) (k : Nat) : (S'.ino k).kind = (S.ino k).kind ∧ (S'.ino k).links = (S.ino k).links ∧ (S'.ino k).parent = (S.ino k).parent ∧ (S'.ino k).dir = (S.ino k).dir ∧ (S'.ino k).target = (S.ino k).target ∧ (S'.ino k).holds = (S.ino k).holds := by
 by_cases e : k = I
 ·subst e; rw [d.ino]; exact ⟨rfl, rfl, rfl, rfl, rfl, rfl⟩
 ·rw [d.oth k e]; exact ⟨rfl, rfl, rfl, rfl, rfl, rfl⟩
theorem Turned.inv {S S' : BS} {I room : Nat} {b : AB} (d : Turned S S' I b) (h : Inv S room) (hk : (S.ino I).kind = 1) (hb : b.Ok) (hr : S'.used ≤ room) : Inv S' room := by
 have K := d.keep
 have hIn := h.num (k := I) (by rw [hk]; decide)
 have hN : ∀ j, S'.names j 200 = S.names j 200 := fun j => sumF_congr fun k _ _ => by show br.names j (S'.ino k).dir = br.names j (S.ino k).dir; rw [(K k).2.2.2.1]
 have hB : ∀ k, k ≠ I → (S'.ino k).body = (S.ino k).body := fun k e => by rw [d.oth k e]
 have hBI : (S'.ino I).body = b := by rw [d.ino]
 refine ⟨fun k hk' => ?_, fun k hk' => ?_, fun k => by rw [(K k).1]; exact h.kinds k, fun k => by rw [(K k).2.1, (K k).2.2.2.2.2]; exact h.nums k, fun k hk' => by rw [(K k).2.1, (K k).2.2.2.2.2]; rw [(K k).1] at hk'; exact h.kept k hk', ?_, fun k => ?_, fun k hk' => ?_,
  fun k hk' => by rw [(K k).2.2.2.1]; rw [(K k).1] at hk'; exact h.noDir k hk', fun k hk' => by rw [(K k).2.2.2.2.1]; rw [(K k).1] at hk'; exact h.noTarget k hk', fun k => by rw [(K k).2.2.2.2.1]; exact h.target k, fun k => by rw [(K k).2.2.2.1]; exact h.sorted k,
  fun k e he => by rw [(K k).2.2.2.1] at he; exact h.good k e he, ?_, hr, fun k h1 h2 => by rw [hN, (K k).2.1]; exact h.links k h1 h2, fun k => by rw [(K k).2.1]; exact h.twenty k, fun k h1 h2 => by rw [(K k).2.2.2.1]; rw [(K k).1] at h1; rw [(K k).2.1] at h2; exact h.gone k h1 h2,
  fun k e he hk' => ?_, fun k hk' => by rw [(K k).2.1]; rw [(K k).1] at hk'; exact h.single k hk'⟩
 ·rw [d.oth k (by omega)]; exact h.out k hk'
 ·rw [(K k).1] at hk'
  rw [d.oth k (fun e => by rw [e, hk] at hk'; cases hk')]; exact h.none k hk'
 ·rw [(K 1).1, (K 1).2.1, (K 1).2.2.1]; exact h.root
 ·by_cases e : k = I
  ·rw [e, hBI]; exact hb
  ·rw [hB k e]; exact h.body k
 ·rw [(K k).1] at hk'
  by_cases e : k = I
  ·rw [e] at hk'; exact absurd hk hk'
  ·rw [hB k e]; exact h.noBody k hk'
 ·have e1 : S'.chunks 200 = (⟨upd S.ino I (S'.ino I), 0⟩ : BS).chunks 200 := sumF_congr fun k _ _ => by
   show (S'.ino k).body.n = (upd S.ino I _ k).body.n
   by_cases e : k = I
   ·subst e; rw [upd_same]
   ·rw [upd_other _ _ e, hB k e]
  have e2 := chunks_put S I (S'.ino I) 0 hIn.1 hIn.2
  rw [hBI] at e2
  have := h.used
  rw [d.used]; omega
 ·have h1 : (S'.ino e.2.toNat).kind = 2 := hk'
  rw [(K _).1] at h1
  rw [(K k).2.2.2.1] at he
  show (S'.ino e.2.toNat).parent = k
  rw [(K _).2.2.1]; exact h.up k e he h1
theorem Turned.tree {S S' : BS} {I : Nat} {b : AB} (d : Turned S S' I b) (h : Tree S) : Tree S' :=
 h.of (fun k hk hl => ⟨by rw [← (d.keep k).1]; exact hk, by rw [← (d.keep k).2.1]; exact hl, (d.keep k).2.2.1⟩) fun k hk hl => ⟨by rw [(d.keep k).1]; exact hk, by rw [(d.keep k).2.1]; exact hl⟩
structure Lost (S S' : BS) (I : Nat) : Prop where
 oth : ∀ k, k ≠ I → S'.ino k = S.ino k
 ino : S'.ino I = Ino.nil
 used : S'.used = S.used - (S.ino I).body.n
theorem Lost.inv {S S' : BS} {I room : Nat} (d : Lost S S' I) (h : Inv S room) (hk : (S.ino I).kind ≠ 0) (hl : (S.ino I).links = 0) : Inv S' room := by
 have hIn := h.num hk
 have hI1 : I ≠ 1 := fun e => by rw [e, h.root.2.1] at hl; cases hl
 have hD : (S.ino I).dir = [] := by
  by_cases e : (S.ino I).kind = 2
  ·exact h.gone I e hl
  ·exact h.noDir I e
 have hdir : ∀ k, (S'.ino k).dir = (S.ino k).dir := fun k => by
  by_cases e : k = I
  ·subst e; rw [d.ino, hD]; rfl
  ·rw [d.oth k e]
 have hN : ∀ j, S'.names j 200 = S.names j 200 := fun j => sumF_congr fun k _ _ => by show br.names j (S'.ino k).dir = br.names j (S.ino k).dir; rw [hdir]
 refine ⟨fun k hk' => ?_, fun k hk' => ?_, fun k => ?_, fun k => ?_, fun k hk' => ?_, ?_, fun k => ?_, fun k hk' => ?_, fun k hk' => ?_, fun k hk' => ?_, fun k => ?_, fun k => by rw [hdir]; exact h.sorted k, fun k e he => by rw [hdir] at he; exact h.good k e he, ?_, ?_, fun k h1 h2 => ?_, fun k => ?_, fun k h1 h2 => ?_, fun k e he hk' => ?_, fun k hk' => ?_⟩
 ·rw [d.oth k (by omega)]; exact h.out k hk'
 ·by_cases e : k = I
  ·subst e; exact d.ino
  ·rw [d.oth k e] at hk' ⊢; exact h.none k hk'
 ·by_cases e : k = I
  ·subst e; rw [d.ino]; exact ⟨by decide, by decide⟩
  ·rw [d.oth k e]; exact h.kinds k
 ·by_cases e : k = I
  ·subst e; rw [d.ino]; exact ⟨by decide, by decide⟩
  ·rw [d.oth k e]; exact h.nums k
 ·by_cases e : k = I
  ·subst e; rw [d.ino] at hk'; exact absurd rfl hk'
  ·rw [d.oth k e] at hk' ⊢; exact h.kept k hk'
 ·rw [d.oth 1 (fun e => hI1 e.symm)]; exact h.root
 ·by_cases e : k = I
  ·subst e; rw [d.ino]; exact abE_ok
  ·rw [d.oth k e]; exact h.body k
 ·by_cases e : k = I
  ·subst e; rw [d.ino]; rfl
  ·rw [d.oth k e] at hk' ⊢; exact h.noBody k hk'
 ·rw [hdir]
  by_cases e : k = I
  ·rw [e]; exact hD
  ·rw [d.oth k e] at hk'; exact h.noDir k hk'
 ·by_cases e : k = I
  ·subst e; rw [d.ino]; rfl
  ·rw [d.oth k e] at hk' ⊢; exact h.noTarget k hk'
 ·by_cases e : k = I
  ·subst e; rw [d.ino]; decide
  ·rw [d.oth k e]; exact h.target k
 ·have e1 : S'.chunks 200 = (⟨upd S.ino I (S'.ino I), 0⟩ : BS).chunks 200 := sumF_congr fun k _ _ => by
   show (S'.ino k).body.n = (upd S.ino I _ k).body.n
   by_cases e : k = I
   ·subst e; rw [upd_same]
   ·rw [upd_other _ _ e, d.oth k e]
  have e2 := chunks_put S I (S'.ino I) 0 hIn.1 hIn.2
  have e4 : (S'.ino I).body.n = 0 := by rw [d.ino]; exact abE_n
  have := h.used
  rw [d.used]; omega
 ·rw [d.used]; exact Nat.le_trans (Nat.sub_le _ _) h.room
 ·rw [hN]
  have := h.links k h1 h2
  by_cases e : k = I
  ·rw [e, d.ino, ← e, ← this, e, hl]; rfl
  ·rw [d.oth k e]; exact this
 ·by_cases e : k = I
  ·subst e; rw [d.ino]; decide
  ·rw [d.oth k e]; exact h.twenty k
 ·rw [hdir]
  by_cases e : k = I
  ·rw [e]; exact hD
  ·rw [d.oth k e] at h1 h2; exact h.gone k h1 h2
 ·have h1 : (S'.ino e.2.toNat).kind = 2 := hk'
  have e1 : e.2.toNat ≠ I := fun e1 => by rw [e1, d.ino] at h1; cases h1
  rw [d.oth _ e1] at h1
  rw [hdir] at he
  show (S'.ino e.2.toNat).parent = k
  rw [d.oth _ e1]; exact h.up k e he h1
 ·by_cases e : k = I
  ·subst e; rw [d.ino]; decide
  ·rw [d.oth k e] at hk' ⊢; exact h.single k hk'
theorem Lost.tree {S S' : BS} {I : Nat} (d : Lost S S' I) (h : Tree S) (hl : (S.ino I).links = 0) : Tree S' := by
 refine h.of (fun k hk hl' => ?_) fun k hk hl' => ?_
 ·have e : k ≠ I := fun e => by rw [e, d.ino] at hk; cases hk
  rw [d.oth k e] at hk hl' ⊢; exact ⟨hk, hl', rfl⟩
 ·rw [d.oth k (fun e => hl' (by rw [e]; exact hl))]; exact ⟨hk, hl'⟩
theorem sumF_mono {f g : Nat → Nat} {n : Nat} (h : ∀ k, 1 ≤ k → k ≤ n → f k ≤ g k) : sumF f n ≤ sumF g n := by
 induction n with
 | zero => exact Nat.le_refl _
 | succ n ih => simp only [sumF]; exact Nat.add_le_add (ih fun k h1 h2 => h k h1 (by omega)) (h (n + 1) (by omega) (Nat.le_refl _))
theorem sumF_lt {f g : Nat → Nat} {n j : Nat} (h : ∀ k, 1 ≤ k → k ≤ n → f k ≤ g k) (h1 : 1 ≤ j) (h2 : j ≤ n) (hj : f j < g j) : sumF f n < sumF g n := by
 induction n with
 | zero => omega
 | succ n ih =>
  simp only [sumF]
  by_cases e : j = n + 1
  ·subst e
   have := sumF_mono (f := f) (g := g) (n := n) fun k h1 h2 => h k h1 (by omega)
   omega
  ·have := ih (fun k h1 h2 => h k h1 (by omega)) (by omega)
   have := h (n + 1) (by omega) (Nat.le_refl _)
   omega
theorem sumF_one {f : Nat → Nat} {n : Nat} (h : ∀ k, f k ≤ 1) : sumF f n ≤ n := by
 induction n with
 | zero => exact Nat.le_refl _
 | succ n ih => simp only [sumF]; have := h (n + 1); omega
theorem Tree.bound {S : BS} {room : Nat} (h : Inv S room) (ht : Tree S) : ∃ deep : Nat → Nat, (∀ k, deep k ≤ 200) ∧ ∀ k, (S.ino k).kind = 2 → (S.ino k).links ≠ 0 → k ≠ 1 →
  ∃ p : Nat, (S.ino k).parent = (p : Int) ∧ (S.ino p).kind = 2 ∧ (S.ino p).links ≠ 0 ∧ deep p < deep k := by
 obtain ⟨deep, hd⟩ := ht
 refine ⟨fun k => sumF (fun j => if deep j < deep k then 1 else 0) 200, fun k => sumF_one fun j => by split <;> omega, fun k hk hl h1 => ?_⟩
 obtain ⟨p, hp, a, b, c⟩ := hd k hk hl h1
 have hpn := h.num (k := p) (by rw [a]; decide)
 refine ⟨p, hp, a, b, sumF_lt (j := p) (fun j _ _ => ?_) hpn.1 hpn.2 ?_⟩
 ·by_cases e : deep j < deep p
  ·rw [if_pos e, if_pos (by omega)]; exact Nat.le_refl _
  ·rw [if_neg e]; exact Nat.zero_le _
 ·rw [if_neg (Nat.lt_irrefl _), if_pos c]; exact Nat.zero_lt_one
def halfD (S : BS) (D : Nat) (s : ByteArray) (k : Nat) : List En := if k = D then ldel s (S.ino D).dir else (S.ino k).dir
structure Moved (S S' : BS) (D T I : Nat) (s u : ByteArray) : Prop where
 dir : ∀ k, (S'.ino k).dir = if k = T then lset u I (halfD S D s T) else halfD S D s k
 kind : ∀ k, (S'.ino k).kind = (S.ino k).kind
 links : ∀ k, (S'.ino k).links = (S.ino k).links
 holds : ∀ k, (S'.ino k).holds = (S.ino k).holds
 body : ∀ k, (S'.ino k).body = (S.ino k).body
 target : ∀ k, (S'.ino k).target = (S.ino k).target
 parent : ∀ k, (S'.ino k).parent = if k = I ∧ (S.ino I).kind = 2 then (T : Int) else (S.ino k).parent
 marks : ∀ k, (S'.ino k).marks = (S.ino k).marks
 used : S'.used = S.used
theorem move_moved {S : BS} {D T I : Nat} (s u : ByteArray) (h1 : I ≠ D) (h2 : I ≠ T) : Moved S (S.move D s T u I) D T I s u := by
 have e1 : ∀ k, (S.putDir (D : Int) (ldel s (S.at D).dir)).ino k = { S.ino k with dir := halfD S D s k } := fun k => by
  show upd S.ino ((D : Int)).toNat _ k = _
  rw [Int.toNat_natCast]
  unfold halfD
  by_cases e : k = D
  ·subst e; rw [upd_same, if_pos rfl]; rfl
  ·rw [upd_other _ _ e, if_neg e]
 have e2 : ∀ k, ((S.putDir (D : Int) (ldel s (S.at D).dir)).putDir (T : Int) (lset u I ((S.putDir (D : Int) (ldel s (S.at D).dir)).at T).dir)).ino k = { S.ino k with dir := if k = T then lset u I (halfD S D s T) else halfD S D s k } := fun k => by
  show upd _ ((T : Int)).toNat { (S.putDir (D : Int) (ldel s (S.at D).dir)).ino ((T : Int)).toNat with dir := lset u I ((S.putDir (D : Int) (ldel s (S.at D).dir)).ino ((T : Int)).toNat).dir } k = _
  rw [Int.toNat_natCast]
  by_cases e : k = T
  ·subst e; rw [upd_same, if_pos rfl, e1]
  ·rw [upd_other _ _ e, if_neg e, e1]
 have e3 : (S.at (I : Int)) = S.ino I := by show S.ino ((I : Int)).toNat = _; rw [Int.toNat_natCast]
 have e4 : ∀ k, (S.move D s T u I).ino k = { S.ino k with dir := (if k = T then lset u I (halfD S D s T) else halfD S D s k), parent := if k = I ∧ (S.ino I).kind = 2 then (T : Int) else (S.ino k).parent } := fun k => by
  unfold BS.move
  rw [e3]
  dsimp only
  by_cases hk : (S.ino I).kind = 2
  ·rw [if_pos hk]
   show upd _ ((I : Int)).toNat { ((S.putDir (D : Int) (ldel s (S.at D).dir)).putDir (T : Int) (lset u I ((S.putDir (D : Int) (ldel s (S.at D).dir)).at T).dir)).ino ((I : Int)).toNat with parent := (T : Int) } k = _
   rw [Int.toNat_natCast]
   by_cases e : k = I
   ·subst e; rw [upd_same, e2, if_pos (And.intro rfl hk)]
   ·rw [upd_other _ _ e, e2, if_neg (fun x : k = I ∧ (S.ino I).kind = 2 => e x.1)]
  ·rw [if_neg hk, e2, if_neg (fun x : k = I ∧ (S.ino I).kind = 2 => hk x.2)]
 have e5 : (S.move D s T u I).used = S.used := by
  unfold BS.move
  dsimp only
  split <;> rfl
 exact ⟨fun k => by rw [e4], fun k => by rw [e4], fun k => by rw [e4], fun k => by rw [e4], fun k => by rw [e4], fun k => by rw [e4], fun k => by rw [e4], fun k => by rw [e4], e5⟩
section
variable {S S' : BS} {D T I room : Nat} {s u : ByteArray}
theorem half_sub (k : Nat) (e : En) (h : e ∈ halfD S D s k) : e ∈ (S.ino k).dir := by
 unfold halfD at h
 split at h
 ·rename_i e1; subst e1; exact ((ldel_mem e).1 h).1
 ·exact h
theorem half_sorted (h : Inv S room) (k : Nat) : Sorted (halfD S D s k) := by
 unfold halfD
 split
 ·exact ldel_sorted (h.sorted D)
 ·exact h.sorted k
theorem half_names (h : Inv S room) (hg : lget s (S.ino D).dir = some (I : Int)) (j : Int) : sumF (fun k => names j (halfD S D s k)) 200 + (if (I : Int) = j then 1 else 0) = S.names j 200 := by
 obtain ⟨_, hDn, _⟩ := h.lead hg
 obtain ⟨y, hy⟩ : ∃ y : Ino, y.dir = ldel s (S.ino D).dir := ⟨{ S.ino D with dir := ldel s (S.ino D).dir }, rfl⟩
 have e1 : sumF (fun k => names j (halfD S D s k)) 200 = (⟨upd S.ino D y, 0⟩ : BS).names j 200 := sumF_congr fun k _ _ => by
  show names j (halfD S D s k) = names j (upd S.ino D y k).dir
  unfold halfD
  by_cases e : k = D
  ·subst e; rw [if_pos rfl, upd_same, hy]
  ·rw [if_neg e, upd_other _ _ e]
 have e2 := names_put S j D y 0 hDn.1 hDn.2
 have e3 := names_ldel (i := j) (h.sorted D) hg
 rw [hy] at e2
 omega
theorem Moved.names (d : Moved S S' D T I s u) (h : Inv S room) (hg : lget s (S.ino D).dir = some (I : Int)) (hu : lget u (halfD S D s T) = none) (hT : 1 ≤ T ∧ T ≤ 200) (j : Int) : S'.names j 200 = S.names j 200 := by
 have e0 := half_names h hg j
 obtain ⟨y, hy⟩ : ∃ y : Ino, y.dir = lset u I (halfD S D s T) := ⟨{ Ino.nil with dir := lset u I (halfD S D s T) }, rfl⟩
 obtain ⟨SM, hSM⟩ : ∃ SM : BS, ∀ k, (SM.ino k).dir = halfD S D s k := ⟨⟨fun k => { Ino.nil with dir := halfD S D s k }, 0⟩, fun _ => rfl⟩
 have e1 : S'.names j 200 = (⟨upd SM.ino T y, 0⟩ : BS).names j 200 := sumF_congr fun k _ _ => by
  show br.names j (S'.ino k).dir = br.names j (upd SM.ino T y k).dir
  rw [d.dir]
  by_cases e : k = T
  ·subst e; rw [if_pos rfl, upd_same, hy]
  ·rw [if_neg e, upd_other _ _ e, hSM]
 have e2 := names_put SM j T y 0 hT.1 hT.2
 have e3 := names_lset (i := j) (v := (I : Int)) hu
 have e4 : SM.names j 200 = sumF (fun k => br.names j (halfD S D s k)) 200 := sumF_congr fun k _ _ => by show br.names j (SM.ino k).dir = _; rw [hSM]
 rw [hy, hSM] at e2
 rw [e1]
 omega
theorem Moved.inv (d : Moved S S' D T I s u) (h : Inv S room) (hIT : I ≠ T) (hg : lget s (S.ino D).dir = some (I : Int)) (hu : lget u (halfD S D s T) = none) (hTk : (S.ino T).kind = 2) (hTl : (S.ino T).links ≠ 0) (hs : nerr u.data.toList = 0 ∧ dotB u = false) : Inv S' room := by
 obtain ⟨hDk, hDn, I', hI', i1, i2, i3, i4, i5⟩ := h.lead hg
 obtain rfl : I = I' := by omega
 have hTn := h.num (k := T) (by rw [hTk]; decide)
 have N := d.names h hg hu hTn
 have hDl : (S.ino D).links ≠ 0 := fun e => by rw [h.gone D hDk e] at hg; cases hg
 have hem : ∀ k, ∀ e ∈ (S'.ino k).dir, (k = T ∧ e = (u, (I : Int))) ∨ e ∈ halfD S D s k := fun k e he => by
  rw [d.dir] at he
  split at he
  ·rename_i e1; subst e1
   rcases (lset_mem (half_sorted h k) e).1 he with h1 | h1
   ·exact .inl ⟨rfl, h1⟩
   ·exact .inr h1.1
  ·exact .inr he
 refine ⟨fun k hk => ?_, fun k hk => ?_, fun k => by rw [d.kind]; exact h.kinds k, fun k => by rw [d.links, d.holds]; exact h.nums k, fun k hk => by rw [d.links, d.holds]; rw [d.kind] at hk; exact h.kept k hk, ?_, fun k => by rw [d.body]; exact h.body k, fun k hk => by rw [d.body]; rw [d.kind] at hk; exact h.noBody k hk,
  fun k hk => ?_, fun k hk => by rw [d.target]; rw [d.kind] at hk; exact h.noTarget k hk, fun k => by rw [d.target]; exact h.target k, fun k => ?_, fun k e he => ?_, ?_, by rw [d.used]; exact h.room, fun k h1 h2 => by rw [N, d.links]; exact h.links k h1 h2, fun k => by rw [d.links]; exact h.twenty k, fun k hk h0 => ?_, fun k e he hk => ?_, fun k hk => by rw [d.links]; rw [d.kind] at hk; exact h.single k hk⟩
 ·rw [← ino_same d (k := k) (by omega) (by omega) (by omega)]; exact h.out k hk
 ·rw [d.kind] at hk
  have a1 : k ≠ T := fun e => by rw [e, hTk] at hk; cases hk
  have a2 : k ≠ D := fun e => by rw [e, hDk] at hk; cases hk
  have a3 : k ≠ I := fun e => i5 (by rw [← e]; exact hk)
  rw [← ino_same d a1 a2 a3]; exact h.none k hk
 ·rw [d.kind, d.links, d.parent, if_neg (fun x => i3 x.1.symm)]; exact h.root
 ·rw [d.kind] at hk
  rw [d.dir, if_neg (fun e => hk (by rw [e]; exact hTk))]
  unfold halfD
  rw [if_neg (fun e => hk (by rw [e]; exact hDk))]
  exact h.noDir k hk
 ·rw [d.dir]; split
  ·exact lset_sorted (half_sorted h T)
  ·exact half_sorted h k
 ·rcases hem k e he with ⟨_, rfl⟩ | h1
  ·exact ⟨hs.1, hs.2, by show (1 : Int) ≤ (I : Int); omega, by show (I : Int) ≤ 200; omega⟩
  ·exact h.good k e (half_sub k e h1)
 ·rw [d.used, h.used]
  exact sumF_congr fun k _ _ => by show (S.ino k).body.n = (S'.ino k).body.n; rw [d.body]
 ·rw [d.kind] at hk
  rw [d.links] at h0
  rw [d.dir, if_neg (fun e => hTl (by rw [← e]; exact h0))]
  unfold halfD
  rw [if_neg (fun e => hDl (by rw [← e]; exact h0))]
  exact h.gone k hk h0
 ·show (S'.ino e.2.toNat).parent = _
  have hk2 : (S'.ino e.2.toNat).kind = 2 := hk
  rw [d.kind] at hk2
  by_cases e1 : e.2.toNat = I
  ·rw [e1] at hk2 ⊢
   rw [d.parent, if_pos ⟨rfl, hk2⟩]
   have hkT : k = T := by
    by_cases e2 : k = T
    ·exact e2
    ·rcases hem k e he with ⟨h1, _⟩ | h1
     ·exact absurd h1 e2
     ·have h0 := half_sub k e h1
      obtain ⟨_, hkn, _⟩ := h.entry h0
      have hgd := (h.good k e h0).2.2.1
      have a1 : 0 < br.names (I : Int) (halfD S D s k) := names_mem.2 ⟨e, h1, by omega⟩
      have a2 : br.names (I : Int) (halfD S D s k) ≤ sumF (fun k => br.names (I : Int) (halfD S D s k)) 200 := sumF_le (f := fun k => br.names (I : Int) (halfD S D s k)) hkn.1 hkn.2
      have a3 := half_names h hg (I : Int)
      rw [if_pos rfl] at a3
      have a4 := h.links I i1 i2
      rw [if_neg i3] at a4
      have a5 := h.single I hk2
      omega
   rw [hkT]
  ·rw [d.parent, if_neg (fun x => e1 x.1)]
   rcases hem k e he with ⟨_, rfl⟩ | h1
   ·exact absurd (Int.toNat_natCast I) e1
   ·exact h.up k e (half_sub k e h1) hk2
where
  ino_same {S S' : BS} {D T I : Nat} {s u : ByteArray} (d : Moved S S' D T I s u) {k : Nat} (h1 : k ≠ T) (h2 : k ≠ D) (h3 : k ≠ I) : S.ino k = S'.ino k := by
    have a := d.dir k
    have b := d.parent k
    rw [if_neg h1] at a
    unfold halfD at a
    rw [if_neg h2] at a
    rw [if_neg (fun x => h3 x.1)] at b
    have c1 := d.kind k
    have c2 := d.links k
    have c3 := d.holds k
    have c4 := d.body k
    have c5 := d.target k
    have c6 := d.marks k
    generalize S'.ino k = x at *
    generalize S.ino k = y at *
    obtain ⟨x1, x2, x3, x4, x5, x6, x7, x8⟩ := x
    obtain ⟨y1, y2, y3, y4, y5, y6, y7, y8⟩ := y
    dsimp only at *
    subst a b c1 c2 c3 c4 c5 c6
    rfl
theorem below_root (h : Inv S room) (hI : I ≠ 1) (n : Nat) : S.below 1 I n = false := by
 induction n with
 | zero => rfl
 | succ n ih =>
  have e1 : (S.at 1).parent = 1 := h.root.2.2
  unfold BS.below
  rw [e1, ih, decide_eq_false (fun e : (1 : Int) = (I : Int) => hI (by omega))]
  rfl
theorem below_up (k : Nat) (n : Nat) : S.below (k : Int) I (n + 1) = (decide (k = I) || S.below (S.ino k).parent I n) := by
 have e1 : S.at (k : Int) = S.ino k := by show S.ino ((k : Int)).toNat = _; rw [Int.toNat_natCast]
 show (decide ((k : Int) = (I : Int)) || S.below (S.at (k : Int)).parent I n) = _
 rw [e1]
 congr 1
 exact decide_eq_decide.2 (by omega)
theorem Moved.tree (d : Moved S S' D T I s u) (h : Inv S room) (ht : Tree S) (hI : I ≠ 1) (hTk : (S.ino T).kind = 2) (hTl : (S.ino T).links ≠ 0) (hb : (S.ino I).kind = 2 → S.below (T : Int) I 300 = false) : Tree S' := by
 by_cases hk2 : (S.ino I).kind = 2
 ·have hb := hb hk2
  obtain ⟨deep, h200, hd⟩ := ht.bound h
  have stab : ∀ n k, (S.ino k).kind = 2 → (S.ino k).links ≠ 0 → deep k < n → S.below (k : Int) I n = S.below (k : Int) I (n + 1) := by
   intro n
   induction n with
   | zero => intro k _ _ hlt; omega
   | succ n ih =>
    intro k hk hl hlt
    by_cases e : k = 1
    ·subst e
     rw [show ((1 : Nat) : Int) = 1 from rfl, below_root h hI, below_root h hI]
    ·obtain ⟨p, hp, a, b, c⟩ := hd k hk hl e
     rw [below_up, below_up, hp, ih p a b (by omega)]
  refine ⟨fun k => if S.below (k : Int) I 300 = true then deep k + 201 else deep k, fun k hk hl h1 => ?_⟩
  rw [d.kind] at hk
  rw [d.links] at hl
  by_cases e : k = I
  ·subst e
   refine ⟨T, by rw [d.parent, if_pos ⟨rfl, hk⟩], by rw [d.kind]; exact hTk, by rw [d.links]; exact hTl, ?_⟩
   dsimp only
   rw [if_neg (by rw [hb]; decide), if_pos (by rw [below_up, decide_eq_true rfl]; rfl)]
   have := h200 T
   omega
  ·obtain ⟨p, hp, a, b, c⟩ := hd k hk hl h1
   refine ⟨p, by rw [d.parent, if_neg (fun x => e x.1)]; exact hp, by rw [d.kind]; exact a, by rw [d.links]; exact b, ?_⟩
   have e2 : S.below (k : Int) I 300 = S.below (p : Int) I 300 := by
    rw [below_up, hp, decide_eq_false e, Bool.false_or]
    exact stab 299 p a b (by have := h200 p; omega)
   dsimp only
   rw [e2]
   split <;> omega
 ·refine ht.of (fun k hk hl => ?_) fun k hk hl => ⟨by rw [d.kind]; exact hk, by rw [d.links]; exact hl⟩
  rw [d.kind] at hk
  rw [d.links] at hl
  exact ⟨hk, hl, by rw [d.parent, if_neg (fun x => hk2 x.2)]⟩
end
end Go.Proofs.YtpmpbmjjlccbbaaGreat.br
