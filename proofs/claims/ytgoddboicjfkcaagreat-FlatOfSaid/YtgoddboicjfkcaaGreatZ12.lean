/- Part 12 of what is known of the program's functions and of the document's words: contracts, and the mathematics beneath them. -/
import Derived.Test.YtgoddboicjfkcaaGreatProg
import Derived.Test.YtgoddboicjfkcaaGreatZ11
set_option linter.unusedVariables false
set_option linter.unusedSimpArgs false
set_option maxRecDepth 100000
set_option maxHeartbeats 8000000
namespace Go.Proofs.YtgoddboicjfkcaaGreat.br
open Go.RowKit
open dn (En lget lset ldel nerr dotB Sorted lget_some lget_none ldel_mem ldel_sorted lset_mem lset_sorted)
open bl (AB cut cutR cutB readR WR wr)
structure Fits (x z : Ino) (D : Nat) : Prop where
 kind : 1 ≤ z.kind ∧ z.kind ≤ 4
 was : x.kind ≠ 2
 links : z.links = x.links + 1 ∧ z.links ≤ 20
 holds : 0 ≤ z.holds
 body : z.body = x.body
 dir : z.dir = [] ∧ x.dir = []
 noBody : z.kind ≠ 1 → z.body = abE
 noTarget : z.kind ≠ 3 → z.target = ⟨#[]⟩
 target : z.target.size ≤ 400
 isDir : z.kind = 2 → z.links = 1 ∧ z.parent = (D : Int)
structure Gain (S S' : BS) (D I : Nat) (s : ByteArray) : Prop where
 oth : ∀ k, k ≠ D → k ≠ I → S'.ino k = S.ino k
 dir : S'.ino D = { S.ino D with dir := lset s I (S.ino D).dir }
 fits : Fits (S.ino I) (S'.ino I) D
 used : S'.used = S.used
section
variable {S S' : BS} {D I room : Nat} {s : ByteArray}
theorem Gain.dirs (d : Gain S S' D I s) (hne : I ≠ D) (k : Nat) : (S'.ino k).dir = if k = D then lset s I (S.ino D).dir else (S.ino k).dir := by
 by_cases e : k = D
 ·subst e; rw [if_pos rfl, d.dir]
 ·rw [if_neg e]
  by_cases e2 : k = I
  ·subst e2; rw [d.fits.dir.1, d.fits.dir.2]
  ·rw [d.oth k e e2]
theorem Gain.keep (d : Gain S S' D I s) (k : Nat) (hk : k ≠ I) : (S'.ino k).kind = (S.ino k).kind ∧ (S'.ino k).parent = (S.ino k).parent ∧ (S'.ino k).body = (S.ino k).body ∧ (S'.ino k).target = (S.ino k).target ∧ (S'.ino k).holds = (S.ino k).holds ∧ (S'.ino k).links = (S.ino k).links := by
 by_cases e : k = D
 ·subst e; rw [d.dir]; exact ⟨rfl, rfl, rfl, rfl, rfl, rfl⟩
 ·rw [d.oth k e hk]; exact ⟨rfl, rfl, rfl, rfl, rfl, rfl⟩
theorem Gain.names (d : Gain S S' D I s) (hDn : 1 ≤ D ∧ D ≤ 200) (hne : I ≠ D) (hg : lget s (S.ino D).dir = none) (j : Int) : S'.names j 200 = S.names j 200 + if (I : Int) = j then 1 else 0 := by
 obtain ⟨y, hy⟩ : ∃ y : Ino, y.dir = lset s I (S.ino D).dir := ⟨{ S.ino D with dir := lset s I (S.ino D).dir }, rfl⟩
 have e1 : S'.names j 200 = (⟨upd S.ino D y, 0⟩ : BS).names j 200 := sumF_congr fun k _ _ => by
  show br.names j (S'.ino k).dir = br.names j (upd S.ino D y k).dir
  rw [d.dirs hne k]
  by_cases e : k = D
  ·subst e; rw [if_pos rfl, upd_same, hy]
  ·rw [if_neg e, upd_other _ _ e]
 have e2 := names_put S j D y 0 hDn.1 hDn.2
 have e3 := names_lset (i := j) (v := (I : Int)) hg
 rw [hy] at e2
 rw [e1]
 omega
theorem Gain.chunks (d : Gain S S' D I s) (h : Inv S room) : S'.used = S'.chunks 200 := by
 rw [d.used, h.used]
 exact sumF_congr fun k _ _ => by
  show (S.ino k).body.n = (S'.ino k).body.n
  by_cases e : k = I
  ·subst e; rw [d.fits.body]
  ·rw [(d.keep k e).2.2.1]
theorem Gain.inv (d : Gain S S' D I s) (h : Inv S room) (hI : 1 ≤ I ∧ I ≤ 200) (hDk : (S.ino D).kind = 2) (hDl : (S.ino D).links ≠ 0) (hg : lget s (S.ino D).dir = none) (hs : nerr s.data.toList = 0 ∧ dotB s = false) : Inv S' room := by
 have hne : I ≠ D := fun e => d.fits.was (by rw [e]; exact hDk)
 have hDn := h.num (k := D) (by rw [hDk]; decide)
 have hI1 : I ≠ 1 := fun e => d.fits.was (by rw [e]; exact h.root.1)
 have K := d.keep
 have R := d.dirs hne
 have N := d.names hDn hne hg
 have F := d.fits
 have hIl := h.links I hI.1 hI.2
 rw [if_neg hI1] at hIl
 have hIn := (h.nums I).1
 have hem : ∀ e ∈ lset s (I : Int) (S.ino D).dir, e = (s, (I : Int)) ∨ e ∈ (S.ino D).dir := fun e he => by
  rcases (lset_mem (h.sorted D) e).1 he with h1 | h1
  ·exact .inl h1
  ·exact .inr h1.1
 refine ⟨fun k hk => ?_, fun k hk => ?_, fun k => ?_, fun k => ?_, fun k hk => ?_, ?_, fun k => ?_, fun k hk => ?_, fun k hk => ?_, fun k hk => ?_, fun k => ?_, fun k => ?_, fun k e he => ?_, d.chunks h, by rw [d.used]; exact h.room, fun k h1 h2 => ?_, fun k => ?_, fun k hk h0 => ?_, fun k e he hk => ?_, fun k hk => ?_⟩
 ·rw [d.oth k (by omega) (by omega)]; exact h.out k hk
 ·by_cases e : k = I
  ·subst e; have := F.kind; omega
  ·rw [(K k e).1] at hk
   by_cases e2 : k = D
   ·subst e2; rw [hDk] at hk; cases hk
   ·rw [d.oth k e2 e]; exact h.none k hk
 ·by_cases e : k = I
  ·subst e; have := F.kind; omega
  ·rw [(K k e).1]; exact h.kinds k
 ·by_cases e : k = I
  ·subst e; exact ⟨by rw [F.links.1]; omega, F.holds⟩
  ·rw [(K k e).2.2.2.2.1, (K k e).2.2.2.2.2]; exact h.nums k
 ·by_cases e : k = I
  ·subst e; left; rw [F.links.1]; omega
  ·rw [(K k e).2.2.2.2.1, (K k e).2.2.2.2.2]; rw [(K k e).1] at hk; exact h.kept k hk
 ·have e : (1 : Nat) ≠ I := fun e => hI1 e.symm
  rw [(K 1 e).1, (K 1 e).2.1, (K 1 e).2.2.2.2.2]; exact h.root
 ·by_cases e : k = I
  ·subst e; rw [F.body]; exact h.body k
  ·rw [(K k e).2.2.1]; exact h.body k
 ·by_cases e : k = I
  ·subst e; exact F.noBody hk
  ·rw [(K k e).2.2.1]; rw [(K k e).1] at hk; exact h.noBody k hk
 ·by_cases e : k = I
  ·subst e; exact F.dir.1
  ·rw [(K k e).1] at hk
   rw [R]
   by_cases e2 : k = D
   ·subst e2; exact absurd hDk hk
   ·rw [if_neg e2]; exact h.noDir k hk
 ·by_cases e : k = I
  ·subst e; exact F.noTarget hk
  ·rw [(K k e).2.2.2.1]; rw [(K k e).1] at hk; exact h.noTarget k hk
 ·by_cases e : k = I
  ·subst e; exact F.target
  ·rw [(K k e).2.2.2.1]; exact h.target k
 ·rw [R]; split
  ·exact lset_sorted (h.sorted D)
  ·exact h.sorted k
 ·rw [R] at he
  split at he
  ·rcases hem e he with rfl | h1
   ·exact ⟨hs.1, hs.2, by show (1 : Int) ≤ (I : Int); omega, by show (I : Int) ≤ 200; omega⟩
   ·exact h.good D e h1
  ·exact h.good k e he
 ·have e2 := h.links k h1 h2
  rw [N]
  by_cases e : k = I
  ·subst e
   rw [F.links.1, e2, if_pos rfl]
   omega
  ·rw [(K k e).2.2.2.2.2, e2, if_neg (fun e3 : (I : Int) = (k : Int) => e (by omega))]
   omega
 ·by_cases e : k = I
  ·subst e; exact F.links.2
  ·rw [(K k e).2.2.2.2.2]; exact h.twenty k
 ·by_cases e : k = I
  ·subst e; exact F.dir.1
  ·rw [(K k e).1] at hk
   rw [(K k e).2.2.2.2.2] at h0
   rw [R]
   by_cases e2 : k = D
   ·subst e2; exact absurd h0 hDl
   ·rw [if_neg e2]; exact h.gone k hk h0
 ·show (S'.ino e.2.toNat).parent = _
  have hk2 : (S'.ino e.2.toNat).kind = 2 := hk
  by_cases e2 : e.2.toNat = I
  ·rw [e2] at hk2 ⊢
   have hz := F.isDir hk2
   have hl0 : (S.ino I).links = 0 := by have := F.links.1; omega
   have hN0 : S.names (I : Int) 200 = 0 := by omega
   have hkD : k = D := by
    by_cases e3 : k = D
    ·exact e3
    ·rw [R, if_neg e3] at he
     obtain ⟨_, hkn, _⟩ := h.entry he
     have h5 := (h.good k e he).2.2.1
     have h3 : 0 < br.names (I : Int) (S.ino k).dir := names_mem.2 ⟨e, he, by omega⟩
     have h4 : br.names (I : Int) (S.ino k).dir ≤ S.names (I : Int) 200 := sumF_le (f := fun k => br.names (I : Int) (S.ino k).dir) hkn.1 hkn.2
     omega
   rw [hkD]; exact hz.2
  ·rw [(K _ e2).2.1]
   rw [(K _ e2).1] at hk2
   rw [R] at he
   split at he
   ·rename_i e1; subst e1
    rcases hem e he with rfl | h1
    ·exact absurd (Int.toNat_natCast I) e2
    ·exact h.up k e h1 hk2
   ·exact h.up k e he hk2
 ·by_cases e : k = I
  ·subst e; rw [(F.isDir hk).1]; decide
  ·rw [(K k e).2.2.2.2.2]; rw [(K k e).1] at hk; exact h.single k hk
theorem Gain.tree (d : Gain S S' D I s) (h : Inv S room) (ht : Tree S) (hDk : (S.ino D).kind = 2) (hDl : (S.ino D).links ≠ 0) : Tree S' := by
 have hne : I ≠ D := fun e => d.fits.was (by rw [e]; exact hDk)
 have K := d.keep
 obtain ⟨deep, hdp⟩ := ht
 refine ⟨fun k => if k = I then deep D + 1 else deep k, fun k hk hl h1 => ?_⟩
 by_cases e : k = I
 ·subst e
  refine ⟨D, (d.fits.isDir hk).2, by rw [(K D (fun e => hne e.symm)).1]; exact hDk, by rw [(K D (fun e => hne e.symm)).2.2.2.2.2]; exact hDl, ?_⟩
  dsimp only
  rw [if_pos rfl, if_neg (fun e => hne e.symm)]; omega
 ·rw [(K k e).1] at hk
  rw [(K k e).2.2.2.2.2] at hl
  obtain ⟨p, hp, hpk, hpl, hlt⟩ := hdp k hk hl h1
  have hpI : p ≠ I := fun e => d.fits.was (by rw [← e]; exact hpk)
  exact ⟨p, by rw [(K k e).2.1]; exact hp, by rw [(K p hpI).1]; exact hpk, by rw [(K p hpI).2.2.2.2.2]; exact hpl, by dsimp only; rw [if_neg hpI, if_neg e]; exact hlt⟩
end
theorem Tree.of {S S' : BS} (h : Tree S) (h1 : ∀ k, (S'.ino k).kind = 2 → (S'.ino k).links ≠ 0 → (S.ino k).kind = 2 ∧ (S.ino k).links ≠ 0 ∧ (S'.ino k).parent = (S.ino k).parent)
  (h2 : ∀ k, (S.ino k).kind = 2 → (S.ino k).links ≠ 0 → (S'.ino k).kind = 2 ∧ (S'.ino k).links ≠ 0) : Tree S' := by
 obtain ⟨deep, hd⟩ := h
 refine ⟨deep, fun k hk hl hn => ?_⟩
 obtain ⟨a, b, c⟩ := h1 k hk hl
 obtain ⟨p, hp, x, y, z⟩ := hd k a b hn
 obtain ⟨x', y'⟩ := h2 p x y
 exact ⟨p, c.trans hp, x', y', z⟩
structure Turned (S S' : BS) (I : Nat) (b : AB) : Prop where
 oth : ∀ k, k ≠ I → S'.ino k = S.ino k
 ino : S'.ino I = { S.ino I with body := b }
 used : S'.used = S.used + b.n - (S.ino I).body.n
theorem Turned.keep {S S' : BS} {I : Nat} {b : AB} (d : Turned S S' I b) (k : Nat) : (S'.ino k).kind = (S.ino k).kind ∧ (S'.ino k).links = (S.ino k).links ∧ (S'.ino k).parent = (S.ino k).parent ∧ (S'.ino k).dir = (S.ino k).dir ∧ (S'.ino k).target = (S.ino k).target ∧ (S'.ino k).holds = (S.ino k).holds := by
 by_cases e : k = I
 ·subst e; rw [d.ino]; exact ⟨rfl, rfl, rfl, rfl, rfl, rfl⟩
 ·rw [d.oth k e]; exact ⟨rfl, rfl, rfl, rfl, rfl, rfl⟩
theorem Turned.inv {S S' : BS} {I room : Nat} {b : AB} (d : Turned S S' I b) (h : Inv S room) (hk : (S.ino I).kind = 1) (hb : b.Ok) (hr : S'.used ≤ room) : Inv S' room := by
 have K := d.keep
 have hIn := h.num (k := I) (by rw [hk]; decide)
 have hN : ∀ j, S'.names j 200 = S.names j 200 := fun j => sumF_congr fun k _ _ => by show br.names j (S'.ino k).dir = br.names j (S.ino k).dir; rw [(K k).2.2.2.1]
 have hB : ∀ k, k ≠ I → (S'.ino k).body = (S.ino k).body := fun k e => by rw [d.oth k e]
 have hBI : (S'.ino I).body = b := by rw [d.ino]
 refine ⟨fun k hk' => ?_, fun k hk' => ?_, fun k => by rw [(K k).1]; exact h.kinds k, fun k => by rw [(K k).2.1, (K k).2.2.2.2.2]; exact h.nums k, fun k hk' => by rw [(K k).2.1, (K k).2.2.2.2.2]; rw [(K k).1] at hk'; exact h.kept k hk', ?_, fun k => ?_, fun k hk' => ?_,
  fun k hk' => by rw [(K k).2.2.2.1]; rw [(K k).1] at hk'; exact h.noDir k hk', fun k hk' => by rw [(K k).2.2.2.2.1]; rw [(K k).1] at hk'; exact h.noTarget k hk', fun k => by rw [(K k).2.2.2.2.1]; exact h.target k, fun k => by rw [(K k).2.2.2.1]; exact h.sorted k,
  fun k e he => by rw [(K k).2.2.2.1] at he; exact h.good k e he, ?_, hr, fun k h1 h2 => by rw [hN, (K k).2.1]; exact h.links k h1 h2, fun k => by rw [(K k).2.1]; exact h.twenty k, fun k h1 h2 => by rw [(K k).2.2.2.1]; rw [(K k).1] at h1; rw [(K k).2.1] at h2; exact h.gone k h1 h2,
  fun k e he hk' => ?_, fun k hk' => by rw [(K k).2.1]; rw [(K k).1] at hk'; exact h.single k hk'⟩
 ·rw [d.oth k (by omega)]; exact h.out k hk'
 ·rw [(K k).1] at hk'
  rw [d.oth k (fun e => by rw [e, hk] at hk'; cases hk')]; exact h.none k hk'
 ·rw [(K 1).1, (K 1).2.1, (K 1).2.2.1]; exact h.root
 ·by_cases e : k = I
  ·rw [e, hBI]; exact hb
  ·rw [hB k e]; exact h.body k
 ·rw [(K k).1] at hk'
  by_cases e : k = I
  ·rw [e] at hk'; exact absurd hk hk'
  ·rw [hB k e]; exact h.noBody k hk'
 ·have e1 : S'.chunks 200 = (⟨upd S.ino I (S'.ino I), 0⟩ : BS).chunks 200 := sumF_congr fun k _ _ => by
   show (S'.ino k).body.n = (upd S.ino I _ k).body.n
   by_cases e : k = I
   ·subst e; rw [upd_same]
   ·rw [upd_other _ _ e, hB k e]
  have e2 := chunks_put S I (S'.ino I) 0 hIn.1 hIn.2
  rw [hBI] at e2
  have := h.used
  rw [d.used]; omega
 ·have h1 : (S'.ino e.2.toNat).kind = 2 := hk'
  rw [(K _).1] at h1
  rw [(K k).2.2.2.1] at he
  show (S'.ino e.2.toNat).parent = k
  rw [(K _).2.2.1]; exact h.up k e he h1
theorem Turned.tree {S S' : BS} {I : Nat} {b : AB} (d : Turned S S' I b) (h : Tree S) : Tree S' :=
 h.of (fun k hk hl => ⟨by rw [← (d.keep k).1]; exact hk, by rw [← (d.keep k).2.1]; exact hl, (d.keep k).2.2.1⟩) fun k hk hl => ⟨by rw [(d.keep k).1]; exact hk, by rw [(d.keep k).2.1]; exact hl⟩
theorem sumF_mono {f g : Nat → Nat} {n : Nat} (h : ∀ k, 1 ≤ k → k ≤ n → f k ≤ g k) : sumF f n ≤ sumF g n := by
 induction n with
 | zero => exact Nat.le_refl _
 | succ n ih => simp only [sumF]; exact Nat.add_le_add (ih fun k h1 h2 => h k h1 (by omega)) (h (n + 1) (by omega) (Nat.le_refl _))
theorem sumF_lt {f g : Nat → Nat} {n j : Nat} (h : ∀ k, 1 ≤ k → k ≤ n → f k ≤ g k) (h1 : 1 ≤ j) (h2 : j ≤ n) (hj : f j < g j) : sumF f n < sumF g n := by
 induction n with
 | zero => omega
 | succ n ih =>
  simp only [sumF]
  by_cases e : j = n + 1
  ·subst e
   have := sumF_mono (f := f) (g := g) (n := n) fun k h1 h2 => h k h1 (by omega)
   omega
  ·have := ih (fun k h1 h2 => h k h1 (by omega)) (by omega)
   have := h (n + 1) (by omega) (Nat.le_refl _)
   omega
theorem sumF_one {f : Nat → Nat} {n : Nat} (h : ∀ k, f k ≤ 1) : sumF f n ≤ n := by
 induction n with
 | zero => exact Nat.le_refl _
 | succ n ih => simp only [sumF]; have := h (n + 1); omega
theorem Tree.bound {S : BS} {room : Nat} (h : Inv S room) (ht : Tree S) : ∃ deep : Nat → Nat, (∀ k, deep k ≤ 200) ∧ ∀ k, (S.ino k).kind = 2 → (S.ino k).links ≠ 0 → k ≠ 1 →
  ∃ p : Nat, (S.ino k).parent = (p : Int) ∧ (S.ino p).kind = 2 ∧ (S.ino p).links ≠ 0 ∧ deep p < deep k := by
 obtain ⟨deep, hd⟩ := ht
 refine ⟨fun k => sumF (fun j => if deep j < deep k then 1 else 0) 200, fun k => sumF_one fun j => by split <;> omega, fun k hk hl h1 => ?_⟩
 obtain ⟨p, hp, a, b, c⟩ := hd k hk hl h1
 have hpn := h.num (k := p) (by rw [a]; decide)
 refine ⟨p, hp, a, b, sumF_lt (j := p) (fun j _ _ => ?_) hpn.1 hpn.2 ?_⟩
 ·by_cases e : deep j < deep p
  ·rw [if_pos e, if_pos (by omega)]; exact Nat.le_refl _
  ·rw [if_neg e]; exact Nat.zero_le _
 ·rw [if_neg (Nat.lt_irrefl _), if_pos c]; exact Nat.zero_lt_one
def Good (S : BS) (room : Nat) : Prop := Inv S room ∧ Tree S
theorem Good.fresh (room : Nat) : Good fresh room :=
 ⟨Inv.fresh room, fun _ => 0, fun k hk _ h1 => by rw [fresh_ino, if_neg h1] at hk; cases hk⟩
theorem at_nat (S : BS) (k : Nat) : S.at (k : Int) = S.ino k := by show S.ino ((k : Int)).toNat = _; rw [Int.toNat_natCast]
theorem put_nat (S : BS) (i : Nat) (x : Ino) (k : Nat) : (S.put (i : Int) x).ino k = if k = i then x else S.ino k := by
 show upd S.ino ((i : Int)).toNat x k = _
 rw [Int.toNat_natCast]; rfl
theorem isI_yes {S : BS} {i : Int} (h : S.isI i = true) : ∃ I : Nat, i = (I : Int) ∧ 1 ≤ I ∧ I ≤ 200 ∧ (S.ino I).kind ≠ 0 := by
 unfold BS.isI at h
 obtain ⟨h1, h2, h3⟩ := of_decide_eq_true h
 exact ⟨i.toNat, by omega, by omega, by omega, h3⟩
theorem dirE_ok {S : BS} {d : Int} {c : Bool} (h : S.dirE d c = 0) : ∃ D : Nat, d = (D : Int) ∧ 1 ≤ D ∧ D ≤ 200 ∧ (S.ino D).kind = 2 ∧ (c = true → (S.ino D).links ≠ 0) := by
 unfold BS.dirE at h
 cases hi : S.isI d
 ·rw [if_pos hi] at h; cases h
 ·rw [if_neg (by rw [hi]; decide)] at h
  obtain ⟨D, rfl, h1, h2, h3⟩ := isI_yes hi
  rw [at_nat] at h
  by_cases hk : (S.ino D).kind = 2
  ·rw [if_neg (by simpa using hk)] at h
   refine ⟨D, rfl, h1, h2, hk, fun hc hl => ?_⟩
   rw [if_pos ⟨hc, hl⟩] at h; cases h
  ·rw [if_pos hk] at h; cases h
theorem nameE_ok {s : ByteArray} (h : nameE s = 0) : nerr s.data.toList = 0 ∧ dotB s = false := by
 unfold nameE at h
 by_cases e : nerr s.data.toList = 0 ∧ dotB s = true
 ·rw [if_pos e] at h; cases h
 ·rw [if_neg e] at h
  refine ⟨h, ?_⟩
  cases hd : dotB s
  ·rfl
  ·exact absurd ⟨h, hd⟩ e
theorem get_ok {S : BS} {d : Int} {s : ByteArray} (h : (S.get d s).2 = 0) : ∃ D : Nat, d = (D : Int) ∧ 1 ≤ D ∧ D ≤ 200 ∧ (S.ino D).kind = 2 ∧ lget s (S.ino D).dir = some (S.get d s).1 := by
 unfold BS.get at h ⊢
 by_cases e : S.dirE d false = 0
 ·rw [if_neg (by simpa using e)] at h ⊢
  obtain ⟨D, rfl, h1, h2, h3, _⟩ := dirE_ok e
  rw [at_nat] at h ⊢
  refine ⟨D, rfl, h1, h2, h3, ?_⟩
  cases hg : lget s (S.ino D).dir
  ·rw [hg] at h; cases h
  ·rfl
 ·rw [if_pos e] at h; exact absurd h e
theorem vacant_ok {S : BS} {d : Int} {s : ByteArray} (h : S.vacant d s = 0) : ∃ D : Nat, d = (D : Int) ∧ 1 ≤ D ∧ D ≤ 200 ∧ (S.ino D).kind = 2 ∧ (S.ino D).links ≠ 0 ∧ lget s (S.ino D).dir = none ∧ nerr s.data.toList = 0 ∧ dotB s = false := by
 unfold BS.vacant at h
 by_cases e : S.dirE d true = 0
 ·rw [if_neg (by simpa using e)] at h
  by_cases e2 : nameE s = 0
  ·rw [if_neg (by simpa using e2)] at h
   obtain ⟨D, rfl, h1, h2, h3, h4⟩ := dirE_ok e
   rw [at_nat] at h
   refine ⟨D, rfl, h1, h2, h3, h4 rfl, ?_, nameE_ok e2⟩
   cases hg : lget s (S.ino D).dir
   ·rfl
   ·rw [hg] at h; cases h
  ·rw [if_pos e2] at h; exact absurd h e2
 ·rw [if_pos e] at h; exact absurd h e
theorem free_spec (S : BS) (n k : Nat) : k ≤ S.free k n ∧ S.free k n ≤ k + n ∧ (S.free k n < k + n → (S.ino (S.free k n)).kind = 0) ∧ ∀ j, k ≤ j → j < S.free k n → (S.ino j).kind ≠ 0 := by
 induction n generalizing k with
 | zero => exact ⟨Nat.le_refl _, Nat.le_refl _, fun h => absurd h (Nat.lt_irrefl _), fun j h1 h2 => by have : j < k := h2; omega⟩
 | succ n ih =>
  unfold BS.free
  by_cases e : (S.ino k).kind = 0
  ·rw [if_pos e]; exact ⟨Nat.le_refl _, by omega, fun _ => e, fun j h1 h2 => by omega⟩
  ·rw [if_neg e]
   obtain ⟨a, b, c, d⟩ := ih (k + 1)
   exact ⟨by omega, by omega, fun h => c (by omega), fun j h1 h2 => by
    by_cases e1 : j = k
    ·rw [e1]; exact e
    ·exact d j (by omega) h2⟩
theorem lay_gain {S : BS} {D I : Nat} {s : ByteArray} {x : Ino} (hne : I ≠ D) (hf : Fits (S.ino I) x D) : Gain S ((S.put (I : Int) x).putDir (D : Int) (lset s I ((S.put (I : Int) x).at (D : Int)).dir)) D I s := by
 have e1 : (S.put (I : Int) x).at (D : Int) = S.ino D := by rw [at_nat, put_nat, if_neg (fun e => hne e.symm)]
 unfold BS.putDir
 rw [e1]
 refine ⟨fun k h1 h2 => ?_, ?_, ?_, rfl⟩
 ·rw [put_nat, if_neg h1, put_nat, if_neg h2]
 ·rw [put_nat, if_pos rfl]
 ·rw [put_nat, if_neg hne, put_nat, if_pos rfl]; exact hf
theorem Good.make {S : BS} {room : Nat} (h : Good S room) (d : Int) (s : ByteArray) (kind : Int) (t : ByteArray) : Good (S.make d s kind t).2 room := by
 unfold BS.make
 by_cases e1 : S.vacant d s = 0
 ·rw [if_neg (by simpa using e1)]
  cases e2 : badKind kind t
  ·rw [if_neg (by decide)]
   dsimp only
   by_cases e3 : 200 < S.free 1 200
   ·rw [if_pos e3]; exact h
   ·rw [if_neg e3]
    obtain ⟨D, rfl, h1, h2, hk, hl, hg, hs⟩ := vacant_ok e1
    obtain ⟨f1, f2, f3, _⟩ := free_spec S 200 1
    have hz := f3 (by omega)
    generalize S.free 1 200 = n at *
    have hne : n ≠ D := fun e => by rw [e, hk] at hz; cases hz
    have hnil := h.1.none n hz
    unfold badKind at e2
    have hb := of_decide_eq_false e2
    have hf : Fits (S.ino n) ⟨kind, 1, 0, 0, if kind = 2 then (D : Int) else 0, abE, [], t⟩ D := by
     rw [hnil]
     refine ⟨⟨by show 1 ≤ kind; omega, by show kind ≤ 4; omega⟩, by decide, ⟨rfl, by show (1 : Int) ≤ 20; decide⟩, by show (0 : Int) ≤ 0; decide, rfl, ⟨rfl, rfl⟩, fun _ => rfl, fun h3 => ?_, ?_, fun h2 => ⟨rfl, if_pos h2⟩⟩
     ·show t = _
      by_cases e : t = ⟨#[]⟩
      ·exact e
      ·exact absurd (Or.inr (Or.inr (Or.inl ⟨h3, e⟩))) hb
     ·show t.size ≤ 400
      by_cases h3 : kind = 3
      ·omega
      ·have : t = ⟨#[]⟩ := by
        by_cases e : t = ⟨#[]⟩
        ·exact e
        ·exact absurd (Or.inr (Or.inr (Or.inl ⟨h3, e⟩))) hb
       rw [this]; decide
    have hG := lay_gain (s := s) hne hf
    exact ⟨hG.inv h.1 ⟨f1, by omega⟩ hk hl hg hs, hG.tree h.1 h.2 hk hl⟩
  ·rw [if_pos rfl]; exact h
 ·rw [if_pos e1]; exact h
theorem Good.drop {S : BS} {room D : Nat} (h : Good S room) {s : ByteArray} {v : Int} (hg : lget s (S.ino D).dir = some v) (hd : (S.at v).kind = 2 → (S.at v).dir = []) : Good (S.drop (D : Int) s v) room ∧ ∃ I : Nat, v = (I : Int) ∧ I ≠ D ∧ Drop S (S.drop (D : Int) s v) D I s := by
 obtain ⟨hDk, hDn, I, rfl, i1, i2, i3, i4, i5⟩ := h.1.lead hg
 have hne : I ≠ D := fun e => by subst e; exact h.1.own h.2 hg
 rw [at_nat] at hd
 have dd := drop_drop (S := S) s hne
 exact ⟨⟨dd.inv h.1 hne hd hg, dd.tree h.1 h.2 hne hd hg⟩, I, rfl, hne, dd⟩
theorem Good.unlink {S : BS} {room : Nat} (h : Good S room) (d : Int) (s : ByteArray) : Good (S.unlink d s).2 room := by
 unfold BS.unlink
 by_cases e1 : S.dirE d true = 0
 ·rw [if_neg (by simpa using e1)]
  by_cases e2 : (S.get d s).2 = 0
  ·rw [if_neg (by simpa using e2)]
   obtain ⟨D, rfl, h1, h2, hk, hg⟩ := get_ok e2
   by_cases e3 : (S.at (S.get (D : Int) s).1).kind = 2
   ·rw [if_pos e3]; exact h
   ·rw [if_neg e3]
    exact (h.drop hg (fun e => absurd e e3)).1
  ·rw [if_pos e2]; exact h
 ·rw [if_pos e1]; exact h
theorem Good.tweak {S : BS} {room I : Nat} (h : Good S room) (x : Ino) (hk : x.kind = (S.ino I).kind) (hl : x.links = (S.ino I).links) (hp : x.parent = (S.ino I).parent) (hb : x.body = (S.ino I).body) (hd : x.dir = (S.ino I).dir)
  (ht : x.target = (S.ino I).target) (h0 : 0 ≤ x.holds) (hn : x.kind ≠ 0) (hkp : x.links ≠ 0 ∨ x.holds ≠ 0) : Good (S.put (I : Int) x) room := by
 have e : S.put (I : Int) x = ⟨upd S.ino I x, S.used⟩ := by unfold BS.put; rw [Int.toNat_natCast]
 rw [e]
 have K : ∀ k, (upd S.ino I x k).kind = (S.ino k).kind ∧ (upd S.ino I x k).links = (S.ino k).links ∧ (upd S.ino I x k).parent = (S.ino k).parent := fun k => by
  by_cases e : k = I
  ·subst e; rw [upd_same]; exact ⟨hk, hl, hp⟩
  ·rw [upd_other _ _ e]; exact ⟨rfl, rfl, rfl⟩
 exact ⟨h.1.tweak I x hk hl hp hb hd ht h0 hn hkp, h.2.of (fun k a b => ⟨(K k).1 ▸ a, (K k).2.1 ▸ b, (K k).2.2⟩) fun k a b => ⟨(K k).1.trans a, fun c => b ((K k).2.1.symm.trans c)⟩⟩
theorem Good.mark {S : BS} {room : Nat} (h : Good S room) (i m : Int) : Good (S.mark i m).2 room := by
 unfold BS.mark
 cases hi : S.isI i
 ·exact h
 ·rw [if_neg (by decide)]
  obtain ⟨I, rfl, i1, i2, i3⟩ := isI_yes hi
  rw [at_nat]
  exact h.tweak _ rfl rfl rfl rfl rfl rfl (h.1.nums I).2 i3 (h.1.kept I i3)
theorem fileE_ok {S : BS} {i : Int} (h : S.fileE i = 0) : ∃ I : Nat, i = (I : Int) ∧ 1 ≤ I ∧ I ≤ 200 ∧ (S.ino I).kind = 1 := by
 unfold BS.fileE BS.kindOf at h
 cases hi : S.isI i
 ·rw [hi] at h; cases h
 ·rw [hi] at h
  obtain ⟨I, rfl, i1, i2, i3⟩ := isI_yes hi
  rw [at_nat] at h
  refine ⟨I, rfl, i1, i2, ?_⟩
  by_cases e : (S.ino I).kind = 1
  ·exact e
  ·simp only [if_true] at h
   rw [if_neg i3] at h
   by_cases e2 : (S.ino I).kind = 2
   ·rw [if_pos e2] at h; cases h
   ·rw [if_neg e2, if_neg e] at h; cases h
theorem Good.turn {S : BS} {room I : Nat} (h : Good S room) (hk : (S.ino I).kind = 1) {b : AB} (hb : b.Ok) (hr : S.used + b.n - (S.ino I).body.n ≤ room) : Good ⟨upd S.ino I { S.ino I with body := b }, S.used + b.n - (S.ino I).body.n⟩ room := by
 have d : Turned S ⟨upd S.ino I { S.ino I with body := b }, S.used + b.n - (S.ino I).body.n⟩ I b := ⟨fun k hk => upd_other _ _ hk, upd_same _ _ _, rfl⟩
 exact ⟨d.inv h.1 hk hb hr, d.tree h.2⟩
end Go.Proofs.YtgoddboicjfkcaaGreat.br
