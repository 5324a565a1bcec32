/- A branch as the document tells it: what holds of every branch stays through Rename and the calls on inodes. A branch as the document tells it: what is made and taken away again; a name moved there and back. A directory has at most 4000 names: each inode has at most twenty links. A branch in memory: one step of a directory, a body, a field of an inode, the queue. -/
import Derived.Test.YtlnlehoekchdeaaGreatZ13
import Derived.Test.YtlnlehoekchdeaaGreatZ16
section
namespace Go.Proofs.YtlnlehoekchdeaaGreat.br
open Go.RowKit
open Go.Proofs.YtlnlehoekchdeaaGreat.dn (En lget lset ldel nerr dotB Sorted lget_some lget_none ldel_mem ldel_sorted lset_mem lset_sorted)
open Go.Proofs.YtlnlehoekchdeaaGreat.bl (AB cut cutR cutB readR WR wr)
set_option linter.unusedVariables false

theorem lget_ldel {s u : ByteArray} (h : s ≠ u) (L : List En) : lget s (ldel u L) = lget s L := by
  induction L with
  | nil => rfl
  | cons x l ih =>
    by_cases e : x.1 = u
    · have h1 : ldel u (x :: l) = ldel u l := by simp [ldel, e]
      have h2 : lget s (x :: l) = lget s l := by
        have : ¬ x.1 = s := fun e1 => h (e1.symm.trans e)
        simp [lget, this]
      rw [h1, h2, ih]
    · have h1 : ldel u (x :: l) = x :: ldel u l := by simp [ldel, e]
      rw [h1]
      by_cases e2 : x.1 = s
      · simp [lget, e2]
      · have a : ∀ m, lget s (x :: m) = lget s m := fun m => by simp [lget, e2]
        rw [a, a, ih]
theorem lget_gone (u : ByteArray) (L : List En) : lget u (ldel u L) = none := lget_none.2 fun e he => ((ldel_mem e).1 he).2
theorem half_none {S : BS} {D T : Nat} {s u : ByteArray} (h : lget u (S.ino T).dir = none) : lget u (halfD S D s T) = none :=
  lget_none.2 fun e he => (lget_none.1 h) e (half_sub T e he)
theorem below_self {S : BS} {I n : Nat} : S.below (I : Int) I (n + 1) = true := by rw [below_up, decide_eq_true rfl]; rfl
theorem Good.move {S : BS} {room D T I : Nat} (h : Good S room) {s u : ByteArray} (hg : lget s (S.ino D).dir = some (I : Int)) (hu : lget u (S.ino T).dir = none ∨ lget u (halfD S D s T) = none) (hTk : (S.ino T).kind = 2) (hTl : (S.ino T).links ≠ 0) (hs : nerr u.data.toList = 0 ∧ dotB u = false)
    (hb : (S.ino I).kind = 2 → S.below (T : Int) I 300 = false) : Good (S.move D s T u I) room := by
  obtain ⟨hDk, hDn, I', hI', i1, i2, i3, i4, i5⟩ := h.1.lead hg
  obtain rfl : I = I' := by omega
  have h1 : I ≠ D := fun e => by subst e; exact h.1.own h.2 hg
  have h2 : I ≠ T := fun e => by
    subst e
    have := hb hTk
    rw [below_self] at this; cases this
  have d := move_moved (S := S) s u h1 h2
  have hu2 : lget u (halfD S D s T) = none := by
    rcases hu with h3 | h3
    · exact half_none h3
    · exact h3
  exact ⟨d.inv h.1 h2 hg hu2 hTk hTl hs, d.tree h.1 h.2 i3 hTk hTl hb⟩
theorem below_zero {S : BS} {I : Nat} (h0 : S.ino 0 = Ino.nil) (hI : 1 ≤ I) (n : Nat) : S.below 0 I n = false := by
  induction n with
  | zero => rfl
  | succ n ih =>
    have e1 : (S.at 0).parent = 0 := by show (S.ino 0).parent = 0; rw [h0]; rfl
    unfold BS.below
    rw [e1, ih, decide_eq_false (fun e : (0 : Int) = (I : Int) => by omega)]
    rfl
theorem Drop.below {S S' : BS} {D I J : Nat} {s : ByteArray} (d : Drop S S' D I s) (h0 : S'.ino 0 = Ino.nil) (hJ : 1 ≤ J) (n : Nat) (x : Int) (h : S'.below x J n = true) : S.below x J n = true := by
  induction n generalizing x with
  | zero => cases h
  | succ n ih =>
    unfold BS.below at h ⊢
    by_cases e : x = (J : Int)
    · rw [decide_eq_true e]; rfl
    · rw [decide_eq_false e, Bool.false_or] at h ⊢
      have hp : (S'.at x).parent = (S.at x).parent ∨ (S'.at x).parent = 0 := by
        show (S'.ino x.toNat).parent = (S.ino x.toNat).parent ∨ (S'.ino x.toNat).parent = 0
        by_cases e1 : (S'.ino x.toNat).kind = 0
        · by_cases e2 : x.toNat = I
          · rcases d.ino with ⟨h1, _⟩ | ⟨h1, _⟩
            · right; rw [e2, h1]; rfl
            · left; rw [e2, h1]
          · by_cases e3 : x.toNat = D
            · left; rw [e3, d.dir]
            · left; rw [d.oth _ e3 e2]
        · exact .inl (d.keep _ e1).2.1
      rcases hp with h1 | h1
      · rw [h1] at h; exact ih _ h
      · rw [h1, below_zero h0 hJ] at h; cases h
theorem Good.rename {S : BS} {room : Nat} (h : Good S room) (d : Int) (s : ByteArray) (t : Int) (u : ByteArray) : Good (S.rename d s t u).2 room := by
  unfold BS.rename
  by_cases e1 : S.dirE d true = 0
  · rw [if_neg (by simpa using e1)]
    by_cases e2 : (S.get d s).2 = 0
    · rw [if_neg (by simpa using e2)]
      by_cases e3 : S.dirE t true = 0
      · rw [if_neg (by simpa using e3)]
        by_cases e4 : nameE u = 0
        · rw [if_neg (by simpa using e4)]
          obtain ⟨D, rfl, h1, h2, hk, hg⟩ := get_ok e2
          obtain ⟨T, rfl, t1, t2, tk, tl⟩ := dirE_ok e3
          have tl := tl rfl
          have hs := nameE_ok e4
          generalize (S.get (D : Int) s).1 = v at *
          obtain ⟨_, _, I, rfl, i1, i2, i3, i4, i5⟩ := h.1.lead hg
          dsimp only
          rw [at_nat S I, at_nat S T]
          by_cases e5 : (S.ino I).kind = 2 ∧ S.below (T : Int) I 300 = true
          · rw [if_pos e5]; exact h
          · rw [if_neg e5]
            have hb : (S.ino I).kind = 2 → S.below (T : Int) I 300 = false := fun hk2 => by
              cases hbb : S.below (T : Int) I 300
              · rfl
              · exact absurd ⟨hk2, hbb⟩ e5
            cases hT : lget u (S.ino T).dir with
            | none => exact h.move hg (.inl hT) tk tl hs hb
            | some old =>
              dsimp only
              by_cases e6 : old = (I : Int)
              · rw [if_pos e6]; exact h
              · rw [if_neg e6]
                by_cases e7 : (S.at old).kind = 2 ∧ (S.ino I).kind ≠ 2
                · rw [if_pos e7]; exact h
                · rw [if_neg e7]
                  by_cases e8 : (S.at old).kind ≠ 2 ∧ (S.ino I).kind = 2
                  · rw [if_pos e8]; exact h
                  · rw [if_neg e8]
                    by_cases e9 : (S.at old).kind = 2 ∧ (S.at old).dir ≠ []
                    · rw [if_pos e9]; exact h
                    · rw [if_neg e9]
                      have hd : (S.at old).kind = 2 → (S.at old).dir = [] := fun x => by
                        by_cases y : (S.at old).dir = []
                        · exact y
                        · exact absurd ⟨x, y⟩ e9
                      obtain ⟨hgood, J, rfl, hJ, dd⟩ := h.drop hT hd
                      rw [at_nat] at hd
                      have hdJ : (S.ino J).dir = [] := by
                        by_cases e : (S.ino J).kind = 2
                        · exact hd e
                        · exact h.1.noDir J e
                      have hIJ : I ≠ J := fun e => e6 (by rw [e])
                      have hdirs := dd.dirs hJ hdJ
                      have hgS : lget s ((S.drop (T : Int) u J).ino D).dir = some (I : Int) := by
                        rw [hdirs]
                        by_cases e : D = T
                        · subst e
                          rw [if_pos rfl, lget_ldel (fun e => by subst e; rw [hg] at hT; exact e6 (by injection hT with x; exact x.symm))]
                          exact hg
                        · rw [if_neg e]; exact hg
                      have huS : lget u ((S.drop (T : Int) u J).ino T).dir = none := by rw [hdirs, if_pos rfl]; exact lget_gone u _
                      have hT0 : (S.drop (T : Int) u J).ino T = { S.ino T with dir := ldel u (S.ino T).dir } := dd.dir
                      refine hgood.move hgS (.inl huS) (by rw [hT0]; exact tk) (by rw [hT0]; exact tl) hs fun hk2 => ?_
                      have hkI : (S.ino I).kind = 2 := by rw [← (dd.keep I (by rw [hk2]; decide)).1]; exact hk2
                      cases hbb : (S.drop (T : Int) u J).below (T : Int) I 300
                      · rfl
                      · have := dd.below (hgood.1.out 0 (.inl rfl)) i1 300 _ hbb
                        rw [hb hkI] at this; cases this
        · rw [if_pos e4]; exact h
      · rw [if_pos e3]; exact h
    · rw [if_pos e2]; exact h
  · rw [if_pos e1]; exact h
theorem Good.tweak {S : BS} {room I : Nat} (h : Good S room) (x : Ino) (hk : x.kind = (S.ino I).kind) (hl : x.links = (S.ino I).links) (hp : x.parent = (S.ino I).parent) (hb : x.body = (S.ino I).body) (hd : x.dir = (S.ino I).dir)
    (ht : x.target = (S.ino I).target) (h0 : 0 ≤ x.holds) (hn : x.kind ≠ 0) (hkp : x.links ≠ 0 ∨ x.holds ≠ 0) : Good (S.put (I : Int) x) room := by
  have e : S.put (I : Int) x = ⟨upd S.ino I x, S.used⟩ := by unfold BS.put; rw [Int.toNat_natCast]
  rw [e]
  have K : ∀ k, (upd S.ino I x k).kind = (S.ino k).kind ∧ (upd S.ino I x k).links = (S.ino k).links ∧ (upd S.ino I x k).parent = (S.ino k).parent := fun k => by
    by_cases e : k = I
    · subst e; rw [upd_same]; exact ⟨hk, hl, hp⟩
    · rw [upd_other _ _ e]; exact ⟨rfl, rfl, rfl⟩
  exact ⟨h.1.tweak I x hk hl hp hb hd ht h0 hn hkp, h.2.of (fun k a b => ⟨(K k).1 ▸ a, (K k).2.1 ▸ b, (K k).2.2⟩) fun k a b => ⟨(K k).1.trans a, fun c => b ((K k).2.1.symm.trans c)⟩⟩
theorem Good.hold {S : BS} {room : Nat} (h : Good S room) (i : Int) : Good (S.hold i).2 room := by
  unfold BS.hold
  cases hi : S.isI i
  · exact h
  · rw [if_neg (by decide)]
    obtain ⟨I, rfl, i1, i2, i3⟩ := isI_yes hi
    rw [at_nat]
    have := (h.1.nums I).2
    exact h.tweak _ rfl rfl rfl rfl rfl rfl (by show 0 ≤ (S.ino I).holds + 1; omega) i3 (.inr (by show (S.ino I).holds + 1 ≠ 0; omega))
theorem Good.mark {S : BS} {room : Nat} (h : Good S room) (i m : Int) : Good (S.mark i m).2 room := by
  unfold BS.mark
  cases hi : S.isI i
  · exact h
  · rw [if_neg (by decide)]
    obtain ⟨I, rfl, i1, i2, i3⟩ := isI_yes hi
    rw [at_nat]
    exact h.tweak _ rfl rfl rfl rfl rfl rfl (h.1.nums I).2 i3 (h.1.kept I i3)
theorem Good.release {S : BS} {room : Nat} (h : Good S room) (i : Int) : Good (S.release i).2 room := by
  unfold BS.release
  cases hi : S.isI i
  · exact h
  · rw [if_neg (by decide)]
    obtain ⟨I, rfl, i1, i2, i3⟩ := isI_yes hi
    rw [at_nat]
    by_cases e : (S.ino I).holds = 0
    · rw [if_pos e]; exact h
    · rw [if_neg e]
      have hn := h.1.nums I
      unfold BS.less
      dsimp only
      rw [at_nat]
      by_cases e2 : (S.ino I).links - 0 = 0 ∧ (S.ino I).holds - 1 = 0
      · rw [if_pos e2]
        have d : Lost S ⟨upd S.ino ((I : Int)).toNat Ino.nil, S.used - (S.ino I).body.n⟩ I :=
          ⟨fun k hk => by show upd _ ((I : Int)).toNat _ k = _; rw [Int.toNat_natCast, upd_other _ _ hk], by show upd _ ((I : Int)).toNat _ I = _; rw [Int.toNat_natCast, upd_same], rfl⟩
        exact ⟨d.inv h.1 i3 (by omega), d.tree h.2 (by omega)⟩
      · rw [if_neg e2]
        exact h.tweak _ rfl (Int.sub_zero _) rfl rfl rfl rfl (by show 0 ≤ (S.ino I).holds - 1; omega) i3 (by show (S.ino I).links - 0 ≠ 0 ∨ (S.ino I).holds - 1 ≠ 0; omega)
theorem fileE_ok {S : BS} {i : Int} (h : S.fileE i = 0) : ∃ I : Nat, i = (I : Int) ∧ 1 ≤ I ∧ I ≤ 200 ∧ (S.ino I).kind = 1 := by
  unfold BS.fileE BS.kindOf at h
  cases hi : S.isI i
  · rw [hi] at h; cases h
  · rw [hi] at h
    obtain ⟨I, rfl, i1, i2, i3⟩ := isI_yes hi
    rw [at_nat] at h
    refine ⟨I, rfl, i1, i2, ?_⟩
    by_cases e : (S.ino I).kind = 1
    · exact e
    · simp only [if_true] at h
      rw [if_neg i3] at h
      by_cases e2 : (S.ino I).kind = 2
      · rw [if_pos e2] at h; cases h
      · rw [if_neg e2, if_neg e] at h; cases h
theorem Good.turn {S : BS} {room I : Nat} (h : Good S room) (hk : (S.ino I).kind = 1) {b : AB} (hb : b.Ok) (hr : S.used + b.n - (S.ino I).body.n ≤ room) : Good ⟨upd S.ino I { S.ino I with body := b }, S.used + b.n - (S.ino I).body.n⟩ room := by
  have d : Turned S ⟨upd S.ino I { S.ino I with body := b }, S.used + b.n - (S.ino I).body.n⟩ I b := ⟨fun k hk => upd_other _ _ hk, upd_same _ _ _, rfl⟩
  exact ⟨d.inv h.1 hk hb hr, d.tree h.2⟩
end Go.Proofs.YtlnlehoekchdeaaGreat.br
end
section
namespace Go.Proofs.YtlnlehoekchdeaaGreat.br
open Go.RowKit
open Go.Proofs.YtlnlehoekchdeaaGreat.dn (En lget lset ldel nerr dotB Sorted lget_some lget_none ldel_mem ldel_sorted lset_mem lset_sorted sorted_ext names_inj)
open Go.Proofs.YtlnlehoekchdeaaGreat.bl (AB cut cutR cutB readR WR wr)
set_option linter.unusedVariables false

theorem ldel_lset {s : ByteArray} {v : Int} {L : List En} (h : Sorted L) (hn : lget s L = none) : ldel s (lset s v L) = L := by
  refine sorted_ext (ldel_sorted (lset_sorted h)) h fun e => ?_
  rw [ldel_mem, lset_mem h]
  constructor
  · rintro ⟨h1 | h1, h2⟩
    · subst h1; exact absurd rfl h2
    · exact h1.1
  · intro he
    have h1 := lget_none.1 hn e he
    exact ⟨.inr ⟨he, h1⟩, h1⟩
theorem lset_ldel {s : ByteArray} {v : Int} {L : List En} (h : Sorted L) (hg : lget s L = some v) : lset s v (ldel s L) = L := by
  refine sorted_ext (lset_sorted (ldel_sorted h)) h fun e => ?_
  rw [lset_mem (ldel_sorted h), ldel_mem]
  have hm := (lget_some h).1 hg
  constructor
  · rintro (rfl | h1)
    · exact hm
    · exact h1.1.1
  · intro he
    by_cases e1 : e.1 = s
    · exact .inl (names_inj h he hm e1)
    · exact .inr ⟨⟨he, e1⟩, e1⟩
theorem lget_lset {s : ByteArray} {v : Int} {L : List En} (h : Sorted L) : lget s (lset s v L) = some v := (lget_some (lset_sorted h)).2 ((lset_mem h _).2 (.inl rfl))
theorem lget_lset_other {s u : ByteArray} {v : Int} {L : List En} (h : Sorted L) (hn : s ≠ u) : lget s (lset u v L) = lget s L := by
  cases hg : lget s L with
  | none =>
    refine lget_none.2 fun e he => ?_
    rcases (lset_mem h e).1 he with rfl | h1
    · exact fun e1 => hn e1.symm
    · exact lget_none.1 hg e h1.1
  | some w => exact (lget_some (lset_sorted h)).2 ((lset_mem h _).2 (.inr ⟨(lget_some h).1 hg, hn⟩))
theorem BS.ext' {S S' : BS} (h1 : ∀ k, S.ino k = S'.ino k) (h2 : S.used = S'.used) : S = S' := by
  obtain ⟨f, u⟩ := S
  obtain ⟨g, v⟩ := S'
  obtain rfl : f = g := funext h1
  obtain rfl : u = v := h2
  rfl
/-- What was made, with whatever bytes it was given, is taken away again: all is as it was. -/
theorem made_gone {S S1 S2 : BS} {room D I : Nat} {s : ByteArray} (h : Inv S room) (hz : (S.ino I).kind = 0) (hne : I ≠ D) (hn : lget s (S.ino D).dir = none)
    (a1 : ∀ k, k ≠ D → k ≠ I → S1.ino k = S.ino k) (a2 : S1.ino D = { S.ino D with dir := lset s I (S.ino D).dir }) (a3 : S1.used = S.used + (S1.ino I).body.n) (a4 : (S1.ino I).links = 1 ∧ (S1.ino I).holds = 0) (d : Drop S1 S2 D I s) : S2 = S := by
  refine BS.ext' (fun k => ?_) ?_
  · by_cases e1 : k = I
    · subst e1
      rcases d.ino with ⟨h1, _⟩ | ⟨_, h1, _⟩
      · rw [h1, h.none k hz]
      · omega
    · by_cases e2 : k = D
      · subst e2
        have e3 : (S1.ino k).dir = lset s I (S.ino k).dir := by rw [a2]
        rw [d.dir, e3, ldel_lset (h.sorted k) hn, a2]
      · rw [d.oth k e2 e1, a1 k e2 e1]
  · rcases d.ino with ⟨_, _, _, h1⟩ | ⟨_, h1, _⟩
    · rw [h1, a3]; omega
    · omega
/-- Moved there and back: all is as it was. -/
theorem moved_back {S S1 S2 : BS} {room D T I : Nat} {s u : ByteArray} (h : Inv S room) (hg : lget s (S.ino D).dir = some (I : Int)) (hu : lget u (S.ino T).dir = none) (d1 : Moved S S1 D T I s u) (d2 : Moved S1 S2 T D I u s) (hp : (S.ino I).kind = 2 → (S.ino I).parent = (D : Int)) : S2 = S := by
  have hs := h.sorted
  have hD1 : (S1.ino T).dir = lset u I (halfD S D s T) := by rw [d1.dir, if_pos rfl]
  have hh : ∀ k, halfD S1 T u k = halfD S D s k := fun k => by
    by_cases e : k = T
    · subst e
      show (if k = k then ldel u (S1.ino k).dir else _) = _
      rw [if_pos rfl, hD1, ldel_lset (half_sorted h k) (half_none hu)]
    · show (if k = T then _ else (S1.ino k).dir) = _
      rw [if_neg e, d1.dir, if_neg e]
  have hdir : ∀ k, (S2.ino k).dir = (S.ino k).dir := fun k => by
    rw [d2.dir]
    by_cases e : k = D
    · subst e
      rw [if_pos rfl, hh]
      show lset s I (if k = k then ldel s (S.ino k).dir else _) = _
      rw [if_pos rfl, lset_ldel (hs k) hg]
    · rw [if_neg e, hh]
      show (if k = D then _ else (S.ino k).dir) = _
      rw [if_neg e]
  refine BS.ext' (fun k => ?_) (d2.used.trans d1.used)
  have hpar : (S2.ino k).parent = (S.ino k).parent := by
    rw [d2.parent, d1.kind, d1.parent]
    by_cases e : k = I ∧ (S.ino I).kind = 2
    · rw [if_pos e, e.1, hp e.2]
    · rw [if_neg e, if_neg e]
  have c1 := (d2.kind k).trans (d1.kind k)
  have c2 := (d2.links k).trans (d1.links k)
  have c3 := (d2.holds k).trans (d1.holds k)
  have c4 := (d2.body k).trans (d1.body k)
  have c5 := (d2.target k).trans (d1.target k)
  have c6 := (d2.marks k).trans (d1.marks k)
  have c7 := hdir k
  generalize S2.ino k = x at *
  generalize S.ino k = y at *
  obtain ⟨x1, x2, x3, x4, x5, x6, x7, x8⟩ := x
  obtain ⟨y1, y2, y3, y4, y5, y6, y7, y8⟩ := y
  dsimp only at *
  subst c1 c2 c3 c4 c5 c6 c7 hpar
  rfl
end Go.Proofs.YtlnlehoekchdeaaGreat.br
end
section
namespace Go.Proofs.YtlnlehoekchdeaaGreat.br
open Go.RowKit
open Go.Proofs.YtlnlehoekchdeaaGreat.dn (En lget lset ldel nerr dotB Sorted)
set_option linter.unusedVariables false

theorem sumF_add (f g : Nat → Nat) : ∀ n, sumF (fun k => f k + g k) n = sumF f n + sumF g n
  | 0 => rfl
  | n + 1 => by simp only [sumF]; rw [sumF_add f g n]; omega
theorem sumF_ite {j : Nat} : ∀ {n : Nat}, 1 ≤ j → j ≤ n → sumF (fun k => if j = k then 1 else 0) n = 1
  | 0, h1, h2 => by omega
  | n + 1, h1, h2 => by
    simp only [sumF]
    by_cases e : j = n + 1
    · subst e
      rw [sumF_zero fun k _ hk => if_neg (by omega)]; simp
    · rw [sumF_ite h1 (by omega), if_neg e]
theorem len_names : ∀ {L : List En}, (∀ e ∈ L, 1 ≤ e.2 ∧ e.2 ≤ 200) → L.length = sumF (fun k => names (k : Int) L) 200
  | [], _ => (sumF_zero fun _ _ _ => rfl).symm
  | x :: l, h => by
    have h1 := h x (by simp)
    have e : sumF (fun k => names (k : Int) (x :: l)) 200 = sumF (fun k => (if x.2.toNat = k then 1 else 0) + names (k : Int) l) 200 :=
      sumF_congr fun k _ _ => by
        rw [names_cons]
        by_cases e : x.2 = (k : Int)
        · rw [if_pos e, if_pos (by omega)]
        · rw [if_neg e, if_neg (by omega)]
    rw [e, sumF_add, sumF_ite (by omega) (by omega), ← len_names fun e he => h e (by simp [he]), List.length_cons]; omega
theorem sumF_bound {f : Nat → Nat} {m : Nat} : ∀ {n : Nat}, (∀ k, 1 ≤ k → k ≤ n → f k ≤ m) → sumF f n ≤ n * m
  | 0, _ => Nat.zero_le _
  | n + 1, h => by
    simp only [sumF]
    have := sumF_bound (f := f) (m := m) (n := n) fun k h1 h2 => h k h1 (by omega)
    have := h (n + 1) (by omega) (Nat.le_refl _)
    rw [Nat.add_mul]; omega
theorem Inv.dirLen {S : BS} {room : Nat} (h : Inv S room) (D : Nat) : (S.ino D).dir.length ≤ 4000 := by
  by_cases hD : (S.ino D).kind = 2
  · have hn := h.num (k := D) (by rw [hD]; decide)
    rw [len_names fun e he => (h.good D e he).2.2]
    refine sumF_bound (m := 20) (n := 200) fun k h1 h2 => ?_
    have hl := h.links k h1 h2
    have ht := h.twenty k
    have hs : names (k : Int) (S.ino D).dir ≤ S.names (k : Int) 200 := sumF_le (f := fun j => names (k : Int) (S.ino j).dir) hn.1 hn.2
    split at hl <;> omega
  · rw [h.noDir D hD]; exact Nat.zero_le _
theorem Good.z0 {S : BS} {room : Nat} (h : Good S room) : (S.ino 0).kind = 0 := by rw [h.1.out 0 (.inl rfl)]; rfl
end Go.Proofs.YtlnlehoekchdeaaGreat.br
end
section
namespace Go.Proofs.YtlnlehoekchdeaaGreat.cb
open Go.RowKit
open Go.Proofs.YtlnlehoekchdeaaGreat.qu (KN ins QL)
open Go.Proofs.YtlnlehoekchdeaaGreat.dn (Du En lget lset ldel getV nerr dotB Sorted)
open Go.Proofs.YtlnlehoekchdeaaGreat.bl (AB Bod BodC StoC Only Pq)
open Go.Proofs.YtlnlehoekchdeaaGreat.br
set_option linter.unusedVariables false

/-- Behind a step: the tags of what there was stay, and what has none is as it was. -/
structure Stp (w w' : World) (tag tag' : Nat → Nat) : Prop where
  tg : ∀ b, b < w.heap.size → tag' b = tag b
  o : Only (fun b => tag b ≠ 0) w w'
theorem Stp.refl (w : World) (tag : Nat → Nat) : Stp w w tag tag := ⟨fun _ _ => rfl, Only.refl _ _⟩
theorem Stp.trans {w w1 w2 : World} {t t1 t2 : Nat → Nat} (a : Stp w w1 t t1) (b : Stp w1 w2 t1 t2) : Stp w w2 t t2 :=
  ⟨fun k hk => (b.tg k (Nat.lt_of_lt_of_le hk a.o.size)).trans (a.tg k hk),
    ⟨b.o.os.trans a.o.os, b.o.tape.trans a.o.tape, b.o.output.trans a.o.output, Nat.le_trans a.o.size b.o.size, fun k hk hF => (b.o.block k (Nat.lt_of_lt_of_le hk a.o.size) (by rw [a.tg k hk]; exact hF)).trans (a.o.block k hk hF)⟩⟩
theorem Stp.below {w w' : World} {tag : Nat → Nat} (hb : Below w.heap.size w w') : Stp w w' tag tag := ⟨fun _ _ => rfl, Only.of_below hb⟩
/-- A state behind a step, with the inodes where they were. -/
def Nx (w w' : World) (P lo st qb : Nat) (pl : Nat → Pl) (tag : Nat → Nat) (S' : BS) (room : Nat) (L' : List KN) (T' : Nat) : Prop :=
  ∃ qo' pl' tag', CB w' P lo st qb qo' pl' tag' S' room L' T' ∧ Stp w w' tag tag' ∧ ∀ j, (S'.ino j).kind ≠ 0 → (pl' j).nd = (pl j).nd

section
variable {w w' : World} {P lo st qb room T : Nat} {qo : Option Nat} {pl : Nat → Pl} {tag : Nat → Nat} {S : BS} {L : List KN}
theorem pl_same (pl : Nat → Pl) (k : Nat) : (fun j => if j = k then pl k else pl j) = pl := by
  funext j; split
  · next e => rw [e]
  · rfl
theorem CB.plt (h : CB w P lo st qb qo pl tag S room L T) : P < w.heap.size ∧ lo ≤ P := ⟨h.lt (by rw [h.tP]; decide), h.ge (by rw [h.tP]; decide)⟩
theorem CB.dstep (h : CB w P lo st qb qo pl tag S room L T) {D : Nat} (hk : D ≤ 200) (hD : (S.ino D).kind = 2) {K : List En} {v : Value} {e : Ending} (hs : dn.StepE w (pl D).di lo (pl D).dr v K e w') :
    e = .returned v ∧ Nx w w' P lo st qb pl tag ⟨upd S.ino D { S.ino D with dir := K }, S.used⟩ room L T := by
  obtain ⟨he, o', c', hd, ho, hf⟩ := hs
  have hn0 : (S.ino D).kind ≠ 0 := by rw [hD]; decide
  have hi := h.ino D hk hn0
  have t := h.ti D hk hn0
  have hO : Only (fun b => b = (pl D).di ∨ (pl D).dr = some b) w w' := ⟨hf.os, hf.tape, hf.output, hf.size, fun k hk hF => hf.block k hk (fun e => hF (.inl e)) (fun e => hF (.inr e))⟩
  have hF : ∀ b, (b = (pl D).di ∨ (pl D).dr = some b) → tag b = 5 * D + 8 ∨ tag b = 5 * D + 9 := by
    rintro b (rfl | e)
    · exact .inl (t.d hD).1
    · exact .inr ((t.d hD).2 b e)
  have oth : ∀ b, tag b ≠ 0 → tag b ≠ 5 * D + 8 → tag b ≠ 5 * D + 9 → w'.heap[b]? = w.heap[b]? := fun b h1 h2 h3 => h.block hO h1 (fun hf => by rcases hF b hf with e | e <;> omega)
  have hnd := oth (pl D).nd (by rw [t.n]; omega) (by rw [t.n]; omega) (by rw [t.n]; omega)
  have e1 : ∀ j, w'.cell? ⟨(pl D).nd, j, none⟩ = w.cell? ⟨(pl D).nd, j, none⟩ := fun j => World.cell?_of_block (a := ⟨(pl D).nd, j, none⟩) hnd
  have hx : InoC w' st lo { pl D with dr := o', dc := c' } { S.ino D with dir := K } :=
    ⟨(e1 0).trans hi.c0, (e1 1).trans hi.c1, (e1 2).trans hi.c2, (e1 3).trans hi.c3, (e1 4).trans hi.c4, (e1 5).trans hi.c5, (e1 6).trans hi.c6, (e1 7).trans hi.c7, fun j => (World.frozen?_of_block (a := ⟨(pl D).nd, j, none⟩) hnd).trans (hi.f j),
      fun k => by have k' : (S.ino D).kind = 1 := k; omega, fun _ => hd⟩
  obtain ⟨tg, tyes, tno⟩ : ∃ tg : Nat → Nat, (∀ b, o' = some b → tg b = 5 * D + 9) ∧ (∀ b, o' ≠ some b → tg b = tag b) := ⟨fun b => if o' = some b then 5 * D + 9 else tag b, fun b e => if_pos e, fun b e => if_neg e⟩
  have tt : ∀ b, b < w.heap.size → tg b = tag b := fun b hb => by
    by_cases e : o' = some b
    · rw [tyes b e]
      rcases ho b e with e1 | e1
      · exact ((t.d hD).2 b e1).symm
      · omega
    · exact tno b e
  refine ⟨he, qo, _, tg, h.turn (p := { pl D with dr := o', dc := c' }) (x := { S.ino D with dir := K }) hk hO (fun b hb => by rcases hF b hb with e | e <;> omega) hn0 (by exact hn0) rfl (StoC.keep h.sto (oth st (by rw [h.tS]; decide) (by rw [h.tS]; omega) (by rw [h.tS]; omega))) hx ?_ tt (fun b hb => ?_), ⟨tt, hO.mono fun b hb => by rcases hF b hb with e | e <;> omega⟩, fun j hj => ?_⟩
  · refine ⟨(tt _ hi.nlt).trans t.n, fun k => by have k' : (S.ino D).kind = 1 := k; omega, fun _ => ⟨(tt _ (hi.dlt hD).1).trans (t.d hD).1, fun G e => tyes G e⟩⟩
  · rw [tno, h.hi b (Nat.le_trans hf.size hb)]
    intro e
    have := (hd.glt b e).1
    omega
  · show (if j = D then _ else pl j).nd = _
    split
    · next e => rw [e]
    · rfl
/-- One cell of an inode is set. -/
theorem CB.setf (h : CB w P lo st qb qo pl tag S room L T) {k : Nat} (hk : k ≤ 200) (hn0 : (S.ino k).kind ≠ 0) (j : Nat) (v : Value) {x : Ino} (hx : (w.setCell ⟨(pl k).nd, j, none⟩ v).cell? ⟨(pl k).nd, 1, none⟩ = some (.int .i64 x.links) ∧ (w.setCell ⟨(pl k).nd, j, none⟩ v).cell? ⟨(pl k).nd, 2, none⟩ = some (.int .i64 x.holds) ∧
      (w.setCell ⟨(pl k).nd, j, none⟩ v).cell? ⟨(pl k).nd, 3, none⟩ = some (.int .i64 x.marks) ∧ (w.setCell ⟨(pl k).nd, j, none⟩ v).cell? ⟨(pl k).nd, 6, none⟩ = some (.int .i64 x.parent))
    (hj : j = 1 ∨ j = 2 ∨ j = 3 ∨ j = 6) (e1 : x.kind = (S.ino k).kind) (e2 : x.body = (S.ino k).body) (e3 : x.dir = (S.ino k).dir) (e4 : x.target = (S.ino k).target) :
    CB (w.setCell ⟨(pl k).nd, j, none⟩ v) P lo st qb qo pl tag ⟨upd S.ino k x, S.used⟩ room L T ∧ Stp w (w.setCell ⟨(pl k).nd, j, none⟩ v) tag tag := by
  have hi := h.ino k hk hn0
  have t := h.ti k hk hn0
  have hO : Only (fun b => b = (pl k).nd) w (w.setCell ⟨(pl k).nd, j, none⟩ v) := ⟨rfl, rfl, rfl, by simp [World.setCell], fun b hb hF => Below.heap_setCell _ _ _ _ hF⟩
  have oth : ∀ b, tag b ≠ 5 * k + 5 → (w.setCell ⟨(pl k).nd, j, none⟩ v).heap[b]? = w.heap[b]? := fun b h1 => Below.heap_setCell _ _ _ _ (fun e => h1 (by rw [e]; exact t.n))
  have eo : ∀ i, i ≠ j → (w.setCell ⟨(pl k).nd, j, none⟩ v).cell? ⟨(pl k).nd, i, none⟩ = w.cell? ⟨(pl k).nd, i, none⟩ := fun i hi => World.cell?_setCell_other _ _ _ _ (fun e => hi (by injection e with _ e _; exact e.symm))
  have hb : bpV (pl k) x = bpV (pl k) (S.ino k) := by unfold bpV; rw [e1]
  have hd : dpV (pl k) x = dpV (pl k) (S.ino k) := by unfold dpV; rw [e1]
  have hX : InoC (w.setCell ⟨(pl k).nd, j, none⟩ v) st lo (pl k) x := by
    refine ⟨by rw [eo 0 (by omega), hi.c0, e1], hx.1, hx.2.1, hx.2.2.1, by rw [eo 4 (by omega), hi.c4, hb], by rw [eo 5 (by omega), hi.c5, hd], hx.2.2.2, by rw [eo 7 (by omega), hi.c7, e4], fun i => by rw [World.frozen?_setCell]; exact hi.f i, fun k1 => ?_, fun k1 => ?_⟩
    · rw [e1] at k1
      rw [e2]
      exact (hi.bod k1).keep (oth _ (by rw [(t.b k1).1]; omega)) (oth _ (by rw [(t.b k1).2]; omega))
    · rw [e1] at k1
      rw [e3]
      exact (hi.dir k1).of_blocks (oth _ (by rw [(t.d k1).1]; omega)) (fun G e => oth _ (by rw [(t.d k1).2 G e]; omega))
  have hs : (w.setCell ⟨(pl k).nd, j, none⟩ v).heap.size = w.heap.size := by simp [World.setCell]
  have := h.turn hk hO (fun b hb => .inr (.inr (by rw [hb, t.n]; omega))) hn0 (by rw [e1]; exact hn0) rfl (StoC.keep h.sto (oth st (by rw [h.tS]; omega))) hX (tag' := tag) ⟨t.n, fun k1 => t.b (by rw [← e1]; exact k1), fun k1 => t.d (by rw [← e1]; exact k1)⟩ (fun _ _ => rfl) (fun b hb => h.hi b (by omega))
  rw [pl_same] at this
  exact ⟨this, fun _ _ => rfl, hO.mono fun b hb => by rw [hb, t.n]; omega⟩
/-- A file's body is turned, and the store with it. -/
theorem CB.bstep (h : CB w P lo st qb qo pl tag S room L T) {k : Nat} (hk : k ≤ 200) (hf : (S.ino k).kind = 1) {b' : AB} (hb : bl.BodE w st (pl k).bo (pl k).bm room S.used (S.ino k).body b' w') :
    CB w' P lo st qb qo pl tag ⟨upd S.ino k { S.ino k with body := b' }, S.used + b'.n - (S.ino k).body.n⟩ room L T ∧ Stp w w' tag tag := by
  have hn0 : (S.ino k).kind ≠ 0 := by rw [hf]; decide
  have hi := h.ino k hk hn0
  have t := h.ti k hk hn0
  have hF : ∀ b, bl.fp st (pl k).bo (pl k).bm b → tag b = 2 ∨ tag b = 5 * k + 6 ∨ tag b = 5 * k + 7 := by
    rintro b (rfl | rfl | rfl)
    · exact .inl h.tS
    · exact .inr (.inl (t.b hf).1)
    · exact .inr (.inr (t.b hf).2)
  have oth : ∀ b, tag b ≠ 0 → tag b ≠ 2 → tag b ≠ 5 * k + 6 → tag b ≠ 5 * k + 7 → w'.heap[b]? = w.heap[b]? := fun b h1 h2 h3 h4 => h.block hb.o h1 (fun hf => by rcases hF b hf with e | e | e <;> omega)
  have hnd := oth (pl k).nd (by rw [t.n]; omega) (by rw [t.n]; omega) (by rw [t.n]; omega) (by rw [t.n]; omega)
  have e1 : ∀ j, w'.cell? ⟨(pl k).nd, j, none⟩ = w.cell? ⟨(pl k).nd, j, none⟩ := fun j => World.cell?_of_block (a := ⟨(pl k).nd, j, none⟩) hnd
  have hx : InoC w' st lo (pl k) { S.ino k with body := b' } :=
    ⟨(e1 0).trans hi.c0, (e1 1).trans hi.c1, (e1 2).trans hi.c2, (e1 3).trans hi.c3, (e1 4).trans hi.c4, (e1 5).trans hi.c5, (e1 6).trans hi.c6, (e1 7).trans hi.c7, fun j => (World.frozen?_of_block (a := ⟨(pl k).nd, j, none⟩) hnd).trans (hi.f j),
      fun _ => hb.b, fun k' => by have k'' : (S.ino k).kind = 2 := k'; omega⟩
  have := h.turn hk hb.o (fun b hb' => by rcases hF b hb' with e | e | e <;> omega) hn0 (by exact hn0) rfl hb.s hx (tag' := tag) ⟨t.n, t.b, t.d⟩ (fun _ _ => rfl) (fun b hb' => h.hi b (Nat.le_trans hb.o.size hb'))
  rw [pl_same] at this
  exact ⟨this, fun _ _ => rfl, hb.o.mono fun b hb' => by rcases hF b hb' with e | e | e <;> omega⟩
theorem CB.qstep (h : CB w P lo st qb qo pl tag S room L T) {v : Value} {L' : List KN} {T' : Nat} {e : Ending} (hs : qu.StepE w qb lo qo v L' T' e w') : e = .returned v ∧ Nx w w' P lo st qb pl tag S room L' T' := by
  obtain ⟨he, o', hq, ho, hf⟩ := hs
  obtain ⟨tag', h1, h2, h3⟩ := h.queue hq ho hf
  exact ⟨he, o', pl, tag', h1, ⟨h2, h3⟩, fun _ _ => rfl⟩
end
end Go.Proofs.YtlnlehoekchdeaaGreat.cb
end
