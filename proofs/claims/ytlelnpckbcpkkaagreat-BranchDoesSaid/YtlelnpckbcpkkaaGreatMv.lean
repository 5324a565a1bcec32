/- What is renamed is what it was, under its new name; back again all is as it had been. -/
import Derived.Test.YtlelnpckbcpkkaaGreatEr
namespace Go.Proofs.YtlelnpckbcpkkaaGreat.cb
open Go.RowKit
open Go.Proofs.YtlelnpckbcpkkaaGreat.br
open Go.Proofs.YtlelnpckbcpkkaaGreat.dn (En nerr lget lset ldel dotB Sorted lget_some lget_none ldel_mem ldel_sorted lset_mem lset_sorted)
set_option linter.unusedVariables false
set_option linter.unusedSimpArgs false

theorem below_deep {S : BS} {deep : Nat → Nat} (hdp : ∀ k, (S.ino k).kind = 2 → (S.ino k).links ≠ 0 → k ≠ 1 → ∃ p : Nat, (S.ino k).parent = (p : Int) ∧ (S.ino p).kind = 2 ∧ (S.ino p).links ≠ 0 ∧ deep p < deep k) (hr : (S.ino 1).parent = 1) {I : Nat} :
    ∀ n k, (S.ino k).kind = 2 → (S.ino k).links ≠ 0 → S.below (k : Int) I n = true → k = I ∨ deep I < deep k := by
  intro n
  induction n with
  | zero => intro k _ _ h; cases h
  | succ n ih =>
    intro k hk hl h
    rw [below_up] at h
    by_cases e : k = I
    · exact .inl e
    · rw [decide_eq_false (fun e1 => e (by omega)), Bool.false_or] at h
      by_cases e1 : k = 1
      · subst e1
        rw [hr] at h
        exact ih 1 hk hl h
      · obtain ⟨p, hp, hpk, hpl, hlt⟩ := hdp k hk hl e1
        rw [hp] at h
        rcases ih p hpk hpl h with e2 | e2
        · subst e2; exact .inr hlt
        · exact .inr (by omega)
theorem below_moved {S S' : BS} {D T I : Nat} {s u : ByteArray} (d : Moved S S' D T I s u) (hI : 1 ≤ I) : ∀ n (x : Int), S'.below x I n = S.below x I n := by
  intro n
  induction n with
  | zero => intro x; rfl
  | succ n ih =>
    intro x
    unfold BS.below
    by_cases e : x = (I : Int)
    · rw [decide_eq_true e]; rfl
    · rw [decide_eq_false e, Bool.false_or, Bool.false_or]
      have hp : (S'.at x).parent = (S.at x).parent := by
        show (S'.ino x.toNat).parent = (S.ino x.toNat).parent
        rw [d.parent, if_neg (fun e2 => e (by omega))]
      rw [hp, ih]
theorem get_of {S : BS} {D : Nat} {s : ByteArray} {v : Int} (h1 : 1 ≤ D) (h2 : D ≤ 200) (hk : (S.ino D).kind = 2) (hg : lget s (S.ino D).dir = some v) : S.get (D : Int) s = (v, 0) := by
  have hd : S.dirE (D : Int) false = 0 := by
    unfold BS.dirE BS.isI
    rw [at_nat, if_neg (by simp only [decide_eq_false_iff_not, Decidable.not_not]; exact ⟨by omega, by omega, by rw [hk]; decide⟩), if_neg (by rw [hk]; decide), if_neg (fun e => by cases e.1)]
  rw [get_eq hd, hg]
theorem get_no {S : BS} {D : Nat} {s : ByteArray} (h1 : 1 ≤ D) (h2 : D ≤ 200) (hk : (S.ino D).kind = 2) (hg : lget s (S.ino D).dir = none) : S.get (D : Int) s = (0, 2) := by
  have hd : S.dirE (D : Int) false = 0 := by
    unfold BS.dirE BS.isI
    rw [at_nat, if_neg (by simp only [decide_eq_false_iff_not, Decidable.not_not]; exact ⟨by omega, by omega, by rw [hk]; decide⟩), if_neg (by rw [hk]; decide), if_neg (fun e => by cases e.1)]
  rw [get_eq hd, hg]
theorem dirE_yes {S : BS} {D : Nat} (h1 : 1 ≤ D) (h2 : D ≤ 200) (hk : (S.ino D).kind = 2) (hl : (S.ino D).links ≠ 0) : S.dirE (D : Int) true = 0 := by
  unfold BS.dirE BS.isI
  rw [at_nat, if_neg (by simp only [decide_eq_false_iff_not, Decidable.not_not]; exact ⟨by omega, by omega, by rw [hk]; decide⟩), if_neg (by rw [hk]; decide), if_neg (fun e => hl e.2)]
theorem nameE_yes {s : ByteArray} (h : nerr s.data.toList = 0 ∧ dotB s = false) : nameE s = 0 := by
  unfold nameE
  rw [if_neg (fun e => by rw [h.2] at e; cases e.2)]
  exact h.1
/-- What a name that was moved leads to, and that it may be moved back. -/
theorem move_back {S : BS} {room D T I : Nat} (hG : br.Good S room) {s u : ByteArray} (hl : (S.ino D).links ≠ 0) (t1 : 1 ≤ T) (t2 : T ≤ 200) (tk : (S.ino T).kind = 2) (tl : (S.ino T).links ≠ 0)
    (hg : lget s (S.ino D).dir = some (I : Int)) (hu : lget u (S.ino T).dir = none) (hID : I ≠ D) (hIT : I ≠ T) : (S.move D s T u I).get T u = ((I : Int), 0) ∧ (S.move D s T u I).rename T u D s = (0, S) := by
  obtain ⟨hk, ⟨d1, d2⟩, I', hI', i1, i2, i3, i4, i5⟩ := hG.1.lead hg
  obtain rfl : I = I' := by omega
  have d := move_moved (S := S) s u hID hIT
  generalize hS : S.move D s T u I = S2 at *
  have hmem := (lget_some (hG.1.sorted D)).1 hg
  have hDk : (S2.ino D).kind = 2 := by rw [d.kind]; exact hk
  have hTk : (S2.ino T).kind = 2 := by rw [d.kind]; exact tk
  have hDl : (S2.ino D).links ≠ 0 := by rw [d.links]; exact hl
  have hTl : (S2.ino T).links ≠ 0 := by rw [d.links]; exact tl
  have gT : lget u (S2.ino T).dir = some (I : Int) := by rw [d.dir, if_pos rfl]; exact lget_lset (half_sorted hG.1 T)
  have gD : lget s (S2.ino D).dir = none := by
    rw [d.dir]
    by_cases e : D = T
    · subst e
      have hsu : s ≠ u := fun e => by subst e; rw [hg] at hu; cases hu
      rw [if_pos rfl, lget_lset_other (half_sorted hG.1 D) hsu]
      unfold halfD
      rw [if_pos rfl]; exact lget_gone s _
    · rw [if_neg e]
      unfold halfD
      rw [if_pos rfl]; exact lget_gone s _
  have hpar : (S.ino I).kind = 2 → (S.ino I).parent = (D : Int) := fun e => by
    have := hG.1.up D _ hmem (by show (S.ino ((I : Int)).toNat).kind = 2; rw [Int.toNat_natCast]; exact e)
    have h2 : (S.ino ((I : Int)).toNat).parent = (D : Int) := this
    rwa [Int.toNat_natCast] at h2
  have hb : ¬ ((S2.ino I).kind = 2 ∧ S2.below (D : Int) I 300 = true) := by
    rintro ⟨e1, e2⟩
    rw [d.kind] at e1
    rw [below_moved d i1] at e2
    obtain ⟨deep, hdp⟩ := hG.2
    have hr := hG.1.root.2.2
    rcases below_deep hdp hr 300 D hk hl e2 with e3 | e3
    · exact hID e3.symm
    · obtain ⟨p, hp, _, _, hlt⟩ := hdp I e1 (by omega) i3
      have := hpar e1
      obtain rfl : p = D := by omega
      omega
  refine ⟨get_of t1 t2 hTk gT, ?_⟩
  have hne := nameE_yes ⟨(hG.1.good D _ hmem).1, (hG.1.good D _ hmem).2.1⟩
  unfold BS.rename
  rw [get_of t1 t2 hTk gT, if_neg (by rw [dirE_yes t1 t2 hTk hTl]; decide), if_neg (show ¬ ((0 : Int) ≠ 0) by decide), if_neg (by rw [dirE_yes d1 d2 hDk hDl]; decide), if_neg (by rw [hne]; decide)]
  dsimp only
  rw [at_nat S2 I, at_nat S2 D, if_neg hb, gD]
  dsimp only
  rw [moved_back hG.1 hg hu d (move_moved (S := S2) u s hIT hID) hpar]
theorem moves_of {S : BS} {room : Nat} (hG : br.Good S room) {d t : Int} {s u : ByteArray} (h : (S.rename d s t u).1 = 0) :
    ∃ i : Int, S.get d s = (i, 0) ∧ (S.rename d s t u).2.get t u = (i, 0) ∧
      ((S.get t u = (i, 0) ∧ (S.rename d s t u).2 = S) ∨ (∃ old, S.get t u = (old, 0) ∧ old ≠ i ∧ ((S.rename d s t u).2.get d s).2 = 2) ∨ ((S.get t u).2 ≠ 0 ∧ (S.rename d s t u).2.rename t u d s = (0, S))) := by
  by_cases e1 : S.dirE d true = 0
  case neg => exfalso; unfold BS.rename at h; rw [if_pos e1] at h; exact e1 h
  by_cases e2 : (S.get d s).2 = 0
  case neg => exfalso; unfold BS.rename at h; rw [if_neg (by simpa using e1), if_pos e2] at h; exact e2 h
  by_cases e3 : S.dirE t true = 0
  case neg => exfalso; unfold BS.rename at h; rw [if_neg (by simpa using e1), if_neg (by simpa using e2), if_pos e3] at h; exact e3 h
  by_cases e4 : nameE u = 0
  case neg => exfalso; unfold BS.rename at h; rw [if_neg (by simpa using e1), if_neg (by simpa using e2), if_neg (by simpa using e3), if_pos e4] at h; exact e4 h
  obtain ⟨D, rfl, h1, h2, hk, hg⟩ := get_ok e2
  obtain ⟨T, rfl, t1, t2, tk, tl⟩ := dirE_ok e3
  obtain ⟨D', hD', _, _, _, hl⟩ := dirE_ok e1
  obtain rfl : D = D' := by omega
  have tl := tl rfl
  have hl := hl rfl
  have hs := nameE_ok e4
  have hget : S.get (D : Int) s = ((S.get (D : Int) s).1, 0) := by rw [← e2]
  clear e2
  generalize (S.get (D : Int) s).1 = v at *
  obtain ⟨_, _, I, rfl, i1, i2, i3, i4, i5⟩ := hG.1.lead hg
  have hID : I ≠ D := fun e => by subst e; exact hG.1.own hG.2 hg
  have hR : S.rename (D : Int) s (T : Int) u = (if (S.ino I).kind = 2 ∧ S.below (T : Int) I 300 = true then ((22 : Int), S)
      else match lget u (S.ino T).dir with
        | none => ((0 : Int), S.move D s T u I)
        | some old =>
          if old = (I : Int) then ((0 : Int), S)
          else if (S.at old).kind = 2 ∧ (S.ino I).kind ≠ 2 then ((21 : Int), S)
          else if (S.at old).kind ≠ 2 ∧ (S.ino I).kind = 2 then ((20 : Int), S)
          else if (S.at old).kind = 2 ∧ (S.at old).dir ≠ [] then ((39 : Int), S)
          else ((0 : Int), (S.drop T u old).move D s T u I)) := by
    unfold BS.rename
    rw [hget, if_neg (by simpa using e1), if_neg (show ¬ ((0 : Int) ≠ 0) by decide), if_neg (by simpa using e3), if_neg (by simpa using e4)]
    dsimp only
    rw [at_nat S I, at_nat S T]
    rfl
  by_cases e5 : (S.ino I).kind = 2 ∧ S.below (T : Int) I 300 = true
  · rw [if_pos e5] at hR; rw [hR] at h; cases h
  rw [if_neg e5] at hR
  have hIT : I ≠ T := fun e => by
    subst e
    exact e5 ⟨tk, below_self⟩
  refine ⟨(I : Int), hget, ?_⟩
  cases hT : lget u (S.ino T).dir with
  | none =>
    rw [hT] at hR
    dsimp only at hR
    rw [hR]
    have hm := move_back hG hl t1 t2 tk tl hg hT hID hIT
    refine ⟨hm.1, .inr (.inr ⟨?_, hm.2⟩)⟩
    rw [get_no t1 t2 tk hT]; decide
  | some old =>
    rw [hT] at hR
    dsimp only at hR
    by_cases e6 : old = (I : Int)
    · rw [if_pos e6] at hR
      rw [hR]
      have := get_of t1 t2 tk hT
      rw [e6] at this
      exact ⟨this, .inl ⟨this, rfl⟩⟩
    · rw [if_neg e6] at hR
      by_cases e7 : (S.at old).kind = 2 ∧ (S.ino I).kind ≠ 2
      · rw [if_pos e7] at hR; rw [hR] at h; cases h
      rw [if_neg e7] at hR
      by_cases e8 : (S.at old).kind ≠ 2 ∧ (S.ino I).kind = 2
      · rw [if_pos e8] at hR; rw [hR] at h; cases h
      rw [if_neg e8] at hR
      by_cases e9 : (S.at old).kind = 2 ∧ (S.at old).dir ≠ []
      · rw [if_pos e9] at hR; rw [hR] at h; cases h
      rw [if_neg e9] at hR
      rw [hR]
      have hd : (S.at old).kind = 2 → (S.at old).dir = [] := fun x => by
        by_cases y : (S.at old).dir = []
        · exact y
        · exact absurd ⟨x, y⟩ e9
      obtain ⟨hgood, J, rfl, hJ, dd⟩ := hG.drop hT hd
      rw [at_nat] at hd
      have hdJ : (S.ino J).dir = [] := by
        by_cases e : (S.ino J).kind = 2
        · exact hd e
        · exact hG.1.noDir J e
      have hJD : J ≠ D := fun e => by subst e; rw [hdJ] at hg; cases hg
      have hsu : D = T → s ≠ u := fun e1 e => by subst e1; subst e; rw [hg] at hT; exact e6 (by injection hT with x; exact x.symm)
      have hdirs := dd.dirs hJ hdJ
      have hS1 : (S.drop (T : Int) u J).ino D = { S.ino D with dir := if D = T then ldel u (S.ino T).dir else (S.ino D).dir } := by
        by_cases e : D = T
        · subst e; rw [if_pos rfl]; exact dd.dir
        · rw [if_neg e, dd.oth D e (fun e => hJD e.symm)]
      have dm := move_moved (S := S.drop (T : Int) u J) s u hID hIT
      have hT0 : (S.drop (T : Int) u J).ino T = { S.ino T with dir := ldel u (S.ino T).dir } := dd.dir
      have hso := half_sorted (D := D) (s := s) hgood.1 T
      generalize S.drop (T : Int) u J = S1 at *
      generalize S1.move D s T u I = S2 at *
      have hTk : (S2.ino T).kind = 2 := by rw [dm.kind, hT0]; exact tk
      have hDk : (S2.ino D).kind = 2 := by rw [dm.kind, hS1]; exact hk
      have gT : lget u (S2.ino T).dir = some (I : Int) := by rw [dm.dir, if_pos rfl]; exact lget_lset hso
      have gD : lget s (S2.ino D).dir = none := by
        rw [dm.dir]
        by_cases e : D = T
        · have hn := hsu e
          subst e
          rw [if_pos rfl, lget_lset_other hso hn]
          unfold halfD
          rw [if_pos rfl]; exact lget_gone s _
        · rw [if_neg e]
          unfold halfD
          rw [if_pos rfl]; exact lget_gone s _
      refine ⟨get_of t1 t2 hTk gT, .inr (.inl ⟨(J : Int), get_of t1 t2 tk hT, e6, ?_⟩)⟩
      rw [get_no h1 h2 hDk gD]
end Go.Proofs.YtlelnpckbcpkkaaGreat.cb
