/- How many inodes and chunks lines make; mathematics. -/
import Derived.Test.YtnnaoldpacbagaaGreatZ30
section
namespace Go.Proofs.YtnnaoldpacbagaaGreat.fl
open Go.RowKit
open Go.Proofs.YtnnaoldpacbagaaGreat.br (BS Ino Inv abE sumF fresh upd)
open Go.Proofs.YtnnaoldpacbagaaGreat.cb (MadeI)
open Go.Proofs.YtnnaoldpacbagaaGreat.bl (wr)
set_option linter.unusedVariables false
set_option linter.unusedSimpArgs false

theorem count_kinds {S S' : BS} (h : ∀ k, (S'.ino k).kind = (S.ino k).kind) (n : Nat) : S'.count n = S.count n := by
  unfold BS.count
  exact br.sumF_congr fun k _ _ => by rw [h k]
theorem count_made {S S2 : BS} {D n : Nat} {s : ByteArray} {kind : Int} (h : MadeI S S2 D n s kind) (hk : kind ≠ 0) : S2.count 200 = S.count 200 + 1 := by
  have h1 := br.count_put S n (S2.ino n) S.used h.n1 h.n2
  rw [if_neg (by rw [h.hz]; simp), if_pos (by rw [h.eN.1]; exact hk)] at h1
  rw [← h1, Nat.add_zero]
  refine count_kinds (fun k => ?_) 200
  show _ = (upd S.ino n (S2.ino n) k).kind
  by_cases e : k = n
  · rw [e, br.upd_same]
  · rw [br.upd_other _ _ e]
    by_cases e2 : k = D
    · rw [e2, h.eD]
    · rw [h.oth k e2 e]
def ck (x : Ln) : Nat := if x.kind = 1 then nch x.data.size else 0
def cks (l : List Ln) : Nat := (l.map ck).sum
/-- What holds of a line that was put. -/
structure PutF (R : Nat) (S S1 : BS) (x : Ln) : Prop where
  good : br.Good S1 65536
  used : S1.used = S.used + ck x
  count : S1.count 200 = S.count 200 + 1
  yes : ∀ R', S1.used ≤ R' → putF R' S x = some S1
  no : ∀ R', ¬ S1.used ≤ R' → S.used ≤ R' → putF R' S x = none
theorem made_put {S : BS} {d k : Int} {s t : ByteArray} (hG : br.Good S 65536) (hk : k ≠ 0) (h : (S.make d s k t).1.2 = 0) :
    br.Good (S.make d s k t).2 65536 ∧ (S.make d s k t).2.used = S.used ∧ (S.make d s k t).2.count 200 = S.count 200 + 1 := by
  obtain ⟨D, n, _, _, hm, hb⟩ := cb.made_of hG h
  refine ⟨hG.make d s k t, ?_, count_made hm hk⟩
  rw [hm.us, hb, br.abE_n]; omega
theorem put_facts {R : Nat} {S S1 : BS} {x : Ln} (hG : br.Good S 65536) (hR : R ≤ 65536) (h : putF R S x = some S1) : PutF R S S1 x := by
  have h0 : ¬ (placeM S x.path).2 ≠ 0 := fun e => by unfold putF at h; rw [if_pos e] at h; cases h
  have hp : ∀ R', putF R' S x = if x.kind = 1 then fileF R' S (placeM S x.path).1.1 (placeM S x.path).1.2 x.data
      else if x.kind = 2 then makeF S (placeM S x.path).1.1 (placeM S x.path).1.2 2 ⟨#[]⟩
      else if x.kind = 3 then makeF S (placeM S x.path).1.1 (placeM S x.path).1.2 3 x.data else none := fun R' => by unfold putF; rw [if_neg h0]
  rw [hp R] at h
  generalize (placeM S x.path).1.1 = d at *
  generalize (placeM S x.path).1.2 = s at *
  by_cases h1 : x.kind = 1
  · rw [if_pos h1] at h
    have hck : ck x = nch x.data.size := if_pos h1
    unfold fileF at h
    by_cases hm : (S.make d s 1 ⟨#[]⟩).1.2 ≠ 0
    · rw [if_pos hm] at h; cases h
    have hm0 : (S.make d s 1 ⟨#[]⟩).1.2 = 0 := Classical.byContradiction hm
    rw [if_neg hm] at h
    obtain ⟨g1, g2, g3⟩ := made_put hG (by decide) hm0
    obtain ⟨D, n, _, hn, hmi, hb⟩ := cb.made_of hG hm0
    by_cases hs : x.data.size ≤ 65536 ∧ (S.make d s 1 ⟨#[]⟩).2.used + nch x.data.size ≤ R
    case neg => rw [if_neg hs] at h; cases h
    rw [if_pos hs] at h
    injection h with h
    have hwn : (wr abE 0 x.data.size (bF x.data)).n = nch x.data.size := wr_new_n hs.1
    have hat : (S.make d s 1 ⟨#[]⟩).2.at ((S.make d s 1 ⟨#[]⟩).1.1) = (S.make d s 1 ⟨#[]⟩).2.ino n := by rw [hn, br.at_nat]
    have hu : S1.used = S.used + nch x.data.size := by
      rw [← h]
      show (S.make d s 1 ⟨#[]⟩).2.used + (wr ((S.make d s 1 ⟨#[]⟩).2.at ((S.make d s 1 ⟨#[]⟩).1.1)).body 0 x.data.size (bF x.data)).n - ((S.make d s 1 ⟨#[]⟩).2.at ((S.make d s 1 ⟨#[]⟩).1.1)).body.n = _
      rw [hat, hb, hwn, br.abE_n, g2]; omega
    have he : S1 = ⟨upd (S.make d s 1 ⟨#[]⟩).2.ino n { (S.make d s 1 ⟨#[]⟩).2.ino n with body := wr abE 0 x.data.size (bF x.data) }, (S.make d s 1 ⟨#[]⟩).2.used + (wr abE 0 x.data.size (bF x.data)).n - ((S.make d s 1 ⟨#[]⟩).2.ino n).body.n⟩ := by
      rw [← h]
      unfold BS.wrote
      rw [hat, hn, Int.toNat_natCast, hb]
    have hok : (wr abE 0 x.data.size (bF x.data)).Ok := bl.wrB_ok br.abE_ok (by show (0 : Int).toNat + _ ≤ _; rw [show (0 : Int).toNat = 0 from rfl]; omega) _
    refine ⟨?_, by rw [hu, hck], ?_, fun R' hR' => ?_, fun R' hn' hu' => ?_⟩
    · rw [he]
      exact g1.turn (I := n) hmi.eN.1 hok (by rw [hwn, hb, br.abE_n]; omega)
    · rw [← g3]
      refine count_kinds (fun k => ?_) 200
      rw [he]
      show (upd _ n _ k).kind = _
      by_cases e : k = n
      · rw [e, br.upd_same]
      · rw [br.upd_other _ _ e]
    · rw [hp R', if_pos h1]
      unfold fileF
      rw [if_neg hm, if_pos ⟨hs.1, by rw [g2]; omega⟩, h]
    · rw [hp R', if_pos h1]
      unfold fileF
      rw [if_neg hm, if_neg (fun e => by have := e.2; rw [g2] at this; omega)]
  · rw [if_neg h1] at h
    have hck : ck x = 0 := if_neg h1
    have key : ∀ k t, k ≠ 0 → makeF S d s k t = some S1 → br.Good S1 65536 ∧ S1.used = S.used ∧ S1.count 200 = S.count 200 + 1 := fun k t hk hm => by
      unfold makeF at hm
      split at hm
      · cases hm
      · rename_i e
        injection hm with hm
        rw [← hm]
        exact made_put hG hk (Classical.byContradiction e)
    have fin : br.Good S1 65536 ∧ S1.used = S.used ∧ S1.count 200 = S.count 200 + 1 := by
      by_cases h2 : x.kind = 2
      · rw [if_pos h2] at h; exact key 2 _ (by decide) h
      · rw [if_neg h2] at h
        by_cases h3 : x.kind = 3
        · rw [if_pos h3] at h; exact key 3 _ (by decide) h
        · rw [if_neg h3] at h; cases h
    refine ⟨fin.1, by rw [fin.2.1, hck]; rfl, fin.2.2, fun R' _ => ?_, fun R' hn' hu' => absurd (by rw [fin.2.1]; exact hu') hn'⟩
    rw [hp R', if_neg h1]
    exact h
structure TreeF (S S1 : BS) (l : List Ln) : Prop where
  used : S1.used = S.used + cks l
  count : S1.count 200 = S.count 200 + l.length
  yes : ∀ R', S1.used ≤ R' → treeF R' S l = some S1
  no : ∀ R', ¬ S1.used ≤ R' → S.used ≤ R' → treeF R' S l = none
theorem tree_facts {R : Nat} (hR : R ≤ 65536) : ∀ {l : List Ln} {S S1 : BS}, br.Good S 65536 → treeF R S l = some S1 → TreeF S S1 l
  | [], S, S1, _, h => by
    injection h with h
    subst h
    exact ⟨(Nat.add_zero _).symm, (Nat.add_zero _).symm, fun _ _ => rfl, fun R' a b => absurd b a⟩
  | x :: l, S, S1, hG, h => by
    have h0 : (match putF R S x with | none => none | some S' => treeF R S' l) = some S1 := h
    cases hp : putF R S x with
    | none => rw [hp] at h0; cases h0
    | some S2 =>
      rw [hp] at h0
      have f1 := put_facts hG hR hp
      have f2 := tree_facts hR (l := l) f1.good h0
      have hc : cks (x :: l) = ck x + cks l := by unfold cks; rw [List.map_cons, List.sum_cons]
      refine ⟨by rw [f2.used, f1.used, hc]; omega, by rw [f2.count, f1.count, List.length_cons]; omega, fun R' hu => ?_, fun R' hn hu => ?_⟩
      · show (match putF R' S x with | none => none | some S' => treeF R' S' l) = some S1
        have := f2.used
        rw [f1.yes R' (by omega)]
        exact f2.yes R' hu
      · show (match putF R' S x with | none => none | some S' => treeF R' S' l) = none
        by_cases h2 : S2.used ≤ R'
        · rw [f1.yes R' h2]
          exact f2.no R' hn h2
        · rw [f1.no R' h2 hu]
theorem fresh_used : fresh.used = 0 := rfl
theorem fresh_count : fresh.count 200 = 1 := by decide +kernel
theorem cks_take {l : List Ln} {j : Nat} {x : Ln} (h : l[j]? = some x) : cks (l.take (j + 1)) = cks (l.take j) + ck x := by
  unfold cks
  rw [List.take_add_one, h, List.map_append, List.sum_append]
  simp
theorem cks_le (l : List Ln) (j : Nat) : cks (l.take j) ≤ cks l := by
  conv => rhs; rw [← List.take_append_drop j l]
  unfold cks
  rw [List.map_append, List.sum_append]; omega
end Go.Proofs.YtnnaoldpacbagaaGreat.fl
end
