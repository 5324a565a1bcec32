/- Acts and keys that came in, opened, each number in its range; two queues and a map beside them. -/
import Derived.Test.YtadkhnenklkbmaaOpen
import Derived.Test.YtadkhnenklkbmaaMap
namespace Go.Proofs.Ytadkhnenklkbmaa
open Go.ChangeShapes Go.WideShapes Go.ChangeAt Go.RowKit
set_option linter.unusedVariables false

theorem open_keys2 {H : Type} {enc : TypeId × Value → H} {W : World} {r : Reach} {b0 : Nat} {sp : Nat → Bool} {held : Bool} {v : Value} {d : DataW H} {p : List MemPlace}
    (hv : Value.okWide Try.prog W r b0 39 v) (h : DataW.Trod enc Try.prog W 0 sp held 39 v d p) :
    ∃ A n c F, v = .slice A n c ∧ (n ≤ c ∧ c ≤ maxLen) ∧ (Keys W W.heap.size A n F ∧ ∀ i, i < n → Wf (F i)) := by
  obtain ⟨fuel, hf⟩ := h
  have hcells : v.cells.toList = [v] := by
    obtain ⟨A, n, c, rfl⟩ := okWide_slice Try.underlying39 hv
    rfl
  rw [hcells] at hf
  rcases open_ints Try.underlying39 Try.underlying2 cells2 hf with ⟨e, _⟩ | ⟨a, len, cap, zs, e, _, hl, hm, hz, _, hc, hw⟩
  · injection e with e
    subst e
    exact ⟨none, 0, 0, fun _ => 0, rfl, ⟨Nat.le_refl _, by unfold maxLen; omega⟩, fun i hi => absurd hi (Nat.not_lt_zero _), fun i hi => absurd hi (Nat.not_lt_zero _)⟩
  · injection e with e
    subst e
    have hlz : len ≤ zs.length := by rw [hz]; split <;> omega
    refine ⟨some a, len, cap, fun i => zs.getD i 0, rfl, ⟨hl, hm⟩, fun i hi => ?_, fun i hi => ?_⟩
    · obtain ⟨b, off, rfl, hb⟩ := spot_none (hc 0 (by omega))
      have := hc i (by omega)
      rw [Go.WideShapes.add_plain] at this
      exact ⟨b, off, rfl, hb, this⟩
    · have hi' : i < zs.length := by omega
      show Wf (zs.getD i 0)
      rw [List.getD_eq_getElem?_getD, List.getElem?_eq_getElem hi', Option.getD_some]
      exact hw _ (List.getElem_mem hi')

theorem fr_grown {w w' : World} {M : Nat} (h : w.grownBy w' (some M)) : Fr w w' M none := ⟨h.os, h.tape, h.output, h.size, fun k hk hM _ => h.block k hk (fun e => hM (by injection e))⟩
/-- Two queues, while a map of the call's own is written. -/
theorem Two.grown {w wr w' : World} {Q P T M : Nat} {X : Nat → Prop} {L K : List KN} (h : Two w wr Q P X L K T) (hg : wr.grownBy w' (some M)) (hM : X M) (hlo : w.heap.size ≤ M) : Two w w' Q P X L K T := by
  obtain ⟨oq, op, T1, T2, h1, h2, t1, t2, q1, q2, ne, s1, s2, s3, hX, hb⟩ := h
  obtain ⟨m1, m2, m3, m4, m5⟩ := hX M hM
  have hf := fr_grown hg
  exact ⟨oq, op, T1, T2, h1.other hf m2.symm (by simp) (fun G e => ⟨fun e2 => by subst e2; exact m4 e, by simp⟩), h2.other hf m3.symm (by simp) (fun G e => ⟨fun e2 => by subst e2; exact m5 e, by simp⟩), t1, t2, q1, q2, ne, s1, s2, s3,
    fun b hx => ⟨Nat.lt_of_lt_of_le (hX b hx).1 hg.size, (hX b hx).2⟩, hf.belowOf hb hb.size hlo (by simp)⟩

/-- The pairs of the first k keys, and how 'ins' lays them in order. -/
def prs (F : Nat → Int) (k : Nat) : List KN := (List.range k).map fun i => (F i, (i : Int))
theorem ins_perm (x : KN) (L : List KN) : (ins x L).Perm (x :: L) := by
  induction L with
  | nil => exact List.Perm.refl _
  | cons y l ih =>
    by_cases h : x.1 < y.1
    · rw [ins_lt h]
    · rw [ins_ge h]; exact (ih.cons y).trans (List.Perm.swap x y l)
theorem prs_succ (F : Nat → Int) (k : Nat) : prs F (k + 1) = prs F k ++ [(F k, (k : Int))] := by simp [prs, List.range_succ]
theorem prs_push {F : Nat → Int} {k : Nat} {L : List KN} (h : L.Perm (prs F k)) : (ins (F k, (k : Int)) L).Perm (prs F (k + 1)) := by
  rw [prs_succ]
  exact (ins_perm _ _).trans ((h.cons _).trans (List.perm_append_comm (l₁ := [_])))
/-- The same, from the last of N down. -/
def rprs (F : Nat → Int) (N k : Nat) : List KN := (List.range k).map fun i => (F (N - 1 - i), ((N - 1 - i : Nat) : Int))
theorem rprs_push {F : Nat → Int} {N k : Nat} {L : List KN} (h : L.Perm (rprs F N k)) : (ins (F (N - 1 - k), ((N - 1 - k : Nat) : Int)) L).Perm (rprs F N (k + 1)) := by
  have e : rprs F N (k + 1) = rprs F N k ++ [(F (N - 1 - k), ((N - 1 - k : Nat) : Int))] := by simp [rprs, List.range_succ]
  rw [e]
  exact (ins_perm _ _).trans ((h.cons _).trans (List.perm_append_comm (l₁ := [_])))
theorem rprs_all (F : Nat → Int) (N : Nat) : (rprs F N N).Perm (prs F N) := by
  have e : rprs F N N = (prs F N).reverse := by
    apply List.ext_getElem
    · simp [rprs, prs]
    · intro i h1 h2
      simp [rprs, prs] at h1 ⊢
  rw [e]
  exact List.reverse_perm _
theorem sorted_unique {L K : List KN} (hL : Sorted L) (hK : Sorted K) (hp : L.Perm K) (hd : L.Pairwise fun a b => a.1 ≠ b.1) : L = K := by
  induction L generalizing K with
  | nil => exact (List.Perm.nil_eq hp)
  | cons a l ih =>
    cases K with
    | nil => exact absurd hp.length_eq (by simp)
    | cons b m =>
      have h1 := List.pairwise_cons.1 hL
      have h2 := List.pairwise_cons.1 hK
      have h3 := List.pairwise_cons.1 hd
      have hab : a = b := by
        have ha : a ∈ b :: m := hp.mem_iff.1 (by simp)
        have hb : b ∈ a :: l := hp.mem_iff.2 (by simp)
        rcases List.mem_cons.1 hb with e | hb
        · exact e.symm
        · rcases List.mem_cons.1 ha with e | ha
          · exact e
          · have x1 := h1.1 b hb
            have x2 := h2.1 a ha
            exact absurd (Int.le_antisymm x1 x2) (h3.1 b hb)
      subst hab
      rw [ih h1.2 h2.2 hp.cons_inv h3.2]
theorem prs_distinct {F : Nat → Int} {N : Nat} (h : ∀ i j, i < j → j < N → F i ≠ F j) : (prs F N).Pairwise fun a b => a.1 ≠ b.1 := by
  unfold prs
  rw [List.pairwise_map]
  refine (List.pairwise_lt_range (n := N)).imp_of_mem fun {i j} hi hj hij => ?_
  exact h i j hij (List.mem_range.1 hj)
theorem prs_eq {F : Nat → Int} {N : Nat} {L K : List KN} (h : ∀ i j, i < j → j < N → F i ≠ F j) (hL : Sorted L) (hK : Sorted K) (pL : L.Perm (prs F N)) (pK : K.Perm (rprs F N N)) : L = K := by
  refine sorted_unique hL hK (pL.trans (pK.trans (rprs_all F N)).symm) ?_
  exact pL.symm.pairwise (prs_distinct h) (fun h => h.symm)
end Go.Proofs.Ytadkhnenklkbmaa
