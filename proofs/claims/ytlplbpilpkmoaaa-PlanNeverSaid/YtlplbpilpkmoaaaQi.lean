/- Own rows of numbers; rows of wants that are their own order. -/
import Derived.Test.YtlplbpilpkmoaaaQz
namespace Go.Proofs.Ytlplbpilpkmoaaa.pl
open Go.RowKit
set_option linter.unusedVariables false
set_option linter.unusedSimpArgs false

def encI (xs : List Int) : List Value := xs.map (Value.int .i64)
theorem encI_len (xs : List Int) : (encI xs).length = xs.length := by simp [encI]
theorem encI_app (a b : List Int) : encI (a ++ b) = encI a ++ encI b := by simp [encI]
def OI (w : World) (lo : Nat) (v : Value) (xs : List Int) : Prop := w.ownsRow lo 3 1 v xs.length (encI xs)
section
variable {w w' : World} {lo : Nat} {v : Value} {xs : List Int}
theorem OI.form (h : OI w lo v xs) : ∃ A c, v = .slice A xs.length c := by
  rcases h.2 with ⟨h1, h2⟩ | ⟨g, c, cur, h1, _⟩
  · exact ⟨none, 0, by rw [h1, h2]⟩
  · exact ⟨_, c, h1⟩
theorem OI.olt (h : OI w lo v xs) {g : Nat} (e : v.ownBlock = some g) : lo ≤ g ∧ g < w.heap.size := by unfold OI at h; exact h.lt g e
theorem OI.keep (h : OI w lo v xs) (hb : ∀ g, v.ownBlock = some g → w'.heap[g]? = w.heap[g]?) : OI w' lo v xs := by
  unfold OI at h ⊢
  refine ⟨h.1, h.2.imp id fun ⟨g, c, cur, h1, h2, h3, r⟩ => ⟨g, c, cur, h1, h2, (hb g (by rw [h1]; rfl)).trans h3, r⟩⟩
theorem OI.below (h : OI w lo v xs) (hb : Below w.heap.size w w') : OI w' lo v xs := h.keep fun g e => hb.block g (h.olt e).2
theorem OI.ivs {A : Option Addr} {n c : Nat} (h : OI w lo (.slice A n c) xs) : Ivs w w.heap.size A xs := fun i hi => by
  rcases h.2 with ⟨h1, h2⟩ | ⟨g, c', cur, h1, hb2, h3, _⟩
  · omega
  · have hn : n = xs.length := by injection h1
    subst hn
    injection h1 with h1 h4 h5
    subst h1; subst h5
    unfold OI at h
    refine ⟨g, 0, rfl, (Array.getElem?_eq_some_iff.1 h3).1, ?_⟩
    rw [Nat.zero_add, h.cellAt i (by omega), encI, List.getElem?_map, List.getElem?_eq_getElem hi]
    simp [List.getD, List.getElem?_eq_getElem hi]
theorem OI.cap {A : Option Addr} {n c : Nat} (h : OI w lo (.slice A n c) xs) : n ≤ c := by
  rcases h.2 with ⟨h1, h2⟩ | ⟨g, c', cur, h1, hb2, h3, h4, _⟩
  · injection h1 with a b d; omega
  · injection h1 with a b d; omega
end
theorem info_i : (Try.prog.info? 3).map (fun i => (i.zero, i.size, i.bytes)) = some (some (.int .i64 0), 1, 8) := by kernel_rfl
/-- What rises, each number once, is its own order. -/
theorem ord_of_rise {l : List Wt} (h : l.Pairwise wlt) (hn : l.Pairwise fun x y => x.n ≠ y.n) : IsOrd l l := by
  have hone : ∀ x ∈ l, ∀ y ∈ l, x.n = y.n → x = y := fun x hx y hy e => by
    obtain ⟨i, hi, rfl⟩ := List.getElem_of_mem hx
    obtain ⟨j, hj, rfl⟩ := List.getElem_of_mem hy
    have hp := List.pairwise_iff_getElem.1 hn
    rcases Nat.lt_trichotomy i j with h1 | h1 | h1
    · exact absurd e (hp i j hi hj h1)
    · subst h1; rfl
    · exact absurd e.symm (hp j i hj hi h1)
  refine ⟨⟨fun y hy => ⟨y, hy, rfl⟩, fun x hx => ⟨x, hx, rfl, rfl⟩, fun x hx y hy e => ?_, fun x hx => ⟨fun e => ⟨x, hx, rfl, e⟩, fun ⟨y, hy, e, hw⟩ => ?_⟩⟩, h⟩
  · rw [hone y hy x hx e]; exact Int.le_refl _
  · rw [← hone y hy x hx e]; exact hw
theorem dirs_ord (c : Cx) (at_ : List Int) (file : Int) (hn : ∀ i j, i < j → j < at_.length → at_.getD i 0 ≠ at_.getD j 0) (hf : ∀ i, i < at_.length → at_.getD i 0 ≠ file) : IsOrd (wantsL c at_ file) (wantsL c at_ file) := by
  have h1 : (dirs c at_ at_.length).Pairwise wlt := List.pairwise_iff_getElem.2 fun i j hi hj hij => by
    simp only [dirs, List.getElem_map, List.getElem_range]
    unfold wlt dirW; dsimp only; omega
  have h2 : (dirs c at_ at_.length).Pairwise fun x y => x.n ≠ y.n := List.pairwise_iff_getElem.2 fun i j hi hj hij => by
    rw [dirs_len] at hi hj
    simp only [dirs, List.getElem_map, List.getElem_range]
    unfold dirW; dsimp only
    exact hn i j hij hj
  unfold wantsL
  split
  · refine ord_of_rise (List.pairwise_append.2 ⟨h1, by simp, fun x hx y hy => ?_⟩) (List.pairwise_append.2 ⟨h2, by simp, fun x hx y hy => ?_⟩)
    · rw [List.mem_singleton.1 hy]
      obtain ⟨i, hi, rfl⟩ := List.mem_map.1 hx
      have := List.mem_range.1 hi
      unfold wlt dirW; dsimp only; omega
    · rw [List.mem_singleton.1 hy]
      obtain ⟨i, hi, rfl⟩ := List.mem_map.1 hx
      exact hf i (List.mem_range.1 hi)
  · rw [List.append_nil]
    exact ord_of_rise h1 h2
theorem wants_own {w : World} {c : Cx} {lo : Nat} {v : Value} {at_ : List Int} {file : Int} (h : OI w lo v at_) (ha : ∀ a ∈ at_, sc.Wf a) (hf : sc.Wf file) (l1 : at_.length ≤ 1000) :
    Calls Try.prog 18 #[c.v, v, .int .i64 file] w (OrdE w (wantsL c at_ file)) := by
  obtain ⟨A, d, rfl⟩ := h.form
  exact wants_any h.ivs ha hf l1
end Go.Proofs.Ytlplbpilpkmoaaa.pl
