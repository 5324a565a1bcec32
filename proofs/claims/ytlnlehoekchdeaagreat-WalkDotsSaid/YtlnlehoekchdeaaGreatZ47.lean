/- A path that came in, opened: its names read as a list, below the heap's first end. -/
import Derived.Test.YtlnlehoekchdeaaGreatZ45
import Derived.ProofKit
import Derived.SliceStrings
import Derived.Lib.SmallJoins
import Derived.OpenShut
section
namespace Go.Proofs.YtlnlehoekchdeaaGreat.cb
open Go.ChangeShapes Go.WideShapes Go.ChangeAt Go.RowKit
open Go.Proofs.YtlnlehoekchdeaaGreat.pa (Bs Sv Strs addr_block)

theorem pcells9 : Tryz.prog.cellsOf 9 = 1 := by kernel_rfl
theorem pcells25 : Tryz.prog.cellsOf 25 = 2 := by kernel_rfl

set_option maxRecDepth 100000 in
theorem open_path {H : Type} {enc : TypeId × Value → H} {W : World} {r : Reach} {b0 : Nat} {sp : Nat → Bool} {held : Bool} {v : Value} {d : DataW H} {p : List MemPlace}
    (hv : Value.okWide Tryz.prog W r b0 25 v) (h : DataW.Trod enc Tryz.prog W 0 sp held 25 v d p) :
    ∃ A n c dd xs, v = .agg #[.slice A n c, .bool dd] ∧ n = List.length xs ∧ (n ≤ c ∧ c ≤ maxLen) ∧ Strs W W.heap.size A xs := by
  obtain ⟨v0, v1, y0, y1, m, rfl, _, _, h0, h1⟩ := Go.Joins.open_agg2 Tryz.underlying25 (by kernel_rfl) pcells25 hv h
  obtain ⟨dd, e1, _⟩ := DataW.trod_bool Tryz.underlying4 h1
  injection e1 with e1
  subst e1
  rcases open_strings Tryz.underlying23 Tryz.underlying9 pcells9 h0 with ⟨e0, _⟩ | ⟨a, len, cap, ss, e0, _, hl, hm, hz, _, hcell, _⟩
  · injection e0 with e0
    subst e0
    exact ⟨none, 0, 0, dd, [], rfl, rfl, ⟨Nat.le_refl _, by unfold maxLen; omega⟩, pa.Strs.nil _ _ _⟩
  · injection e0 with e0
    subst e0
    have hlen : len ≤ ss.length := by rw [hz]; split <;> omega
    refine ⟨some a, len, cap, dd, (ss.take len).map (·.data.toList), rfl, by rw [List.length_map, List.length_take]; omega, ⟨hl, hm⟩, ?_⟩
    intro hn
    have hcc : ∀ (j : Nat) x, ((ss.take len).map (·.data.toList))[j]? = some x → W.cell? (a.add j) = some (Sv x) := by
      intro j x hx
      rw [List.getElem?_map, Option.map_eq_some_iff] at hx
      obtain ⟨s, hs, rfl⟩ := hx
      have hj := (List.getElem?_eq_some_iff.1 hs).1
      rw [List.length_take] at hj
      rw [List.getElem?_take_of_lt (by omega)] at hs
      rw [hcell j (by omega), List.getD_eq_getElem?_getD, hs]
      simp
    have h00 := hcc 0 _ (List.getElem?_eq_getElem hn)
    refine ⟨a, rfl, ?_, hcc⟩
    have := World.block_lt_of_cell? W _ h00
    rw [addr_block] at this
    exact this

set_option maxRecDepth 100000 in
/-- A path that came in reads as it did, in any later world that is the same below the heap's first end. -/
theorem path_stays {H : Type} {enc : TypeId × Value → H} {W W' : World} {v : Value} {d : DataW H} {ps before : List MemPlace} {sp : Nat → Bool}
    (h : DataW.Trod enc Tryz.prog W 0 (fun _ => true) true 25 v d ps) (hb : Below W.heap.size W W') (hsub : ∀ x ∈ ps, x ∈ before) (hlt : ∀ x ∈ before, x.block < W.heap.size) (hsp : ∀ x ∈ before, sp x.block = true) (hlaid : laidOutB Tryz.prog = true) :
    DataW.Trod enc Tryz.prog W' 0 sp true 25 v d ps :=
  WideElems.Trod_stays hlaid (by kernel_rfl) (of_decide_eq_true (by kernel_rfl)) h (fun x hx => hb.same (hlt x (hsub x hx))) (fun x hx => hsp x (hsub x hx))
end Go.Proofs.YtlnlehoekchdeaaGreat.cb
end
