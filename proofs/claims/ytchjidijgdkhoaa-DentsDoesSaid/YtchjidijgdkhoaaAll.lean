/- 'slices.Clone'; 'All' of a directory. -/
import Derived.Test.YtchjidijgdkhoaaDel
import Derived.Laws.Cover3
namespace Go.Proofs.Ytchjidijgdkhoaa
open Go.RowKit Go.Shelf
set_option linter.unusedVariables false

theorem run_eql_nil (w : World) (a : Option Addr) (l c : Nat) : (binOp .eql 27 (.slice a l c) (.slice none 0 0)).run Try.prog w = .ok (.bool a.isNone) w := by
  simp only [binOp]
  simp [run_equal_slice_nil w 27 37 a l c Try.underlying27]
/-- A row of the call's own that nobody else has. -/
def AllE (w : World) (L : List En) (e : Ending) (w' : World) : Prop := ∃ o c', e = .returned (.slice (Ao o) L.length c') ∧ L.length ≤ c' ∧ c' ≤ maxLen ∧ Sl w' w.heap.size o c' L ∧ Below w.heap.size w w'

theorem allE_app {w w' : World} {n g cap : Nat} {L : List En} {ob : Obj} (hn : n = L.length) (hown : w'.ownsRow w.heap.size 37 2 (.slice (some ⟨g, 0, none⟩) (0 + n) cap) (0 + n) ([] ++ encL L))
    (hgr : (w.alloc ob).grownBy w' (Value.slice (some ⟨w.heap.size, 0, none⟩) 0 0).ownBlock) : AllE w L (.returned (.slice (some ⟨g, 0, none⟩) (0 + n) cap)) w' := by
  rw [Nat.zero_add, List.nil_append] at hown
  obtain ⟨h1, h2⟩ := ERow.of_owns hown hn
  refine ⟨some g, cap, by rw [Nat.zero_add, hn]; rfl, h1.1, h1.2.1, ⟨h2, h1⟩, ?_⟩
  have hb := below_alloc w ob
  exact ⟨hgr.os.trans hb.os, hgr.tape.trans hb.tape, hgr.output.trans hb.output, Nat.le_trans hb.size hgr.size, fun k hk => (hgr.block k (Nat.lt_of_lt_of_le hk hb.size) (fun e => by simp [Value.ownBlock] at e; omega)).trans (hb.block k hk)⟩

set_option maxHeartbeats 4000000 in
theorem clone_any (c lo : Nat) (o : Option Nat) (L : List En) (w : World) (hN : L.length ≤ 1000000) (h : Sl w lo o c L) :
    Calls Try.prog 31 #[.slice (Ao o) L.length c] w (AllE w L) := by
  obtain ⟨i0, hi, hz0, hz1, hz2⟩ := info_parts info37
  have hq27 := run_eql_nil
  cases o with
  | none =>
    obtain ⟨rfl, rfl⟩ := h
    have HF := Lib.hid (show AllE w [] (.returned (.slice none 0 0)) w from ⟨none, 0, rfl, Nat.le_refl _, by unfold maxLen; omega, ⟨rfl, rfl⟩, Below.refl _ _⟩)
    clear hi hz0 hz1 hz2
    go_enter Try.func31, Try.ntmps31
    go_wp2_with fail
    go_ret
    exact HF.out
  | some G =>
    obtain ⟨hlo, hr⟩ := h
    by_cases h0 : L = []
    · subst h0
      have HF := Lib.hid (fun ob (hob : ob = Obj.cells #[] 37 (0, 0)) => (show AllE w [] (.returned (.slice (some ⟨w.heap.size, 0, none⟩) 0 0)) (w.alloc ob) from ⟨some w.heap.size, 0, rfl, Nat.le_refl _, by unfold maxLen; omega, ⟨Nat.le_refl _, ⟨Nat.le_refl _, by unfold maxLen; omega, [], by subst hob; exact heap_alloc_new w _, rfl, rfl⟩⟩, below_alloc _ _⟩))
      go_enter Try.func31, Try.ntmps31
      go_wp2_with fail
      go_ret
      exact HF.out _ rfl
    · have hpos : 0 < L.length := List.length_pos_iff.2 h0
      have hGw := hr.lt
      have HO := Lib.hid (show (w.alloc (.cells #[] 37)).ownsRow w.heap.size 37 2 (.slice (some ⟨w.heap.size, 0, none⟩) 0 0) 0 [] from ⟨rfl, .inr ⟨w.heap.size, 0, #[], rfl, Nat.le_refl _, heap_alloc_new w _, Nat.le_refl _, by unfold maxLen; omega, rfl, rfl⟩⟩)
      have HX := Lib.hid (fun ob => (show ∀ j u, (encL L)[j]? = some u → (w.alloc ob).cell? ((⟨G, 0, none⟩ : Addr).add j) = some u from fun j u hj => by
        rw [Addr.add_lit, Nat.zero_add, (below_alloc w ob).cell (p := ⟨G, j, none⟩) hGw]; exact hr.cells hj))
      have HF := Lib.hid (fun w' g cap ob a b => allE_app (w := w) (w' := w') (g := g) (cap := cap) (ob := ob) (L := L) rfl a b)
      have HL := Lib.hid (encL_length L)
      have H1 := Lib.hid (encL_one L)
      generalize hn : L.length = n at *
      generalize encL L = cl at *
      have HN := Lib.hid hn
      clear hn hr h0
      go_enter Try.func31, Try.ntmps31
      go_wp2_with (at_builtin; refine wpList_append_lies _ (by rfl) _ _ _ (by rfl) w.heap.size 37 i0 _ 2 24 Try.underlying27 hi hz0 hz1 hz2 (by rfl) (by decide) _ _ [] (by rfl) HO.out ⟨G, 0, none⟩ n c cl (by rfl) HL.out (HX.out _) H1.out (by omega) (by unfold maxLen; omega) (by omega) (by simp) _ rfl ?_; intro gg cap w3 hown1 hgrow hat hlt3)
      go_ret
      first | exact HF.out _ _ _ _ hown1 hgrow | (rw [Nat.zero_add] at *; exact HF.out _ _ _ _ hown1 hgrow)

set_option maxHeartbeats 1000000 in
theorem all_any (D lo c : Nat) (o : Option Nat) (L : List En) (w : World) (hN : L.length ≤ 1000000) (h : Du w D lo o c L) :
    Calls Try.prog 20 #[Pq D] w (AllE w L) := by
  have HC := Lib.hid (clone_any c lo o L w hN h.sl)
  have d0 := h.d0
  generalize L.length = n at *
  clear h
  go_enter Try.func20, Try.ntmps20
  go_wp2_with fail
  refine HC.out.mono ?_
  intro e w2 hE
  obtain ⟨o2, c2, rfl, h2⟩ := id hE
  have HE := Lib.hid hE
  clear hE h2
  go_wp2_with fail
  go_ret
  exact HE.out
end Go.Proofs.Ytchjidijgdkhoaa
