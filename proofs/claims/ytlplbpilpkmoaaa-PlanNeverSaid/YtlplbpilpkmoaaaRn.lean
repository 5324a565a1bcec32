/- Rows of the call's own that numbers are counted in. -/
import Derived.Test.YtlplbpilpkmoaaaRi
import Derived.Laws.MakeOwn
import Derived.Test.YtlplbpilpkmoaaaMm
namespace Go.Proofs.Ytlplbpilpkmoaaa.sc
open Go.RowKit Go.Shelf
set_option linter.unusedVariables false
set_option linter.unusedSimpArgs false

/-- Block G is a row of n numbers. -/
def NRow (w : World) (G n : Nat) (f : Nat → Nat) : Prop := G < w.heap.size ∧ (∀ k, k < n → w.cell? ⟨G, k, none⟩ = some (.int .i64 (f k : Int))) ∧ ∀ j, w.frozen? ⟨G, j, none⟩ = false
theorem NRow.of_block {w w' : World} {G n : Nat} {f : Nat → Nat} (h : NRow w G n f) (hs : w.heap.size ≤ w'.heap.size) (hb : w'.heap[G]? = w.heap[G]?) : NRow w' G n f :=
  ⟨Nat.lt_of_lt_of_le h.1 hs, fun k hk => (World.cell?_of_block (a := ⟨G, k, none⟩) hb).trans (h.2.1 k hk), fun j => (World.frozen?_of_block (a := ⟨G, j, none⟩) hb).trans (h.2.2 j)⟩
theorem NRow.below {w w' : World} {G n : Nat} {f : Nat → Nat} (h : NRow w G n f) (hb : Below w.heap.size w w') : NRow w' G n f := h.of_block hb.size (hb.block G h.1)
theorem NRow.put {w : World} {G n : Nat} {f : Nat → Nat} (h : NRow w G n f) {t : Nat} (ht : t < n) (v : Nat) : NRow (w.setCell ⟨G, t, none⟩ (.int .i64 (v : Int))) G n (upn f t v) := by
  refine ⟨by simpa [World.setCell] using h.1, fun k hk => ?_, fun j => by simpa using h.2.2 j⟩
  by_cases e : k = t
  · subst e; rw [World.cell?_setCell_same _ _ _ (h.2.1 k hk), upn_self]
  · rw [World.cell?_setCell_other _ _ _ _ (off_ne (fun h2 => e h2.symm)), h.2.1 k hk, upn_ne e]
theorem NRow.other {w : World} {G n : Nat} {f : Nat → Nat} (h : NRow w G n f) {a : Addr} (ha : G ≠ a.block) (v : Value) : NRow (w.setCell a v) G n f :=
  h.of_block (by simp [World.setCell]) (Below.heap_setCell _ _ _ _ ha)
theorem info3 : (Try.prog.info? 3).map (fun i => (i.zero, i.size, i.bytes)) = some (some (.int .i64 0), 1, 8) := by kernel_rfl
/-- A new row of zeros. -/
theorem make_row (w : World) (n : Nat) (hn : n ≤ 64) : ∃ w1, (Instr.makeSlice 33 (.int .i64 (n : Int)) (.int .i64 (n : Int))).run Try.prog w = .ok (.slice (some ⟨w.heap.size, 0, none⟩) n n) w1 ∧ NRow w1 w.heap.size n (fun _ => 0) ∧ Below w.heap.size w w1 ∧ w1.heap.size = w.heap.size + 1 := by
  obtain ⟨i, hi, hz, hs, hby⟩ := info_parts info3
  have hr := run_make (P := Try.prog) w 33 3 i (.int .i64 0) Try.underlying33 hi hz .i64 .i64 n n (by omega) (Int.le_refl _) (by rw [hby]; omega) (by omega)
  simp only [Int.toNat_natCast, hs] at hr
  rw [Nat.mul_one] at hr
  have kr := heap_alloc_new w (.cells (madeCells (Value.int .i64 0).cells n) 3)
  obtain ⟨w1, hw1⟩ : ∃ w1, w.alloc (.cells (madeCells (Value.int .i64 0).cells n) 3) = w1 := ⟨_, rfl⟩
  have hsz : w1.heap.size = w.heap.size + 1 := by rw [← hw1]; simp
  have hbl : Below w.heap.size w w1 := by rw [← hw1]; exact below_alloc _ _
  rw [hw1] at hr kr
  refine ⟨w1, hr, ⟨by omega, fun k hk => ?_, fun j => ?_⟩, hbl, hsz⟩
  · have : (madeCells (Value.int .i64 0).cells n)[k]? = some (.int .i64 0) := by
      have e : (Value.int .i64 0).cells = #[Value.int .i64 0] := rfl
      rw [e]
      simp [madeCells, Array.getElem?_range, hk, Nat.mod_one]
    simp [World.cell?, kr, this]
  · simp [World.frozen?, kr]
theorem pick_in {s : Sd} {p m : Nat} (h : (s.at_ 0).length = m) (h0 : m ≠ 0) : ∃ t, s.pick (p : Int) = some t ∧ t ∈ s.at_ 0 := by
  refine ⟨_, pick_some h h0, ?_⟩
  have hlt : p % m < m := Nat.mod_lt _ (by omega)
  rw [List.getD_eq_getElem?_getD, List.getElem?_eq_getElem (by omega)]
  exact List.getElem_mem _
theorem stuck_not {s : Sd} (h : (s.at_ 0).length ≠ 0) : s.stuck = false := by unfold Sd.stuck; simp [h]
theorem stuck_free {s : Sd} (h : (s.at_ 1).length = 0) : s.stuck = false := by unfold Sd.stuck; simp [h]
theorem NRow.keep {w w' : World} {G n : Nat} {f : Nat → Nat} (h : NRow w G n f) (hl : G < w'.heap.size) (hb : w'.heap[G]? = w.heap[G]?) : NRow w' G n f :=
  ⟨hl, fun k hk => (World.cell?_of_block (a := ⟨G, k, none⟩) hb).trans (h.2.1 k hk), fun j => (World.frozen?_of_block (a := ⟨G, j, none⟩) hb).trans (h.2.2 j)⟩
theorem cost_val {s : Sd} {ax wx : Nat → Nat} {t : Nat} (h : s.T.st t ≠ 2) : cost s ax wx t = if ax t < 8 then 25 - 2 * ax t - (if wx t = 0 then 0 else 1) else 17 - ax t := by unfold cost; rw [if_neg h]
theorem SY.cell {w0 w : World} {P g t : Nat} {X : Nat → Prop} {s : Sd} (h : SY w0 w P X s) (hX : X g) (hlo : w0.heap.size ≤ g) (v : Value) : SY w0 (w.setCell ⟨g, t, none⟩ v) P X s :=
  h.turn (only_cell w ⟨g, t, none⟩ v) (fun b e => ⟨by rw [show b = g from e]; exact hX, by rw [show b = g from e]; exact hlo⟩)
section
variable {Lk : Nat → Nat → Bool} {n : Nat} {s : Sd} {ax wx : Nat → Nat} {t : Nat}
theorem cost_next (h : Nv Lk n s ax wx) (ht : t < n) (hw : wx t ≠ 0) (hst : s.T.st t = 0) : sumN n (cost s (upn ax t (ax t + 1)) (upn wx t 0)) + 1 ≤ sumN n (cost s ax wx) :=
  cost_step ht (fun x _ => ⟨.inl, fun h => h.elim id fun h2 => h2.1 ▸ h2.2⟩) (fun x hx => upn_ne hx) (fun x hx => upn_ne hx) (by
    have h1 := (h.c.wn t ht hw).2.1
    rw [cost_val (by omega), cost_val (by omega), upn_self, upn_self, if_pos h1, if_neg hw]
    by_cases h9 : ax t + 1 < 8
    · rw [if_pos h9, if_pos rfl]; omega
    · rw [if_neg h9]; omega)
theorem cost_skip (ht : t < n) (hw : wx t = 0) (hst : s.T.st t = 0) (h16 : ax t < 16) : sumN n (cost s (upn ax t (ax t + 1)) wx) + 1 ≤ sumN n (cost s ax wx) :=
  cost_step ht (fun x _ => ⟨.inl, fun h => h.elim id fun h2 => h2.1 ▸ h2.2⟩) (fun x hx => upn_ne hx) (fun x hx => rfl) (by
    rw [cost_val (by omega), cost_val (by omega), upn_self, if_pos hw]
    by_cases h8 : ax t < 8
    · rw [if_pos h8]
      by_cases h9 : ax t + 1 < 8
      · rw [if_pos h9]; omega
      · rw [if_neg h9]; omega
    · rw [if_neg h8, if_neg (show ¬ ax t + 1 < 8 by omega)]; omega)
theorem cost_got (h : Nv Lk n s ax wx) {l : Int} {b : Bool} (ht : t < n) (hw : wx t = 0) (hst : s.T.st t = 0) (h8 : ax t < 8) : sumN n (cost (s.lock (t : Int) l b).2.2 (upn ax t (ax t + 1)) wx) + 1 ≤ sumN n (cost s ax wx) :=
  cost_step ht (fun x _ => ⟨fun h2 => .inl ((lock_two h.good _ _ _ x).1 h2), fun h2 => h2.elim (fun h3 => (lock_two h.good _ _ _ x).2 h3) (fun h3 => h3.1 ▸ h3.2)⟩) (fun x hx => upn_ne hx) (fun x hx => rfl) (by
    rw [cost_val (fun h2 => by have := (lock_two h.good _ _ _ t).1 h2; omega), cost_val (by omega), upn_self, if_pos hw, if_pos h8]
    by_cases h9 : ax t + 1 < 8
    · rw [if_pos h9]; omega
    · rw [if_neg h9]; omega)
theorem cost_wait (h : Nv Lk n s ax wx) {l : Int} {b : Bool} (ht : t < n) (hw : wx t = 0) (hst : s.T.st t = 0) (h8 : ax t < 8) : sumN n (cost (s.lock (t : Int) l b).2.2 ax (upn wx t (ax t + 1))) + 1 ≤ sumN n (cost s ax wx) :=
  cost_step ht (fun x _ => ⟨fun h2 => .inl ((lock_two h.good _ _ _ x).1 h2), fun h2 => h2.elim (fun h3 => (lock_two h.good _ _ _ x).2 h3) (fun h3 => h3.1 ▸ h3.2)⟩) (fun x hx => rfl) (fun x hx => upn_ne hx) (by
    rw [cost_val (fun h2 => by have := (lock_two h.good _ _ _ t).1 h2; omega), cost_val (by omega), upn_self, if_pos hw, if_pos h8, if_pos h8, if_neg (show ¬ ax t + 1 = 0 by omega)]
    omega)
theorem cost_back (h : Nv Lk n s ax wx) {l : Int} (ht : t < n) (hw : wx t = 0) (hst : s.T.st t = 0) (h8 : 8 ≤ ax t) (h16 : ax t < 16) : sumN n (cost (s.unlock (t : Int) l).2 (upn ax t (ax t + 1)) wx) + 1 ≤ sumN n (cost s ax wx) :=
  cost_step ht (fun x _ => ⟨fun h2 => .inl ((unlock_two h.good _ _ x).1 h2), fun h2 => h2.elim (fun h3 => (unlock_two h.good _ _ x).2 h3) (fun h3 => h3.1 ▸ h3.2)⟩) (fun x hx => upn_ne hx) (fun x hx => rfl) (by
    rw [cost_val (fun h2 => by have := (unlock_two h.good _ _ t).1 h2; omega), cost_val (by omega), upn_self, if_neg (show ¬ ax t < 8 by omega), if_neg (show ¬ ax t + 1 < 8 by omega)]
    omega)
theorem cost_done {s' : Sd} (ht : t < n) (hst : s.T.st t = 0) (h16 : ax t = 16) (h2 : s'.T.st t = 2) (ho : ∀ x, x ≠ t → s'.T.st x = s.T.st x) : sumN n (cost s' ax wx) + 1 ≤ sumN n (cost s ax wx) :=
  cost_step ht (fun x _ => by
    by_cases e : x = t
    · subst e; exact ⟨fun h => .inr ⟨rfl, h⟩, fun _ => h2⟩
    · rw [ho x e]; exact ⟨.inl, fun h => h.elim id (fun h3 => absurd h3.1 e)⟩) (fun x hx => rfl) (fun x hx => rfl) (by
    rw [cost_val (s := s) (by omega), if_neg (by omega)]
    unfold cost
    rw [if_pos h2]; omega)
end

end Go.Proofs.Ytlplbpilpkmoaaa.sc
