/- What four bodies were, kept in an array of rows. -/
import Derived.Test.YtpnnonphagddgaaFour2
namespace Go.Proofs.Ytpnnonphagddgaa
open Go.RowKit
set_option linter.unusedVariables false
set_option linter.unusedSimpArgs false

theorem Row.congr {w : World} {lo n c : Nat} {A : Option Addr} {f g : Nat → UInt8} (h : Row w lo A n c f) (hf : ∀ i, i < n → f i = g i) : Row w lo A n c g := by
  refine ⟨h.1, ?_⟩
  rcases h.2 with h | ⟨g0, h1, h2, h3⟩
  · exact Or.inl h
  · exact Or.inr ⟨g0, h1, h2, row_step h3 hf⟩
theorem Row.mono {w : World} {lo lo' n c : Nat} {A : Option Addr} {f : Nat → UInt8} (h : Row w lo A n c f) (hl : lo' ≤ lo) : Row w lo' A n c f := by
  refine ⟨h.1, ?_⟩
  rcases h.2 with h | ⟨g0, h1, h2, h3⟩
  · exact Or.inl h
  · exact Or.inr ⟨g0, by omega, h2, h3⟩
/-- A row's byte. -/
theorem Row.at {w : World} {lo n c : Nat} {A : Option Addr} {f : Nat → UInt8} (h : Row w lo A n c f) {i : Nat} (hi : i < n) : ∃ g, A = some ⟨g, 0, none⟩ ∧ w.cell? ⟨g, i, none⟩ = some (.int .u8 ((f i).toNat : Int)) := by
  rcases h.2 with ⟨_, h0⟩ | ⟨g, _, h2, h3⟩
  · omega
  · refine ⟨g, h2, ?_⟩
    rw [cell_of_row _ _ i _ 5 (0, 0) h3]
    have := rowF_get f hi
    unfold U8 at this
    simpa using this
/-- The first j cells of block h are rows, each what its body was. -/
structure Was (w : World) (h lo : Nat) (b : Nat → AB) (j : Nat) : Prop where
  row : ∀ i, i < j → ∃ A c, w.cell? ⟨h, i, none⟩ = some (.slice A (b i).size c) ∧ Row w lo A (b i).size c (b i).dat
  some_ : ∀ i, i < 4 → ∃ v, w.cell? ⟨h, i, none⟩ = some v
  fro : ∀ i, w.frozen? ⟨h, i, none⟩ = false
  lt : h < w.heap.size
theorem Was.only {w w' : World} {h lo j : Nat} {b : Nat → AB} (k : Was w h lo b j) {F : Nat → Prop} (ho : Only F w w') (hh : ¬ F h) (hF : ∀ x, F x → x < lo) : Was w' h lo b j := by
  have hb := ho.block h k.lt hh
  refine ⟨fun i hi => ?_, fun i hi => ?_, fun i => (World.frozen?_of_block (a := ⟨h, i, none⟩) hb).trans (k.fro i), Nat.lt_of_lt_of_le k.lt ho.size⟩
  · obtain ⟨A, c, h1, h2⟩ := k.row i hi
    exact ⟨A, c, (World.cell?_of_block (a := ⟨h, i, none⟩) hb).trans h1, h2.only ho hF⟩
  · obtain ⟨v, hv⟩ := k.some_ i hi
    exact ⟨v, (World.cell?_of_block (a := ⟨h, i, none⟩) hb).trans hv⟩
theorem set_only (w : World) (h i : Nat) (v : Value) : Only (· = h) w (w.setCell ⟨h, i, none⟩ v) := (Only.refl (fun x => x = h) w).setCell (p := ⟨h, i, none⟩) rfl v
theorem Was.put {w : World} {h lo j c : Nat} {b : Nat → AB} {A : Option Addr} (k : Was w h lo b j) (hr : Row w lo A (b j).size c (b j).dat) (hj : j < 4) (hlo : h < lo) : Was (w.setCell ⟨h, j, none⟩ (.slice A (b j).size c)) h lo b (j + 1) := by
  have ho := set_only w h j (.slice A (b j).size c)
  obtain ⟨v, hv⟩ := k.some_ j hj
  refine ⟨fun i hi => ?_, fun i hi => ?_, fun i => (World.frozen?_setCell _ _ _ _).trans (k.fro i), Nat.lt_of_lt_of_le k.lt ho.size⟩
  · by_cases e : i = j
    · subst e
      exact ⟨A, c, World.cell?_setCell_same _ _ _ hv, hr.only ho (fun x hx => by omega)⟩
    · obtain ⟨A', c', h1, h2⟩ := k.row i (by omega)
      exact ⟨A', c', (World.cell?_setCell_other _ _ _ _ (by intro h; injection h with _ h; exact e h.symm)).trans h1, h2.only ho (fun x hx => by omega)⟩
  · by_cases e : i = j
    · subst e; exact ⟨_, World.cell?_setCell_same _ _ _ hv⟩
    · obtain ⟨v', hv'⟩ := k.some_ i hi
      exact ⟨v', (World.cell?_setCell_other _ _ _ _ (by intro h; injection h with _ h; exact e h.symm)).trans hv'⟩
theorem was_new (w : World) (b : Nat → AB) : Was (w.alloc (.cells #[.slice none 0 0, .slice none 0 0, .slice none 0 0, .slice none 0 0] 58)) w.heap.size (w.heap.size + 1) b 0 := by
  refine ⟨fun i hi => absurd hi (Nat.not_lt_zero _), fun i hi => ⟨.slice none 0 0, ?_⟩, fun i => by simp, by simp⟩
  rw [cell_of_row _ _ i _ 58 (0, 0) (heap_alloc_last w _)]
  have : i = 0 ∨ i = 1 ∨ i = 2 ∨ i = 3 := by omega
  rcases this with rfl | rfl | rfl | rfl <;> rfl
theorem Four.other {w wr w' : World} {g h S R : Nat} {B M : Nat → Nat} {b : Nat → AB} (k : Four w wr g S R B M b) (ho : Only (· = h) wr w') (h1 : ¬ FP S 4 B M h) (h2 : g ≠ h) (h3 : w.heap.size ≤ h) : Four w w' g S R B M b :=
  ⟨k.sys.keep ho (fun x hx e => h1 (e ▸ hx)), ho.below k.bel (Nat.le_refl _) (fun x hx => by omega), fun i hi => (World.cell?_of_block (a := ⟨g, i, none⟩) (ho.block g k.glt h2)).trans (k.arr i hi), Nat.lt_of_lt_of_le k.glt ho.size, k.gF, k.glo, k.lo⟩
theorem Four.F_lt {w wr : World} {g S R : Nat} {B M : Nat → Nat} {b : Nat → AB} (k : Four w wr g S R B M b) : ∀ x, FP S 4 B M x → x < wr.heap.size := by
  rintro x (rfl | ⟨i, hi, h | h⟩)
  · exact k.sys.ltS
  · rw [h]; exact (k.sys.bod i hi).ltB
  · rw [h]; exact (k.sys.bod i hi).ltM
theorem Four.read {w wr : World} {g S R : Nat} {B M : Nat → Nat} {b : Nat → AB} (k : Four w wr g S R B M b) {j : Nat} (hj : j < 4) :
    Calls Try.prog 17 #[Pq S, Pq (B j), .int .i64 0, .int .i64 65536] wr (fun e w' => ∃ A c, e = .returned (.tuple #[.slice A (b j).size c, .int .i64 0]) ∧ Row w' wr.heap.size A (b j).size c (b j).dat ∧ Below wr.heap.size wr w') := by
  refine (sys_read k.sys hj 0 65536).mono ?_
  rintro e w' ⟨A, c, he, hr, hb⟩
  rw [readR_all (k.sys.bod j hj).ok] at he hr
  exact ⟨A, c, he, hr.congr fun i _ => by simp, hb⟩
/-- How many were written, and what that says. -/
theorem WR.cases {b : AB} {used room len p : Nat} {off err : Int} (h : WR b used room off len p err) : (p = 0) ∨ (0 < p ∧ err = 0 ∧ 0 ≤ off ∧ off < 65536 ∧ p ≤ len ∧ off + (p : Int) ≤ 65536) := by
  rcases h with ⟨h1, h2, h3⟩ | ⟨h1, h0, h2, h3⟩ | ⟨h1, h0, h2, h3⟩ | ⟨h1, h0, h2, h3, h4⟩
  · exact Or.inl h2
  · exact Or.inl h2
  · exact Or.inl h2
  · by_cases hp : p = 0
    · exact Or.inl hp
    · have := h3.le
      exact Or.inr ⟨by omega, by rw [h4, if_neg hp], h1, h0, by omega, by omega⟩
end Go.Proofs.Ytpnnonphagddgaa
