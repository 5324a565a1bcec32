/- The closures over a number; 'IndexFunc', 'ContainsFunc', 'Has'. -/
import Derived.Test.YtadkhnenklkbmaaPop
namespace Go.Proofs.Ytadkhnenklkbmaa
open Go.RowKit
set_option linter.unusedVariables false

set_option maxHeartbeats 400000 in
theorem numbered_any (k t x m : Int) (w : World) : Calls Try.prog 26 #[Iv k t x, .int .i64 m] w (RetB w (x == m)) := by
  have hb := below_alloc w (.cells #[.int .i64 k, .int .u64 t, .int .i64 x] 53)
  generalize hr : (x == m) = r
  go_enter Try.func26, Try.ntmps26
  go_wp2_with fail
  go_ret
  exact ⟨rfl, hb⟩

/-- What a closure over the number m asks of an item. -/
def Asks (f B : Nat) (m : Int) : Prop := ∀ (k t x : Int) (w : World), w.cell? ⟨B, 0, none⟩ = some (.int .i64 m) → Calls Try.prog f #[Iv k t x, .pointer (some ⟨B, 0, none⟩)] w (RetB w (x == m))
set_option maxHeartbeats 400000 in
theorem asks25 (B : Nat) (m : Int) : Asks 25 B m := by
  intro k t x w hc
  have hB := World.block_lt_of_cell? w _ hc
  have hb := below_alloc w (.cells #[.int .i64 k, .int .u64 t, .int .i64 x] 53)
  have HC := Lib.hid (fun W => numbered_any k t x m W)
  generalize hr : (x == m) = r at HC ⊢
  go_enter Try.func25, Try.ntmps25
  go_wp2_with fail
  refine (HC.out _).mono ?_
  rintro e w2 ⟨rfl, hb2⟩
  go_wp2_with fail
  go_ret
  exact ⟨rfl, below_step hb hb2⟩
set_option maxHeartbeats 400000 in
theorem asks29 (B : Nat) (m : Int) : Asks 29 B m := by
  intro k t x w hc
  have hB := World.block_lt_of_cell? w _ hc
  have hb := below_alloc w (.cells #[.int .i64 k, .int .u64 t, .int .i64 x] 53)
  have HC := Lib.hid (fun W => numbered_any k t x m W)
  generalize hr : (x == m) = r at HC ⊢
  go_enter Try.func29, Try.ntmps29
  go_wp2_with fail
  refine (HC.out _).mono ?_
  rintro e w2 ⟨rfl, hb2⟩
  go_wp2_with fail
  go_ret
  exact ⟨rfl, below_step hb hb2⟩

/-- A slice of items, nil or not. -/
def Sl (w : World) (o : Option Nat) (c : Nat) (xs : Array It) : Prop := match o with | none => xs.size = 0 ∧ c = 0 | some G => QRow w G c xs
theorem Sl.below {w w' : World} {o : Option Nat} {c : Nat} {xs : Array It} (h : Sl w o c xs) (hb : Below w.heap.size w w') : Sl w' o c xs := by
  cases o with
  | none => exact h
  | some G => exact QRow.of_block h (hb.block _ (QRow.lt h))
theorem Qu.sl {w : World} {Q lo c T : Nat} {o : Option Nat} {xs : Array It} (h : Qu w Q lo o c xs T) : Sl w o c xs := by
  cases o with
  | none => exact h.row
  | some G => exact h.row.2.2

/-- The first place at which the number stands, or -1. -/
def IdxE (w : World) (xs : Array It) (m : Int) (e : Ending) (w' : World) : Prop :=
  ((∃ i : Nat, i < xs.size ∧ (g xs i).num = m ∧ (∀ j, j < i → (g xs j).num ≠ m) ∧ e = .returned (.int .i64 i)) ∨ ((∀ j, j < xs.size → (g xs j).num ≠ m) ∧ e = .returned (.int .i64 (-1)))) ∧ Below w.heap.size w w'

set_option maxHeartbeats 2000000 in
theorem idx_any (f B n c : Nat) (o : Option Nat) (m : Int) (xs : Array It) (w : World) (hE : Enters Try.prog f) (hA : Asks f B m) (hB : w.cell? ⟨B, 0, none⟩ = some (.int .i64 m)) (hn : n = xs.size) (hN : n ≤ 1000000) (h : Sl w o c xs) :
    Calls Try.prog 32 #[.slice (Ao o) n c, .func (.func f) #[] #[.pointer (some ⟨B, 0, none⟩)]] w (IdxE w xs m) := by
  have hBl := World.block_lt_of_cell? w _ hB
  have HN := Lib.hid hn
  have HS := Lib.hid h
  have HA := Lib.hid hA
  have HB := Lib.hid hB
  unfold Enters at hE
  clear hn h hA hB
  go_enter Try.func32, Try.ntmps32
  go_wp2_with fail
  go_loopg [8] n (fun gk s wr => ∃ k : Nat, k ≤ n ∧ gk + k = n ∧ s = .int .i64 k ∧ Hid (∀ j, j < k → (g xs j).num ≠ m) ∧ Below w.heap.size w wr)
  case atStart => exact ⟨0, by omega, by omega, rfl, Lib.hid (by omega), Below.refl _ _⟩
  case round =>
    obtain ⟨k, hk, hgk, rfl, HF, hb⟩ := hrel
    by_cases hlt : k < n
    · cases o with
      | none => exact absurd HS.out.1 (by rw [← HN.out]; omega)
      | some G =>
        have hrow : QRow wr G c xs := QRow.of_block (w := w) HS.out (hb.block _ (QRow.lt (w := w) HS.out))
        have ha := hrow.at_ (i := k) (by rw [← HN.out]; exact hlt)
        have HFk := Lib.hid (fun h : (g xs k).num ≠ m => (fun j hj => by
          rcases Nat.lt_succ_iff_lt_or_eq.1 hj with h1 | h1
          · exact HF.out j h1
          · rw [h1]; exact h : ∀ j, j < k + 1 → (g xs j).num ≠ m))
        have HY := Lib.hid (fun (w' : World) (h : (g xs k).num = m) (hb' : Below w.heap.size w w') => (⟨.inl ⟨k, by rw [← HN.out]; exact hlt, h, HF.out, rfl⟩, hb'⟩ : IdxE w xs m (.returned (.int .i64 k)) w'))
        generalize g xs k = x at *
        obtain ⟨xk, xt, xm⟩ := x
        have f0 := ha.k
        have f1 := ha.t
        have f2 := ha.m
        dsimp only at f0 f1 f2 HFk HY
        have HC := Lib.hid (HA.out xk xt xm wr ((hb.cell (p := ⟨B, 0, none⟩) hBl).trans HB.out))
        clear hrow ha HF
        by_cases he : xm = m
        · have hbe : (xm == m) = true := by simpa using he
          rw [hbe] at HC
          have HE := Lib.hid he
          clear he hbe
          go_wp2_with fail
          refine HC.out.mono ?_
          rintro e w2 ⟨rfl, hb2⟩
          go_wp2_with fail
          go_ret
          exact HY.out _ HE.out (below_step hb hb2)
        · have hbe : (xm == m) = false := by simpa using he
          rw [hbe] at HC
          have HE := Lib.hid he
          clear he hbe
          go_wp2_with fail
          refine HC.out.mono ?_
          rintro e w2 ⟨rfl, hb2⟩
          go_wp2_with fail
          go_roundg (gk - 1)
          case measure => omega
          case rel => exact ⟨k + 1, by omega, by omega, by go_num, Lib.hid (HFk.out HE.out), below_step hb hb2⟩
    · have HZ := Lib.hid (show IdxE w xs m (.returned (.int .i64 (-1))) wr from ⟨.inr ⟨fun j hj => HF.out j (by rw [← HN.out] at hj; omega), rfl⟩, hb⟩)
      go_wp2_with fail
      go_ret
      exact HZ.out
end Go.Proofs.Ytadkhnenklkbmaa
