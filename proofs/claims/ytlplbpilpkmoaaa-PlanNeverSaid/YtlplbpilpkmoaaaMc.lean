/- The closures over a task's number; 'IndexFunc', 'ContainsFunc'; 'fits'; a claim's own methods. -/
import Derived.Test.YtlplbpilpkmoaaaMb
import Derived.Shelf.Abstract
namespace Go.Proofs.Ytlplbpilpkmoaaa.sc
open Go.RowKit Go.Shelf
set_option linter.unusedVariables false
set_option linter.unusedSimpArgs false

def pHas (t : Nat) (c : Cl) : Bool := decide (c.task = t) && c.held
def pIs (t : Nat) (c : Cl) : Bool := decide (c.task = t)
/-- What a closure over the number t asks of a claim. -/
def Asks (f B : Nat) (t : Nat) (p : Cl → Bool) : Prop := ∀ (k : Nat) (x y : Bool) (w : World), w.cell? ⟨B, 0, none⟩ = some (.int .i64 (t : Int)) → Calls Try.prog f #[Cv k x y, .pointer (some ⟨B, 0, none⟩)] w (RetB w (p ⟨k, x, y⟩))
theorem beq_task (k t : Nat) : ((k : Int) == (t : Int)) = decide (k = t) := by
  by_cases h : k = t
  · subst h; simp
  · have : ¬ ((k : Int) = (t : Int)) := by omega
    simp [h, this]
set_option maxHeartbeats 400000 in
theorem asks25 (B : Nat) (t : Nat) : Asks 38 B t (pIs t) := by
  intro k x y w hc
  have hB := World.block_lt_of_cell? w _ hc
  have hb := below_alloc w (.cells #[.int .i64 (k : Int), .bool x, .bool y] 80)
  have he := beq_task k t
  unfold pIs
  dsimp only
  generalize decide (k = t) = r at he ⊢
  have HE := Lib.hid he
  clear he
  go_enter Try.func38, Try.ntmps38
  go_wp2_with fail
  go_ret
  exact ⟨by simpa using HE.out, hb⟩
set_option maxHeartbeats 400000 in
theorem asks35 (B : Nat) (t : Nat) : Asks 43 B t (pHas t) := by
  intro k x y w hc
  have hB := World.block_lt_of_cell? w _ hc
  have hb := below_alloc w (.cells #[.int .i64 (k : Int), .bool x, .bool y] 80)
  have he := beq_task k t
  unfold pHas
  dsimp only
  by_cases h : k = t
  · have h1 : ((k : Int) == (t : Int)) = true := by rw [he]; simpa using h
    have h2 : decide (k = t) = true := by simpa using h
    rw [h2]
    clear he h h2
    go_enter Try.func43, Try.ntmps43
    go_wp2_with fail
    go_ret
    exact ⟨by simp, hb⟩
  · have h1 : ((k : Int) == (t : Int)) = false := by rw [he]; simpa using h
    have h2 : decide (k = t) = false := by simpa using h
    rw [h2]
    clear he h h2
    go_enter Try.func43, Try.ntmps43
    go_wp2_with fail
    go_ret
    exact ⟨by simp, hb⟩

/-- The first place at which p holds, or -1. -/
def IdxE (w : World) (xs : List Cl) (p : Cl → Bool) (e : Ending) (w' : World) : Prop :=
  ((∃ i : Nat, i < xs.length ∧ p (g xs i) = true ∧ (∀ j, j < i → p (g xs j) = false) ∧ e = .returned (.int .i64 i)) ∨ ((∀ j, j < xs.length → p (g xs j) = false) ∧ e = .returned (.int .i64 (-1)))) ∧ Below w.heap.size w w'

set_option maxHeartbeats 2000000 in
theorem idx_any (f B n c : Nat) (o : Option Nat) (t : Nat) (p : Cl → Bool) (xs : List Cl) (w : World) (hE : Enters Try.prog f) (hA : Asks f B t p) (hB : w.cell? ⟨B, 0, none⟩ = some (.int .i64 (t : Int))) (hn : n = xs.length) (hN : n ≤ 1000000) (h : Sl w o c xs) :
    Calls Try.prog 45 #[.slice (Ao o) n c, .func (.func f) #[] #[.pointer (some ⟨B, 0, none⟩)]] w (IdxE w xs p) := by
  have hBl := World.block_lt_of_cell? w _ hB
  have HN := Lib.hid hn
  have HS := Lib.hid h
  have HA := Lib.hid hA
  have HB := Lib.hid hB
  unfold Enters at hE
  clear hn h hA hB
  go_enter Try.func45, Try.ntmps45
  go_wp2_with fail
  go_loopg [8] n (fun gk s wr => ∃ k : Nat, k ≤ n ∧ gk + k = n ∧ s = .int .i64 k ∧ Hid (∀ j, j < k → p (g xs j) = false) ∧ Below w.heap.size w wr)
  case atStart => exact ⟨0, by omega, by omega, rfl, Lib.hid (by omega), Below.refl _ _⟩
  case round =>
    obtain ⟨k, hk, hgk, rfl, HF, hb⟩ := hrel
    by_cases hlt : k < n
    · cases o with
      | none => exact absurd HS.out.1 (by intro e; have := HN.out; rw [e] at this; simp at this; omega)
      | some G =>
        have hrow : QRow wr G c xs := QRow.of_block (w := w) HS.out (hb.block _ (QRow.lt (w := w) HS.out))
        have ha := hrow.at_ (i := k) (by rw [← HN.out]; exact hlt)
        have HFk := Lib.hid (fun h : p (g xs k) = false => (fun j hj => by
          rcases Nat.lt_succ_iff_lt_or_eq.1 hj with h1 | h1
          · exact HF.out j h1
          · rw [h1]; exact h : ∀ j, j < k + 1 → p (g xs j) = false))
        have HY := Lib.hid (fun (w' : World) (h : p (g xs k) = true) (hb' : Below w.heap.size w w') => (⟨.inl ⟨k, by rw [← HN.out]; exact hlt, h, HF.out, rfl⟩, hb'⟩ : IdxE w xs p (.returned (.int .i64 k)) w'))
        generalize g xs k = x at *
        obtain ⟨xk, xt, xm⟩ := x
        have f0 := ha.k
        have f1 := ha.t
        have f2 := ha.m
        dsimp only at f0 f1 f2 HFk HY
        have HC := Lib.hid (HA.out xk xt xm wr ((hb.cell (p := ⟨B, 0, none⟩) hBl).trans HB.out))
        clear hrow ha HF
        by_cases he : p ⟨xk, xt, xm⟩ = true
        · rw [he] at HC
          have HE := Lib.hid he
          clear he
          go_wp2_with fail
          refine HC.out.mono ?_
          rintro e w2 ⟨rfl, hb2⟩
          go_wp2_with fail
          go_ret
          exact HY.out _ HE.out (below_step hb hb2)
        · have he : p ⟨xk, xt, xm⟩ = false := by simpa using he
          rw [he] at HC
          have HE := Lib.hid he
          clear he
          go_wp2_with fail
          refine HC.out.mono ?_
          rintro e w2 ⟨rfl, hb2⟩
          go_wp2_with fail
          go_roundg (gk - 1)
          case measure => omega
          case rel => exact ⟨k + 1, by omega, by omega, by go_num, Lib.hid (HFk.out HE.out), below_step hb hb2⟩
    · have HZ := Lib.hid (show IdxE w xs p (.returned (.int .i64 (-1))) wr from ⟨.inr ⟨fun j hj => HF.out j (by rw [← HN.out] at hj; omega), rfl⟩, hb⟩)
      go_wp2_with fail
      go_ret
      exact HZ.out
theorem any_of {xs : List Cl} {p : Cl → Bool} {i : Nat} (hi : i < xs.length) (h : p (g xs i) = true) : xs.any p = true := by
  rw [List.any_eq_true]
  exact ⟨g xs i, g_mem hi, h⟩
theorem not_any_of {xs : List Cl} {p : Cl → Bool} (h : ∀ j, j < xs.length → p (g xs j) = false) : xs.any p = false := by
  rw [List.any_eq_false]
  intro x hx
  obtain ⟨k, hk, e⟩ := List.getElem_of_mem hx
  have := h k hk
  rw [g_get hk, e] at this
  simp [this]
set_option maxHeartbeats 1000000 in
theorem cont_any (f B n c : Nat) (o : Option Nat) (t : Nat) (p : Cl → Bool) (xs : List Cl) (w : World) (hE : Enters Try.prog f) (hA : Asks f B t p) (hB : w.cell? ⟨B, 0, none⟩ = some (.int .i64 (t : Int))) (hn : n = xs.length) (hN : n ≤ 1000000) (h : Sl w o c xs) :
    Calls Try.prog 41 #[.slice (Ao o) n c, .func (.func f) #[] #[.pointer (some ⟨B, 0, none⟩)]] w (RetB w (xs.any p)) := by
  have HI := Lib.hid (idx_any f B n c o t p xs w hE hA hB hn hN h)
  have HY := Lib.hid (fun i (hi : i < xs.length) (h : p (g xs i) = true) => any_of hi h)
  have HZ := Lib.hid (fun (h : ∀ j, j < xs.length → p (g xs j) = false) => not_any_of h)
  have HN := Lib.hid hn
  generalize xs.any p = r at *
  clear hE hA hB h hn
  go_enter Try.func41, Try.ntmps41
  go_wp2_with fail
  refine HI.out.mono ?_
  rintro e w2 ⟨⟨i, hi, hm, -, rfl⟩ | ⟨hno, rfl⟩, hb⟩
  · have HR := Lib.hid (HY.out i hi hm)
    rw [← HN.out] at hi
    clear hm HY HZ
    go_wp2_with fail
    go_ret
    exact ⟨by rw [HR.out]; simp, hb⟩
  · have HR := Lib.hid (HZ.out hno)
    clear hno HY HZ
    go_wp2_with fail
    go_ret
    exact ⟨by rw [HR.out]; simp, hb⟩
theorem e35 : Enters Try.prog 43 := enters_of Try.func43 (by kernel_rfl) rfl
theorem e25 : Enters Try.prog 38 := enters_of Try.func38 (by kernel_rfl) rfl
/-- What a method asks of a claim. -/
def Tells (f : Nat) (p : Cl → Bool) : Prop := ∀ (k : Nat) (x y : Bool) (w : World), Calls Try.prog f #[Cv k x y] w (RetB w (p ⟨k, x, y⟩))
set_option maxHeartbeats 1000000 in
theorem fits_nil (A : Option Addr) (c : Nat) (k : Nat) (x y : Bool) (w : World) : Calls Try.prog 44 #[.slice A 0 c, Cv k x y] w (RetB w true) := by
  have hb := below_alloc w (.cells #[.int .i64 (k : Int), .bool x, .bool y] 80)
  go_enter Try.func44, Try.ntmps44
  go_wp2_with fail
  go_ret
  exact ⟨by simp, hb⟩
set_option maxHeartbeats 1000000 in
theorem fits_some (G n c : Nat) (k : Nat) (x y : Bool) (w : World) (b : Bool) (hn : 0 < n) (hc : n ≤ c) (hN : n ≤ 1000000) (h : w.cell? ⟨G, 1, none⟩ = some (.bool b)) : Calls Try.prog 44 #[.slice (some ⟨G, 0, none⟩) n c, Cv k x y] w (RetB w (!x && !b)) := by
  have hG := World.block_lt_of_cell? w _ h
  have hb := below_alloc w (.cells #[.int .i64 (k : Int), .bool x, .bool y] 80)
  have h2 := (hb.cell (p := ⟨G, 1, none⟩) hG).trans h
  have h0 : ((n : Int) == 0) = false := by simp; omega
  clear h
  cases x
  all_goals
    go_enter Try.func44, Try.ntmps44
    go_wp2_with fail
    go_ret
    exact ⟨by simp, hb⟩

end Go.Proofs.Ytlplbpilpkmoaaa.sc
