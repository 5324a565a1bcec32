/- 'Less', 'Swap', 'Len' of items. -/
import Derived.Test.YtlplbpilpkmoaaaHm
import Derived.RegionTactic
import Derived.BigRegion
namespace Go.Proofs.Ytlplbpilpkmoaaa.hp
open Go.RowKit
set_option linter.unusedVariables false

/-- The cells of the item at place i of block G. -/
structure At (w : World) (G i : Nat) (x : It) : Prop where
  k : w.cell? ⟨G, i * 3, none⟩ = some (.int .i64 x.d)
  t : w.cell? ⟨G, i * 3 + 1, none⟩ = some (.int .i64 x.n)
  m : w.cell? ⟨G, i * 3 + 2, none⟩ = some (.bool x.w)
theorem At.lt {w : World} {G i : Nat} {x : It} (h : At w G i x) : G < w.heap.size := World.block_lt_of_cell? w _ h.k
theorem At.below {w w' : World} {G i : Nat} {x : It} (h : At w G i x) (hb : Below w.heap.size w w') : At w' G i x :=
  ⟨(hb.cell (p := ⟨G, i * 3, none⟩) h.lt).trans h.k, (hb.cell (p := ⟨G, i * 3 + 1, none⟩) h.lt).trans h.t, (hb.cell (p := ⟨G, i * 3 + 2, none⟩) h.lt).trans h.m⟩

set_option maxHeartbeats 1000000 in
theorem less_at (G n c i j : Nat) (x y : It) (w : World) (hi : i < n) (hj : j < n) (hn : n ≤ 1000000) (hx : At w G i x) (hy : At w G j y) :
    Calls Try.prog 64 #[.slice (some ⟨G, 0, none⟩) n c, .int .i64 i, .int .i64 j] w (RetB w (ltB x.d x.n y.d y.n)) := by
  have f0 : ∀ p : BelowOf w, p.W.cell? ⟨G, i * 3, none⟩ = some (.int .i64 x.d) := fun p => (hx.below p.h).k
  have f1 : ∀ p : BelowOf w, p.W.cell? ⟨G, i * 3 + 1, none⟩ = some (.int .i64 x.n) := fun p => (hx.below p.h).t
  have f2 : ∀ p : BelowOf w, p.W.cell? ⟨G, i * 3 + 2, none⟩ = some (.bool x.w) := fun p => (hx.below p.h).m
  have f3 : ∀ p : BelowOf w, p.W.cell? ⟨G, j * 3, none⟩ = some (.int .i64 y.d) := fun p => (hy.below p.h).k
  have f4 : ∀ p : BelowOf w, p.W.cell? ⟨G, j * 3 + 1, none⟩ = some (.int .i64 y.n) := fun p => (hy.below p.h).t
  have f5 : ∀ p : BelowOf w, p.W.cell? ⟨G, j * 3 + 2, none⟩ = some (.bool y.w) := fun p => (hy.below p.h).m
  have HC := Lib.hid (show ∀ p : BelowOf w, Calls Try.prog 62 #[Iv x.d x.n x.w, Iv y.d y.n y.w] p.W fun e w'' => e = .returned (.bool (ltB x.d x.n y.d y.n)) ∧ ∃ q : BelowOf w, w'' = q.W from fun p =>
    calls_below p (before_any _ _ _ _ _ _ p.W))
  generalize ltB x.d x.n y.d y.n = r at *
  clear hx hy
  go_enter Try.func64, Try.ntmps64
  go_upto_region 1 with fail
  refine wp_region_below (by kernel_rfl) (by kernel_rfl) ?_
  repeat (go_big_quiet_step ((go_at_call 62; with_reducible exact HC.out _)))
  refine wpQuiet_nil ?_
  rintro w1 ⟨⟨_, h1⟩, rfl⟩
  go_wp2_with fail
  go_ret
  exact ⟨rfl, h1⟩

end Go.Proofs.Ytlplbpilpkmoaaa.hp
