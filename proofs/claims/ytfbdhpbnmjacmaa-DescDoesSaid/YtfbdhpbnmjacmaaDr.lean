/- 'Same' of two that are the same: true. -/
import Derived.Test.YtfbdhpbnmjacmaaDa
namespace Go.Proofs.Ytfbdhpbnmjacmaa.ds
open Go.RowKit
open Go.Proofs.Ytfbdhpbnmjacmaa.pa (Bs Sv Strs Own own_form info9 own_base)
set_option linter.unusedVariables false
set_option linter.unusedSimpArgs false
def YesE (w : World) (e : Ending) (w' : World) : Prop := e = .returned (.bool true) ∧ Below w.heap.size w w'
theorem below_drewN {B : Nat} {a w : World} (h : Below B a w) (n : Nat) : Below B a (w.drewN n) := ⟨h.os, h.tape, h.output, h.size, h.block⟩
set_option maxHeartbeats 4000000 in
theorem same_yes {A A' : Option Addr} {n n' c c' : Nat} {d : De} {w : World} (hx : DA w A n c d) (hy : DA w A' n' c' d) (hl : n ≤ 65536) :
    Calls Try.prog 15 #[DV A n c d, DV A' n' c' d] w (YesE w) := by
  have e1 := hx.len
  have e2 := hy.len
  obtain ⟨d0, d1, d2, d3, xs, d5⟩ := d
  dsimp only at e1 e2
  obtain rfl : n' = n := by omega
  have HN := Lib.hid e1
  have b2 : Below w.heap.size w ((w.alloc (.cells #[.int .i64 d0, .int .i64 d1, .int .i64 d2, .bool d3, .slice A n' c, .int .i64 d5] 30)).alloc (.cells #[.int .i64 d0, .int .i64 d1, .int .i64 d2, .bool d3, .slice A' n' c', .int .i64 d5] 30)) := ((Below.refl _ _).alloc (Nat.le_refl _) _).alloc (by simp) _
  have hx2 := (hx.below b2).st
  have hy2 := (hy.below b2).st
  have HB2 := Lib.hid b2
  unfold DV
  clear hx hy e1 e2 b2
  cases d3
  all_goals
    go_enter Try.func15, Try.ntmps15
    go_wp2_with fail
    go_loopg [5] n' (fun g i wr => ∃ k : Nat, k ≤ n' ∧ g + k = n' ∧ i = .int .i64 k ∧ ∃ nq, ((w.alloc (.cells #[.int .i64 d0, .int .i64 d1, .int .i64 d2, .bool _, .slice A n' c, .int .i64 d5] 30)).alloc (.cells #[.int .i64 d0, .int .i64 d1, .int .i64 d2, .bool _, .slice A' n' c', .int .i64 d5] 30)).drewN nq = wr)
    case atStart => exact ⟨0, by omega, by omega, rfl, 0, rfl⟩
    case round =>
      obtain ⟨k, hk, hg, rfl, nq, rfl⟩ := hrel
      by_cases hlt : k < n'
      · obtain ⟨ad, x, rfl, _, hxk, hcx⟩ := hx2.get (k := k) (by rw [← HN.out]; exact hlt)
        obtain ⟨ad', y, rfl, _, hyk, hcy⟩ := hy2.get (k := k) (by rw [← HN.out]; exact hlt)
        have hxy : y = x := by rw [hxk] at hyk; injection hyk with h; exact h.symm
        subst hxy
        clear hxk hyk
        go_wp2_with fail
        go_quiet (fail)
        go_wp2_with fail
        go_roundg (gk - 1)
        case measure => omega
        case rel => exact ⟨k + 1, by omega, by omega, by go_num, _, rfl⟩
      · go_wp2_with fail
        go_ret
        exact ⟨rfl, below_drewN HB2.out _⟩
end Go.Proofs.Ytfbdhpbnmjacmaa.ds
