/- Two rows of numbers that are the same. -/
import Derived.Test.YtpnnonphagddgaaLaw1
namespace Go.Proofs.Ytpnnonphagddgaa
open Go.RowKit
set_option linter.unusedVariables false
set_option linter.unusedSimpArgs false

theorem rows_at {w : World} {b c i n : Nat} {A : Option Addr} {L : List Nat} (h : w.ownsRow b 3 1 (.slice A n c) n (L.map Iv)) (hn : n = L.length) (hi : i < L.length) : ∃ g, A = some ⟨g, 0, none⟩ ∧ b ≤ g ∧ g < w.heap.size ∧ w.cell? ⟨g, i, none⟩ = some (.int .i64 ((L[i] : Nat) : Int)) := by
  have hl := h.lt
  rcases h.2 with ⟨h1, h2⟩ | ⟨g, cap, cur, h1, _⟩
  · omega
  · injection h1 with h1
    subst h1
    obtain ⟨h3, h4⟩ := hl g rfl
    have := h.cells (g := g) rfl i (Iv L[i]) (by simp [hi])
    rw [add0, Nat.zero_add] at this
    exact ⟨g, rfl, h3, h4, this⟩
set_option maxHeartbeats 2000000 in
theorem ints_same (w : World) (n ca cb ba bb : Nat) (A B : Option Addr) (L : List Nat) (hn : n = L.length) (hl : L.length ≤ 4096) (ha : w.ownsRow ba 3 1 (.slice A n ca) n (L.map Iv)) (hb : w.ownsRow bb 3 1 (.slice B n cb) n (L.map Iv)) :
    Calls Try.prog 27 #[.slice A n ca, .slice B n cb] w (AwakeE w) := by
  have HA := Lib.hid ha
  have HB := Lib.hid hb
  have HN := Lib.hid hn
  have hni : (n : Int) ≤ 4096 := by omega
  clear ha hb hn hl
  go_enter Try.func27, Try.ntmps27
  go_wp2
  go_loopg [13] n (fun g s wr => ∃ i : Nat, g + i = n ∧ s = .int .i64 (i : Int) ∧ Hid (Below w.heap.size w wr))
  case atStart => exact ⟨0, by omega, rfl, Lib.hid (Below.refl _ _)⟩
  case round =>
    obtain ⟨i, hg, rfl, HBL⟩ := hrel
    by_cases hlt : i < n
    · obtain ⟨g1, rfl, _, h1, c1⟩ := rows_at HA.out HN.out (by have := HN.out; omega : i < L.length)
      obtain ⟨g2, rfl, _, h2, c2⟩ := rows_at HB.out HN.out (by have := HN.out; omega : i < L.length)
      have hlti : (i : Int) < (n : Int) := by omega
      have d1 : wr.drew.cell? ⟨g1, i, none⟩ = _ := (HBL.out.cell (p := ⟨g1, i, none⟩) h1).trans c1
      have d2 : wr.drew.cell? ⟨g2, i, none⟩ = _ := (HBL.out.cell (p := ⟨g2, i, none⟩) h2).trans c2
      have HD := Lib.hid HBL.out.drew
      generalize L[i] = x at *
      clear c1 c2 h1 h2
      go_wp2
      go_region
      go_wp2
      go_roundg (gk - 1)
      case measure => omega
      case rel => exact ⟨i + 1, by omega, by go_num, HD⟩
    · have hlti : ¬ ((i : Int) < (n : Int)) := by omega
      go_wp2
      go_ret
      exact ⟨rfl, HBL.out⟩
end Go.Proofs.Ytpnnonphagddgaa
