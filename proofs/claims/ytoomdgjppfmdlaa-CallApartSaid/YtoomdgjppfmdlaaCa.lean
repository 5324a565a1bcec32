/- Which calls may be: the code's function and the document's. -/
import Derived.Test.YtoomdgjppfmdlaaCm
namespace Go.Proofs.Ytoomdgjppfmdlaa
open Go.RowKit
set_option linter.unusedVariables false
set_option linter.unusedSimpArgs false

instance (n : Int) : Decidable (Num n) := by unfold Num; infer_instance
instance (c : C) : Decidable (May c) := by unfold May; infer_instance
def numB (n : Int) : Bool := decide (Num n)
def mayB (c : C) : Bool := decide (May c)
theorem numB_yes {n : Int} (h : Num n) : numB n = true := decide_eq_true h
theorem numB_no {n : Int} (h : ¬ Num n) : numB n = false := decide_eq_false h
theorem mayB_yes {c : C} (h : May c) : mayB c = true := decide_eq_true h
theorem mayB_no {c : C} (h : ¬ May c) : mayB c = false := decide_eq_false h

theorem num_yes (n : Int) (w : World) (h : Num n) : Calls Try.prog 27 #[.int .i64 n] w fun e w' => e = .returned (.bool true) ∧ w = w' := by
  obtain ⟨h1, h2⟩ := h
  go_enter Try.func27, Try.ntmps27
  go_wp2_with fail
  go_ret
  exact ⟨rfl, rfl⟩
theorem num_lo (n : Int) (w : World) (h : n < -256) : Calls Try.prog 27 #[.int .i64 n] w fun e w' => e = .returned (.bool false) ∧ w = w' := by
  go_enter Try.func27, Try.ntmps27
  go_wp2_with fail
  go_ret
  exact ⟨by first | rfl | (simp; omega), rfl⟩
theorem num_hi (n : Int) (w : World) (h : 65279 < n) : Calls Try.prog 27 #[.int .i64 n] w fun e w' => e = .returned (.bool false) ∧ w = w' := by
  go_enter Try.func27, Try.ntmps27
  go_wp2_with fail
  go_ret
  exact ⟨by first | rfl | (simp; omega), rfl⟩
theorem num_no (n : Int) (w : World) (h : ¬ Num n) : Calls Try.prog 27 #[.int .i64 n] w fun e w' => e = .returned (.bool false) ∧ w = w' := by
  unfold Num at h
  by_cases h1 : n < -256
  · exact num_lo n w h1
  · exact num_hi n w (by omega)

set_option maxHeartbeats 4000000 in
set_option maxRecDepth 100000 in
theorem may_any (c : C) (w : World) (ha : c.a.length ≤ maxLen) (hb : c.b.length ≤ maxLen) : Calls Try.prog 16 #[CV c] w (RetB w (mayB c)) := by
  obtain ⟨op, fd, fl, n, off, a, b⟩ := c
  unfold CV
  dsimp only at ha hb ⊢
  unfold maxLen at ha hb
  by_cases h0 : 1 ≤ op
  case neg =>
    rw [mayB_no (fun h => h0 h.1.1)]
    have hn : op < 1 := by omega
    have hd : decide (1 ≤ op) = false := by simp; omega
    go_enter Try.func16, Try.ntmps16
    go_wp2_with fail
    go_ret
    exact ⟨by first | rfl | (simp; omega), below_alloc _ _⟩
  by_cases h1 : op ≤ 20
  case neg =>
    rw [mayB_no (fun h => h1 h.1.2)]
    have hn : 20 < op := by omega
    have hd : decide (op ≤ 20) = false := by simp; omega
    go_enter Try.func16, Try.ntmps16
    go_wp2_with fail
    go_ret
    exact ⟨by first | rfl | (simp; omega), below_alloc _ _⟩
  by_cases h2 : -4 ≤ fd
  case neg =>
    rw [mayB_no (fun h => h2 h.2.1.1)]
    have hn : fd < -4 := by omega
    have hd : decide (-4 ≤ fd) = false := by simp; omega
    go_enter Try.func16, Try.ntmps16
    go_wp2_with fail
    go_ret
    exact ⟨by first | rfl | (simp; omega), below_alloc _ _⟩
  by_cases h3 : fd ≤ 35
  case neg =>
    rw [mayB_no (fun h => h3 h.2.1.2)]
    have hn : 35 < fd := by omega
    have hd : decide (fd ≤ 35) = false := by simp; omega
    go_enter Try.func16, Try.ntmps16
    go_wp2_with fail
    go_ret
    exact ⟨by first | rfl | (simp; omega), below_alloc _ _⟩
  by_cases h4 : 0 ≤ fl
  case neg =>
    rw [mayB_no (fun h => h4 h.2.2.1.1)]
    have hn : fl < 0 := by omega
    have hd : decide (0 ≤ fl) = false := by simp; omega
    go_enter Try.func16, Try.ntmps16
    go_wp2_with fail
    go_ret
    exact ⟨by first | rfl | (simp; omega), below_alloc _ _⟩
  by_cases h5 : fl ≤ 63
  case neg =>
    rw [mayB_no (fun h => h5 h.2.2.1.2)]
    have hn : 63 < fl := by omega
    have hd : decide (fl ≤ 63) = false := by simp; omega
    go_enter Try.func16, Try.ntmps16
    go_wp2_with fail
    go_ret
    exact ⟨by first | rfl | (simp; omega), below_alloc _ _⟩
  by_cases h6 : Num n
  case neg =>
    rw [mayB_no (fun h => h6 h.2.2.2.1)]
    go_enter Try.func16, Try.ntmps16
    go_wp2_with fail
    refine (num_no n _ h6).mono ?_
    rintro e w' ⟨rfl, rfl⟩
    go_wp2_with fail
    go_ret
    exact ⟨by first | rfl | (simp; omega), below_alloc _ _⟩
  by_cases h7 : Num off
  case neg =>
    rw [mayB_no (fun h => h7 h.2.2.2.2.1)]
    go_enter Try.func16, Try.ntmps16
    go_wp2_with fail
    refine (num_yes n _ h6).mono ?_
    rintro e w' ⟨rfl, rfl⟩
    go_wp2_with fail
    refine (num_no off _ h7).mono ?_
    rintro e w' ⟨rfl, rfl⟩
    go_wp2_with fail
    go_ret
    exact ⟨by first | rfl | (simp; omega), below_alloc _ _⟩
  by_cases h8 : a.length ≤ 63
  case neg =>
    rw [mayB_no (fun h => h8 h.2.2.2.2.2.1)]
    have hn : 63 < a.length := by omega
    have hd : decide (a.length ≤ 63) = false := by simp; omega
    go_enter Try.func16, Try.ntmps16
    go_wp2_with fail
    refine (num_yes n _ h6).mono ?_
    rintro e w' ⟨rfl, rfl⟩
    go_wp2_with fail
    refine (num_yes off _ h7).mono ?_
    rintro e w' ⟨rfl, rfl⟩
    go_wp2_with fail
    go_ret
    exact ⟨by first | rfl | (simp; omega), below_alloc _ _⟩
  by_cases h9 : b.length ≤ 63
  case neg =>
    rw [mayB_no (fun h => h9 h.2.2.2.2.2.2)]
    have hn : 63 < b.length := by omega
    have hd : decide (b.length ≤ 63) = false := by simp; omega
    go_enter Try.func16, Try.ntmps16
    go_wp2_with fail
    refine (num_yes n _ h6).mono ?_
    rintro e w' ⟨rfl, rfl⟩
    go_wp2_with fail
    refine (num_yes off _ h7).mono ?_
    rintro e w' ⟨rfl, rfl⟩
    go_wp2_with fail
    go_ret
    exact ⟨by first | rfl | (simp; omega), below_alloc _ _⟩
  rw [mayB_yes ⟨⟨h0, h1⟩, ⟨h2, h3⟩, ⟨h4, h5⟩, h6, h7, h8, h9⟩]
  go_enter Try.func16, Try.ntmps16
  go_wp2_with fail
  refine (num_yes n _ h6).mono ?_
  rintro e w' ⟨rfl, rfl⟩
  go_wp2_with fail
  refine (num_yes off _ h7).mono ?_
  rintro e w' ⟨rfl, rfl⟩
  go_wp2_with fail
  go_ret
  exact ⟨by first | rfl | (simp; omega), below_alloc _ _⟩
set_option maxHeartbeats 4000000 in
set_option maxRecDepth 100000 in
theorem rmay_any (c : C) (w : World) (ha : c.a.length ≤ maxLen) (hb : c.b.length ≤ maxLen) : Calls Try.prog 17 #[CV c] w (RetB w (mayB c)) := by
  obtain ⟨op, fd, fl, n, off, a, b⟩ := c
  unfold CV
  dsimp only at ha hb ⊢
  unfold maxLen at ha hb
  by_cases h0 : 1 ≤ op
  case neg =>
    rw [mayB_no (fun h => h0 h.1.1)]
    have hn : op < 1 := by omega
    have hd : decide (1 ≤ op) = false := by simp; omega
    have hd2 : decide (op < 1) = true := by simp; omega
    go_enter Try.func17, Try.ntmps17
    go_wp2_with fail
    go_ret
    exact ⟨by first | rfl | (simp; omega), below_alloc _ _⟩
  have g0 : decide (op < 1) = false := by simp; omega
  by_cases h1 : op ≤ 20
  case neg =>
    rw [mayB_no (fun h => h1 h.1.2)]
    have hn : 20 < op := by omega
    have hd : decide (op ≤ 20) = false := by simp; omega
    have hd2 : decide (20 < op) = true := by simp; omega
    go_enter Try.func17, Try.ntmps17
    go_wp2_with fail
    go_ret
    exact ⟨by first | rfl | (simp; omega), below_alloc _ _⟩
  have g1 : decide (20 < op) = false := by simp; omega
  by_cases h2 : -4 ≤ fd
  case neg =>
    rw [mayB_no (fun h => h2 h.2.1.1)]
    have hn : fd < -4 := by omega
    have hd : decide (-4 ≤ fd) = false := by simp; omega
    have hd2 : decide (fd < -4) = true := by simp; omega
    go_enter Try.func17, Try.ntmps17
    go_wp2_with fail
    go_ret
    exact ⟨by first | rfl | (simp; omega), below_alloc _ _⟩
  have g2 : decide (fd < -4) = false := by simp; omega
  by_cases h3 : fd ≤ 35
  case neg =>
    rw [mayB_no (fun h => h3 h.2.1.2)]
    have hn : 35 < fd := by omega
    have hd : decide (fd ≤ 35) = false := by simp; omega
    have hd2 : decide (35 < fd) = true := by simp; omega
    go_enter Try.func17, Try.ntmps17
    go_wp2_with fail
    go_ret
    exact ⟨by first | rfl | (simp; omega), below_alloc _ _⟩
  have g3 : decide (35 < fd) = false := by simp; omega
  by_cases h4 : 0 ≤ fl
  case neg =>
    rw [mayB_no (fun h => h4 h.2.2.1.1)]
    have hn : fl < 0 := by omega
    have hd : decide (0 ≤ fl) = false := by simp; omega
    have hd2 : decide (fl < 0) = true := by simp; omega
    go_enter Try.func17, Try.ntmps17
    go_wp2_with fail
    go_ret
    exact ⟨by first | rfl | (simp; omega), below_alloc _ _⟩
  have g4 : decide (fl < 0) = false := by simp; omega
  by_cases h5 : fl ≤ 63
  case neg =>
    rw [mayB_no (fun h => h5 h.2.2.1.2)]
    have hn : 63 < fl := by omega
    have hd : decide (fl ≤ 63) = false := by simp; omega
    have hd2 : decide (63 < fl) = true := by simp; omega
    go_enter Try.func17, Try.ntmps17
    go_wp2_with fail
    go_ret
    exact ⟨by first | rfl | (simp; omega), below_alloc _ _⟩
  have g5 : decide (63 < fl) = false := by simp; omega
  by_cases h6 : -256 ≤ n
  case neg =>
    rw [mayB_no (fun h => h6 h.2.2.2.1.1)]
    have hn : n < -256 := by omega
    have hd : decide (-256 ≤ n) = false := by simp; omega
    have hd2 : decide (n < -256) = true := by simp; omega
    go_enter Try.func17, Try.ntmps17
    go_wp2_with fail
    go_ret
    exact ⟨by first | rfl | (simp; omega), below_alloc _ _⟩
  have g6 : decide (n < -256) = false := by simp; omega
  by_cases h7 : n ≤ 65279
  case neg =>
    rw [mayB_no (fun h => h7 h.2.2.2.1.2)]
    have hn : 65279 < n := by omega
    have hd : decide (n ≤ 65279) = false := by simp; omega
    have hd2 : decide (65279 < n) = true := by simp; omega
    go_enter Try.func17, Try.ntmps17
    go_wp2_with fail
    go_ret
    exact ⟨by first | rfl | (simp; omega), below_alloc _ _⟩
  have g7 : decide (65279 < n) = false := by simp; omega
  by_cases h8 : -256 ≤ off
  case neg =>
    rw [mayB_no (fun h => h8 h.2.2.2.2.1.1)]
    have hn : off < -256 := by omega
    have hd : decide (-256 ≤ off) = false := by simp; omega
    have hd2 : decide (off < -256) = true := by simp; omega
    go_enter Try.func17, Try.ntmps17
    go_wp2_with fail
    go_ret
    exact ⟨by first | rfl | (simp; omega), below_alloc _ _⟩
  have g8 : decide (off < -256) = false := by simp; omega
  by_cases h9 : off ≤ 65279
  case neg =>
    rw [mayB_no (fun h => h9 h.2.2.2.2.1.2)]
    have hn : 65279 < off := by omega
    have hd : decide (off ≤ 65279) = false := by simp; omega
    have hd2 : decide (65279 < off) = true := by simp; omega
    go_enter Try.func17, Try.ntmps17
    go_wp2_with fail
    go_ret
    exact ⟨by first | rfl | (simp; omega), below_alloc _ _⟩
  have g9 : decide (65279 < off) = false := by simp; omega
  by_cases h10 : a.length ≤ 63
  case neg =>
    rw [mayB_no (fun h => h10 h.2.2.2.2.2.1)]
    have hn : 63 < a.length := by omega
    have hd : decide (a.length ≤ 63) = false := by simp; omega
    have hd2 : decide (63 < a.length) = true := by simp; omega
    go_enter Try.func17, Try.ntmps17
    go_wp2_with fail
    go_ret
    exact ⟨by first | rfl | (simp; omega), below_alloc _ _⟩
  have g10 : decide (63 < a.length) = false := by simp; omega
  by_cases h11 : b.length ≤ 63
  case neg =>
    rw [mayB_no (fun h => h11 h.2.2.2.2.2.2)]
    have hn : 63 < b.length := by omega
    have hd : decide (b.length ≤ 63) = false := by simp; omega
    have hd2 : decide (63 < b.length) = true := by simp; omega
    go_enter Try.func17, Try.ntmps17
    go_wp2_with fail
    go_ret
    exact ⟨by first | rfl | (simp; omega), below_alloc _ _⟩
  have g11 : decide (63 < b.length) = false := by simp; omega
  rw [mayB_yes ⟨⟨h0, h1⟩, ⟨h2, h3⟩, ⟨h4, h5⟩, ⟨h6, h7⟩, ⟨h8, h9⟩, h10, h11⟩]
  go_enter Try.func17, Try.ntmps17
  go_wp2_with fail
  go_ret
  exact ⟨by first | rfl | (simp; omega), below_alloc _ _⟩
end Go.Proofs.Ytoomdgjppfmdlaa
