/- 'awake': the calls that the law looks at first answer as it asks. -/
import Derived.Test.YtlelnpckbcpkkaaGreatZl
import Derived.Laws.StructEq
namespace Go.Proofs.YtlelnpckbcpkkaaGreat.cb
open Go.RowKit
open Go.Proofs.YtlelnpckbcpkkaaGreat.br
open Go.Proofs.YtlelnpckbcpkkaaGreat.bl (AB IsStop okW WR Pq U8)
set_option linter.unusedVariables false
set_option linter.unusedSimpArgs false

abbrev Stv (a b c : Int) : Value := .agg #[.int .i64 a, .int .i64 b, .int .i64 c]
theorem run_equal61 (a b c x y z : Int) (w : World) : (Op.equalIn 10000 61 (Stv a b c) (Stv x y z)).run Tryz.prog w = .ok (a == x && (b == y && c == z)) w := by
  have hS : Tryz.prog.underlying 61 = some (.struct (Tryz.prog.fieldsOf 61)) := by kernel_rfl
  have hp : Tryz.prog.stoodInHeld 61 = false := by kernel_rfl
  have u3 := Tryz.underlying3
  have a3 := Tryz.isAgg3
  have z3 := Tryz.sizeOf3
  rw [show (10000 : Nat) = 9999 + 1 from rfl, run_equalIn_agg w 9999 61 _ _ hS hp]
  simp only [Program.fieldsOf, Tryz.underlying61]
  go_simp
  by_cases h1 : a = x <;> by_cases h2 : b = y <;> by_cases h3 : c = z <;> simp [h1, h2, h3]
theorem run_eql61 (a b c x y z : Int) (w : World) : (binOp .eql 61 (Stv a b c) (Stv x y z)).run Tryz.prog w = .ok (.bool (a == x && (b == y && c == z))) w := by
  rw [run_eql_struct, run_equal61]; rfl
theorem guard61 (op : BinOp) (a b : Operand) (xs ys : Array Value) (w : World) : (eqGuard op 61 a b (.agg xs) (.agg ys)).run Tryz.prog w = .ok () w := run_eqGuard_agg w op 61 a b xs ys (by kernel_rfl)
section
variable {w0 w : World} {P : Nat}
abbrev Bk (w0 w : World) (P : Nat) (S : BS) (T : Nat) : Prop := BrX w0 w P No S 9 T
theorem c1 (h : Bk w0 w P fresh 0) : Calls Tryz.prog 28 #[Pq P, .int .i64 1, .string tA, .int .i64 2, .string tE] w (fun e w' => e = .returned (.tuple #[.int .i64 2, .int .i64 0]) ∧ Bk w0 w' P A1 1) := by
  have := x_make h (by omega) 1 tA 2 tE (by decide) (by decide)
  rw [f1] at this
  exact this.mono fun _ _ ⟨h1, h2, _⟩ => ⟨h1, h2⟩
theorem c2 (h : Bk w0 w P A1 1) : Calls Tryz.prog 28 #[Pq P, .int .i64 2, .string tB, .int .i64 1, .string tE] w (fun e w' => e = .returned (.tuple #[.int .i64 3, .int .i64 0]) ∧ Bk w0 w' P A2 2) := by
  have := x_make h (by omega) 2 tB 1 tE (by decide) (by decide)
  rw [f2] at this
  exact this.mono fun _ _ ⟨h1, h2, _⟩ => ⟨h1, h2⟩
theorem c4 (h : Bk w0 w P A3 3) : Calls Tryz.prog 32 #[Pq P, .int .i64 2, .string tB, .int .i64 1, .string tB] w (fun e w' => e = .returned (.int .i64 0) ∧ Bk w0 w' P A4 4) := by
  have := x_rename h (by omega) 2 tB 1 tB (by decide)
  rw [f4] at this
  exact this.mono fun _ _ ⟨h1, h2, _⟩ => ⟨h1, h2⟩
theorem c5 (h : Bk w0 w P A4 4) : Calls Tryz.prog 31 #[Pq P, .int .i64 1, .string tA] w (fun e w' => e = .returned (.int .i64 0) ∧ Bk w0 w' P A5 5) := by
  have := x_rmdir h (by omega) 1 tA
  rw [f5] at this
  exact this.mono fun _ _ ⟨h1, h2, _⟩ => ⟨h1, h2⟩
theorem c6 (h : Bk w0 w P A5 5) : Calls Tryz.prog 28 #[Pq P, .int .i64 1, .string tC, .int .i64 3, .string tT] w (fun e w' => e = .returned (.tuple #[.int .i64 2, .int .i64 0]) ∧ Bk w0 w' P A6 6) := by
  have := x_make h (by omega) 1 tC 3 tT (by decide) (by decide)
  rw [f6] at this
  exact this.mono fun _ _ ⟨h1, h2, _⟩ => ⟨h1, h2⟩
theorem c15 (h : Bk w0 w P A6 6) : Calls Tryz.prog 36 #[Pq P, .int .i64 3] w (fun e w' => e = .returned (.int .i64 0) ∧ Bk w0 w' P A7 7) := by
  have := x_hold h (by omega) 3
  rw [f15] at this
  exact this.mono fun _ _ ⟨h1, h2, _⟩ => ⟨h1, h2⟩
theorem c16 (h : Bk w0 w P A7 7) : Calls Tryz.prog 37 #[Pq P, .int .i64 3] w (fun e w' => e = .returned (.int .i64 0) ∧ Bk w0 w' P A8 8) := by
  have := x_release h (by omega) 3
  rw [f16] at this
  exact this.mono fun _ _ ⟨h1, h2, _⟩ => ⟨h1, h2⟩
theorem c17 (h : Bk w0 w P A8 8) : Calls Tryz.prog 38 #[Pq P, .int .i64 3, .int .i64 4] w (fun e w' => e = .returned (.int .i64 0) ∧ Bk w0 w' P A9 9) := by
  have := x_mark h 3 4
  rw [f17] at this
  exact this.mono fun _ _ ⟨h1, h2, _⟩ => ⟨h1, h2⟩
theorem c3 (h : Bk w0 w P A2 2) : Calls Tryz.prog 33 #[Pq P, .int .i64 3, .int .i64 0, .slice (some ⟨w.heap.size, 0, none⟩) 2 2] (w.alloc (.cells #[.int .u8 120, .int .u8 121] 5 (2, 3))) (fun e w' => e = .returned (.tuple #[.int .i64 2, .int .i64 0]) ∧ Bk w0 w' P A3 3) := by
  have h' := h.over (dn.below_alloc w (.cells #[.int .u8 120, .int .u8 121] 5 (2, 3)))
  refine (x_write h' 3 0 (some ⟨w.heap.size, 0, none⟩) 2 2 wF (fun j hj => ⟨w.heap.size, 0, rfl, .inr (.inl ⟨Nat.le_refl _, by simp⟩), ?_⟩) (Nat.le_refl _) (by decide)).mono ?_
  · rw [World.cell?_alloc_mark w _ 5 (2, 3) (0 + j)]
    rcases (show j = 0 ∨ j = 1 by omega) with rfl | rfl <;> rfl
  · rintro e w' ⟨p, err, S', hw, he, hb, _⟩
    rcases hw with ⟨h1, _⟩ | ⟨_, h2, _, _, rfl⟩
    · exact absurd f3 h1
    · rw [f3c] at h2
      have hs : IsStop (A2.at 3).body 0 9 0 2 p ∧ err = if p = 0 then 28 else 0 := by
        rcases h2 with ⟨e1, _⟩ | ⟨_, e2, _⟩ | ⟨e1, _⟩ | ⟨_, _, _, e4, e5⟩
        · omega
        · omega
        · omega
        · exact ⟨by simpa using e4, e5⟩
      obtain rfl := hs.1.eq f3s
      rw [hs.2] at he
      exact ⟨he, hb.forget⟩
theorem c7 (h : Bk w0 w P A6 6) : Calls Tryz.prog 39 #[Pq P, .int .i64 2] w (fun e w' => e = .returned (.tuple #[.string tT, .int .i64 0]) ∧ Bk w0 w' P A6 6) := by
  have := x_target h 2
  rw [f7] at this
  exact this.mono fun _ _ ⟨h1, h2⟩ => ⟨h1, by rw [h2]; exact h⟩
theorem c8 (h : Bk w0 w P A6 6) : Calls Tryz.prog 26 #[Pq P, .int .i64 3] w (fun e w' => e = .returned (.tuple #[.agg #[.int .i64 1, .int .i64 2, .int .i64 1], .int .i64 0]) ∧ Bk w0 w' P A6 6) := by
  have := x_stat h 3
  unfold RetW statV at this
  rw [f8] at this
  exact this.mono fun _ _ ⟨h1, h2⟩ => ⟨h1, h.below h2⟩
theorem c9 (h : Bk w0 w P A6 6) : Calls Tryz.prog 24 #[Pq P, .int .i64 1] w (fun e w' => ∃ o c, e = .returned (.tuple #[.slice o 2 c, .int .i64 0]) ∧ Bk w0 w' P A6 6 ∧ Below w.heap.size w w') := by
  refine (x_all h 1).mono ?_
  rintro e w' ⟨o, c, he, _, _, _, hb⟩
  rw [f9.1, f9.2] at he
  exact ⟨_, c, he, h.below hb, hb⟩
theorem c10 (h : Bk w0 w P A6 6) : Calls Tryz.prog 15 #[Pq P, .int .i64 1, .string tB] w (fun e w' => e = .returned (.tuple #[.int .i64 3, .int .i64 0]) ∧ Bk w0 w' P A6 6 ∧ Below w.heap.size w w') := by
  have := x_get h 1 tB
  unfold RetW at this
  rw [f10] at this
  exact this.mono fun _ _ ⟨h1, h2⟩ => ⟨h1, h.below h2, h2⟩
theorem box3 (w w' : World) (a b c : Int) (h : Below (w.alloc (.cells #[.int .i64 a, .int .i64 b, .int .i64 c] 61)).heap.size (w.alloc (.cells #[.int .i64 a, .int .i64 b, .int .i64 c] 61)) w') :
    w'.cell? ⟨w.heap.size, 0, none⟩ = some (.int .i64 a) ∧ w'.cell? ⟨w.heap.size, 1, none⟩ = some (.int .i64 b) ∧ w'.cell? ⟨w.heap.size, 2, none⟩ = some (.int .i64 c) := by
  have hz := World.size_alloc w (.cells #[.int .i64 a, .int .i64 b, .int .i64 c] 61)
  refine ⟨(h.cell (p := ⟨w.heap.size, 0, none⟩) (by show w.heap.size < _; omega)).trans ?_, (h.cell (p := ⟨w.heap.size, 1, none⟩) (by show w.heap.size < _; omega)).trans ?_, (h.cell (p := ⟨w.heap.size, 2, none⟩) (by show w.heap.size < _; omega)).trans ?_⟩ <;> simp
theorem c11 (h : Bk w0 w P A6 6) : Calls Tryz.prog 19 #[Pq P] w (fun e w' => e = .returned (.int .i64 1) ∧ Bk w0 w' P A6 6) := by
  have := x_used h
  rw [f11] at this
  exact this.mono fun _ _ ⟨h1, h2⟩ => ⟨h1, by rw [h2]; exact h⟩
theorem c12 (h : Bk w0 w P A6 6) : Calls Tryz.prog 20 #[Pq P] w (fun e w' => e = .returned (.int .i64 3) ∧ Bk w0 w' P A6 6) := by
  have := x_inodes h
  rw [f12] at this
  exact this.mono fun _ _ ⟨h1, h2⟩ => ⟨h1, by rw [h2]; exact h⟩
theorem c13 (h : Bk w0 w P A6 6) : Calls Tryz.prog 23 #[Pq P, .int .i64 2] w (fun e w' => e = .returned (.int .i64 3) ∧ Bk w0 w' P A6 6) := by
  have := x_kind h 2
  unfold RetI at this
  rw [f13] at this
  exact this.mono fun _ _ ⟨h1, h2⟩ => ⟨h1, h.below h2⟩
theorem c14 (h : Bk w0 w P A6 6) : Calls Tryz.prog 25 #[Pq P, .int .i64 1] w (fun e w' => e = .returned (.int .i64 1) ∧ Bk w0 w' P A6 6) := by
  have := x_parent h 1
  unfold RetI at this
  rw [f14] at this
  exact this.mono fun _ _ ⟨h1, h2⟩ => ⟨h1, h.below h2⟩
theorem c18 (h : Bk w0 w P A9 9) : Calls Tryz.prog 40 #[Pq P, .int .i64 3] w (fun e w' => e = .returned (.int .i64 4) ∧ Bk w0 w' P A9 9) := by
  have := x_marks h 3
  unfold RetI at this
  rw [f18] at this
  exact this.mono fun _ _ ⟨h1, h2⟩ => ⟨h1, h.below h2⟩
theorem c19 (h : Bk w0 w P A9 9) : Calls Tryz.prog 30 #[Pq P, .int .i64 1, .string tB] w (fun e w' => e = .returned (.int .i64 0) ∧ Below w0.heap.size w0 w') := by
  have := x_unlink h (by omega) 1 tB
  rw [f19] at this
  exact this.mono fun _ _ ⟨h1, h2, _⟩ => ⟨h1, h2.bel⟩
def AwakeE (w : World) (e : Ending) (w' : World) : Prop := e = .returned (.bool true) ∧ Below w.heap.size w w'
set_option maxRecDepth 100000 in
set_option maxHeartbeats 4000000 in
theorem awake_any (w : World) : Calls Tryz.prog 11 #[] w (AwakeE w) := by
  have HN := Lib.hid (new_no (-1))
  have H0 := Lib.hid (x_new (w0 := w) (w := w) 9 (by decide) (Below.refl _ _))
  go_enter Tryz.func11, Tryz.ntmps11
  go_wp2_with fail
  refine H0.out.mono ?_
  rintro e w1 ⟨P, rfl, hb, _⟩
  have H1 := Lib.hid (show Bk w w1 P fresh 0 from hb.forget)
  clear hb H0
  go_wp2_with fail
  refine (HN.out _ (by omega)).mono ?_
  rintro e w1 ⟨rfl, rfl⟩
  clear HN
  go_wp2_with fail
  refine (c1 H1.out).mono ?_
  rintro e w2 ⟨rfl, hb⟩
  have H2 := Lib.hid hb
  clear hb H1
  go_wp2_with fail
  refine (c2 H2.out).mono ?_
  rintro e w3 ⟨rfl, hb⟩
  have H3 := Lib.hid hb
  clear hb H2
  have hcv := Lib.run_convert_bytes_const (P := Tryz.prog) w3 40 5 #[.int .u8 120, .int .u8 121] 2 2 Tryz.underlying40 Tryz.underlying5
  go_wp2_with fail
  refine (c3 H3.out).mono ?_
  rintro e w4 ⟨rfl, hb⟩
  have H4 := Lib.hid hb
  clear hb H3
  clear hcv
  go_wp2_with fail
  refine (c4 H4.out).mono ?_
  rintro e w5 ⟨rfl, hb⟩
  have H5 := Lib.hid hb
  clear hb H4
  go_wp2_with fail
  refine (c5 H5.out).mono ?_
  rintro e w6 ⟨rfl, hb⟩
  have H6 := Lib.hid hb
  clear hb H5
  go_wp2_with fail
  refine (c6 H6.out).mono ?_
  rintro e w7 ⟨rfl, hb⟩
  have H7 := Lib.hid hb
  clear hb H6
  go_wp2_with fail
  refine (c7 H7.out).mono ?_
  rintro e w8 ⟨rfl, hb⟩
  have H8 := Lib.hid hb
  clear hb H7
  go_wp2_with fail
  refine (c8 H8.out).mono ?_
  rintro e w9 ⟨rfl, hb⟩
  have H9 := Lib.hid hb
  clear hb H8
  have e61 := fun w => run_eql61 1 2 1 1 2 1 w
  have g61 := guard61
  go_wp2_with fail
  refine (c9 (H9.out.below (dn.below_alloc _ _))).mono ?_
  rintro e w10 ⟨o9, n9, rfl, hb, hl⟩
  have HL9 := Lib.hid hl
  clear hl
  have H10 := Lib.hid hb
  clear hb H9
  go_wp2_with fail
  refine (c10 H10.out).mono ?_
  rintro e w11 ⟨rfl, hb, hl⟩
  obtain ⟨s0, s1, s2⟩ := box3 _ _ _ _ _ (HL9.out.trans (hl.mono HL9.out.size))
  clear hl HL9
  have H11 := Lib.hid hb
  clear hb H10
  go_wp2_with fail
  refine (c11 H11.out).mono ?_
  rintro e w12 ⟨rfl, hb⟩
  have H12 := Lib.hid hb
  clear hb H11
  go_wp2_with fail
  refine (c12 H12.out).mono ?_
  rintro e w13 ⟨rfl, hb⟩
  have H13 := Lib.hid hb
  clear hb H12
  go_wp2_with fail
  refine (c13 H13.out).mono ?_
  rintro e w14 ⟨rfl, hb⟩
  have H14 := Lib.hid hb
  clear hb H13
  go_wp2_with fail
  refine (c14 H14.out).mono ?_
  rintro e w15 ⟨rfl, hb⟩
  have H15 := Lib.hid hb
  clear hb H14
  go_wp2_with fail
  refine (c15 H15.out).mono ?_
  rintro e w16 ⟨rfl, hb⟩
  have H16 := Lib.hid hb
  clear hb H15
  go_wp2_with fail
  refine (c16 H16.out).mono ?_
  rintro e w17 ⟨rfl, hb⟩
  have H17 := Lib.hid hb
  clear hb H16
  go_wp2_with fail
  refine (c17 H17.out).mono ?_
  rintro e w18 ⟨rfl, hb⟩
  have H18 := Lib.hid hb
  clear hb H17
  go_wp2_with fail
  refine (c18 H18.out).mono ?_
  rintro e w19 ⟨rfl, hb⟩
  have H19 := Lib.hid hb
  clear hb H18
  go_wp2_with fail
  refine (c19 H19.out).mono ?_
  rintro e w20 ⟨rfl, hb⟩
  have H20 := Lib.hid hb
  clear hb H19
  go_wp2_with fail
  go_ret
  exact ⟨rfl, H20.out⟩
end
end Go.Proofs.YtlelnpckbcpkkaaGreat.cb
