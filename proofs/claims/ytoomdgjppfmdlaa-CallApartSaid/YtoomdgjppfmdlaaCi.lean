/- A call, made of the bytes that a closure takes. -/
import Derived.Test.YtoomdgjppfmdlaaCh
namespace Go.Proofs.Ytoomdgjppfmdlaa
open Go.RowKit
set_option linter.unusedVariables false
set_option linter.unusedSimpArgs false

theorem set_at {w : World} {X : Nat} {vs : Array Value} {t : TypeId} {m : Nat × Nat} (h : w.heap[X]? = some (.cells vs t m)) (j : Nat) (u : Value) : (w.setCell ⟨X, j, none⟩ u).heap[X]? = some (.cells (vs.setIfInBounds j u) t m) := by
  simp [World.setCell, Array.getElem?_modify, h]
theorem set_off {w : World} {X Y : Nat} {o : Obj} (h : w.heap[X]? = some o) (hne : X ≠ Y) (j : Nat) (u : Value) : (w.setCell ⟨Y, j, none⟩ u).heap[X]? = some o :=
  (Below.heap_setCell _ _ _ _ (by exact hne)).trans h
theorem row_frozen {w : World} {X j : Nat} {vs : Array Value} {t : TypeId} (h : w.heap[X]? = some (.cells vs t (0, 0))) : w.frozen? ⟨X, j, none⟩ = false := by simp [World.frozen?, h]
theorem there7 {w : World} {b : Nat} {vs : Array Value} {t : TypeId} (h : w.heap[b]? = some (.cells vs t (0, 0))) (hs : vs.size = 7) : w.there b 0 7 := fun j hj =>
  ⟨by rw [cell_row h, Nat.zero_add, Array.getElem?_eq_getElem (by omega)]; rfl, by simp [World.frozen?, h]⟩
theorem set7_form (w : World) (b : Nat) (x0 x1 x2 x3 x4 x5 x6 : Value) : (((((((w.setCell ⟨b, 0, none⟩ x0).setCell ⟨b, 1, none⟩ x1).setCell ⟨b, 2, none⟩ x2).setCell ⟨b, 3, none⟩ x3).setCell ⟨b, 4, none⟩ x4).setCell ⟨b, 5, none⟩ x5).setCell ⟨b, 6, none⟩ x6) = w.setCells b 0 [x0, x1, x2, x3, x4, x5, x6] := rfl
theorem results_row {fn : Func} {p : Tmp} {ty : TypeId} (h : fn.results = #[.cell p ty]) (tmps : Array Value) (w : World) (b : Nat) (cs : List Value) (d : TypeDesc)
    (hp : tmps.getD p undef = .pointer (some ⟨b, 0, none⟩)) (hc : w.rangeAt b 0 cs) (hu : Try.prog.underlying ty = some d) (hd : d.isRow = true) (hi : (Try.prog.info? ty).map (·.size) = some cs.length) :
    (results fn tmps).run Try.prog w = .ok (.agg cs.toArray) w := by
  rw [Array.getD_eq_getD_getElem?] at hp
  simp only [results, h]
  simp [Sem.run_bind, Result.andThen, hp, asAddr, run_loadVar_mid w b 0 ty cs d hc hu hd hi]
def Zc : Array Value := #[.int .i64 0, .int .i64 0, .int .i64 0, .int .i64 0, .int .i64 0, .string ⟨#[]⟩, .string ⟨#[]⟩]
set_option maxHeartbeats 4000000 in
set_option maxRecDepth 100000 in
theorem done_any {P Q n c i : Nat} {A : Option Addr} {l : Bs} (w : World) (h : Nx w P Q A n c l i) : Calls Try.prog 21 #[Fv P Q] w (NextE w P Q A n c l (CV (dec l i)) (i + wid l i)) := by
  have hPw := h.lt
  have HA := Lib.hid (fun o1 o2 => (h.below ((below_alloc w o1).trans ((below_alloc (w.alloc o1) o2).mono (by rw [World.size_alloc]; omega)))))
  have HROW := Lib.hid (fun o1 o2 (W : World) (hW : OnlyP P ((w.alloc o1).alloc o2) W) => (show W.heap[w.heap.size]? = some o1 ∧ W.heap[w.heap.size + 1]? = some o2 ∧ OnlyP P w W ∧ w.heap.size + 1 < W.heap.size from by
    have s1 := World.size_alloc w o1
    have s2 := World.size_alloc (w.alloc o1) o2
    have hs := hW.size
    refine ⟨(hW.block _ (by omega) (by omega)).trans ((Below.heap_alloc _ _ _ (by omega)).trans (heap_alloc_new w o1)), (hW.block _ (by omega) (by omega)).trans (by rw [← s1]; exact heap_alloc_new _ o2), ?_, by omega⟩
    exact (OnlyP.of_below (below_alloc w o1)).trans ((OnlyP.of_below (below_alloc _ o2)).trans hW)))
  have HD := Lib.hid (show CV (dec l i) = CV ⟨1 + ((at_ l i : Nat) : Int) % 20, -4 + ((at_ l (i + 1) : Nat) : Int) % 40, ((at_ l (i + 2) : Nat) : Int) % 64, num l (i + 3), num l (i + 5), txt l (i + 7 + 1) (at_ l (i + 7) % 64), txt l (i + 7 + 1 + at_ l (i + 7) % 64 + 1) (at_ l (i + 7 + 1 + at_ l (i + 7) % 64) % 64)⟩ from by
    rw [show i + 7 + 1 + at_ l (i + 7) % 64 + 1 = i + 9 + at_ l (i + 7) % 64 from by omega]
    simp [dec, la, lb]; omega)
  have HW := Lib.hid (show i + wid l i = i + 7 + 1 + at_ l (i + 7) % 64 + 1 + at_ l (i + 7 + 1 + at_ l (i + 7) % 64) % 64 from by
    unfold wid lb la
    rw [show i + 8 = i + 7 + 1 from rfl]
    omega)
  have b0 := at_lt l i
  have b1 := at_lt l (i + 1)
  have b2 := at_lt l (i + 2)
  obtain ⟨R, hR⟩ : ∃ R, w.heap.size = R := ⟨_, rfl⟩
  rw [hR] at hPw
  have HRR := Lib.hid (show R = w.heap.size from hR.symm)
  clear h
  go_enter Try.func21, Try.ntmps21
  go_wp2_with fail
  refine (next_any (i := i) _ (HA.out _ _)).mono ?_
  rintro e x0 ⟨rfl, h0, p0⟩
  obtain ⟨r0, q0, p0', s0⟩ := HROW.out _ _ _ p0
  rw [hR] at r0 q0 s0
  have c0 : x0.cell? ⟨R + 1, 0, none⟩ = some (.int .i64 0) := by rw [cell_row q0]; rfl
  have f0 : x0.frozen? ⟨R + 1, 0, none⟩ = false := row_frozen q0
  have HR0 := Lib.hid (set_off r0 (Nat.ne_of_lt (Nat.lt_succ_self R)) 0 (.int .i64 (1 + ((at_ l i : Nat) : Int) % 20)))
  have HQ0 := Lib.hid (show (x0.setCell ⟨R + 1, 0, none⟩ (.int .i64 (1 + ((at_ l i : Nat) : Int) % 20))).heap[R + 1]? = some (.cells #[(.int .i64 (1 + ((at_ l i : Nat) : Int) % 20)), .int .i64 0, .int .i64 0, .int .i64 0, .int .i64 0, .string ⟨#[]⟩, .string ⟨#[]⟩] 32 (0, 0)) from set_at q0 0 (.int .i64 (1 + ((at_ l i : Nat) : Int) % 20)))
  have HN0 := Lib.hid (h0.far (X := R + 1) (j := 0) (by omega) (.int .i64 (1 + ((at_ l i : Nat) : Int) % 20)))
  have HP0 := Lib.hid (p0'.far (X := R + 1) (j := 0) (by have := HRR.out; omega) (.int .i64 (1 + ((at_ l i : Nat) : Int) % 20)))
  have z0 := World.size_setCell x0 ⟨R + 1, 0, none⟩ (.int .i64 (1 + ((at_ l i : Nat) : Int) % 20))
  obtain ⟨y0, hy0⟩ : ∃ y0, x0.setCell ⟨R + 1, 0, none⟩ (.int .i64 (1 + ((at_ l i : Nat) : Int) % 20)) = y0 := ⟨_, rfl⟩
  rw [hy0] at HR0 HQ0 HN0 HP0 z0
  have s0' : R + 1 < y0.heap.size := by omega
  clear s0 z0 h0 p0 r0 q0 p0'
  have s0 := s0'
  clear s0'
  go_wp2_with fail
  clear c0 f0 hy0
  refine (next_any (i := i + 1) _ HN0.out).mono ?_
  rintro e x1 ⟨rfl, h1, p1⟩
  have r1 := (p1.block R (by have := s0; omega) (by omega)).trans HR0.out
  have q1 := (p1.block (R + 1) s0 (by omega)).trans HQ0.out
  have p1' := HP0.out.trans p1
  have s1 : R + 1 < x1.heap.size := by have := p1.size; omega
  clear s0
  have c1 : x1.cell? ⟨R + 1, 1, none⟩ = some (.int .i64 0) := by rw [cell_row q1]; rfl
  have f1 : x1.frozen? ⟨R + 1, 1, none⟩ = false := row_frozen q1
  have HR1 := Lib.hid (set_off r1 (Nat.ne_of_lt (Nat.lt_succ_self R)) 1 (.int .i64 (-4 + ((at_ l (i + 1) : Nat) : Int) % 40)))
  have HQ1 := Lib.hid (show (x1.setCell ⟨R + 1, 1, none⟩ (.int .i64 (-4 + ((at_ l (i + 1) : Nat) : Int) % 40))).heap[R + 1]? = some (.cells #[(.int .i64 (1 + ((at_ l i : Nat) : Int) % 20)), (.int .i64 (-4 + ((at_ l (i + 1) : Nat) : Int) % 40)), .int .i64 0, .int .i64 0, .int .i64 0, .string ⟨#[]⟩, .string ⟨#[]⟩] 32 (0, 0)) from set_at q1 1 (.int .i64 (-4 + ((at_ l (i + 1) : Nat) : Int) % 40)))
  have HN1 := Lib.hid (h1.far (X := R + 1) (j := 1) (by omega) (.int .i64 (-4 + ((at_ l (i + 1) : Nat) : Int) % 40)))
  have HP1 := Lib.hid (p1'.far (X := R + 1) (j := 1) (by have := HRR.out; omega) (.int .i64 (-4 + ((at_ l (i + 1) : Nat) : Int) % 40)))
  have z1 := World.size_setCell x1 ⟨R + 1, 1, none⟩ (.int .i64 (-4 + ((at_ l (i + 1) : Nat) : Int) % 40))
  obtain ⟨y1, hy1⟩ : ∃ y1, x1.setCell ⟨R + 1, 1, none⟩ (.int .i64 (-4 + ((at_ l (i + 1) : Nat) : Int) % 40)) = y1 := ⟨_, rfl⟩
  rw [hy1] at HR1 HQ1 HN1 HP1 z1
  have s1' : R + 1 < y1.heap.size := by omega
  clear s1 z1 h1 p1 r1 q1 p1'
  have s1 := s1'
  clear s1'
  go_wp2_with fail
  clear c1 f1 hy1
  refine (next_any (i := i + 2) _ HN1.out).mono ?_
  rintro e x2 ⟨rfl, h2, p2⟩
  have r2 := (p2.block R (by have := s1; omega) (by omega)).trans HR1.out
  have q2 := (p2.block (R + 1) s1 (by omega)).trans HQ1.out
  have p2' := HP1.out.trans p2
  have s2 : R + 1 < x2.heap.size := by have := p2.size; omega
  clear s1
  have c2 : x2.cell? ⟨R + 1, 2, none⟩ = some (.int .i64 0) := by rw [cell_row q2]; rfl
  have f2 : x2.frozen? ⟨R + 1, 2, none⟩ = false := row_frozen q2
  have HR2 := Lib.hid (set_off r2 (Nat.ne_of_lt (Nat.lt_succ_self R)) 2 (.int .i64 (((at_ l (i + 2) : Nat) : Int) % 64)))
  have HQ2 := Lib.hid (show (x2.setCell ⟨R + 1, 2, none⟩ (.int .i64 (((at_ l (i + 2) : Nat) : Int) % 64))).heap[R + 1]? = some (.cells #[(.int .i64 (1 + ((at_ l i : Nat) : Int) % 20)), (.int .i64 (-4 + ((at_ l (i + 1) : Nat) : Int) % 40)), (.int .i64 (((at_ l (i + 2) : Nat) : Int) % 64)), .int .i64 0, .int .i64 0, .string ⟨#[]⟩, .string ⟨#[]⟩] 32 (0, 0)) from set_at q2 2 (.int .i64 (((at_ l (i + 2) : Nat) : Int) % 64)))
  have HN2 := Lib.hid (h2.far (X := R + 1) (j := 2) (by omega) (.int .i64 (((at_ l (i + 2) : Nat) : Int) % 64)))
  have HP2 := Lib.hid (p2'.far (X := R + 1) (j := 2) (by have := HRR.out; omega) (.int .i64 (((at_ l (i + 2) : Nat) : Int) % 64)))
  have z2 := World.size_setCell x2 ⟨R + 1, 2, none⟩ (.int .i64 (((at_ l (i + 2) : Nat) : Int) % 64))
  obtain ⟨y2, hy2⟩ : ∃ y2, x2.setCell ⟨R + 1, 2, none⟩ (.int .i64 (((at_ l (i + 2) : Nat) : Int) % 64)) = y2 := ⟨_, rfl⟩
  rw [hy2] at HR2 HQ2 HN2 HP2 z2
  have s2' : R + 1 < y2.heap.size := by omega
  clear s2 z2 h2 p2 r2 q2 p2'
  have s2 := s2'
  clear s2'
  go_wp2_with fail
  clear c2 f2 hy2
  refine (dnum_any (i := i + 3) _ HN2.out).mono ?_
  rintro e x3 ⟨rfl, h3, p3⟩
  have r3 := (p3.block R (by have := s2; omega) (by omega)).trans HR2.out
  have q3 := (p3.block (R + 1) s2 (by omega)).trans HQ2.out
  have p3' := HP2.out.trans p3
  have s3 : R + 1 < x3.heap.size := by have := p3.size; omega
  clear s2
  have c3 : x3.cell? ⟨R + 1, 3, none⟩ = some (.int .i64 0) := by rw [cell_row q3]; rfl
  have f3 : x3.frozen? ⟨R + 1, 3, none⟩ = false := row_frozen q3
  have HR3 := Lib.hid (set_off r3 (Nat.ne_of_lt (Nat.lt_succ_self R)) 3 (.int .i64 (num l (i + 3))))
  have HQ3 := Lib.hid (show (x3.setCell ⟨R + 1, 3, none⟩ (.int .i64 (num l (i + 3)))).heap[R + 1]? = some (.cells #[(.int .i64 (1 + ((at_ l i : Nat) : Int) % 20)), (.int .i64 (-4 + ((at_ l (i + 1) : Nat) : Int) % 40)), (.int .i64 (((at_ l (i + 2) : Nat) : Int) % 64)), (.int .i64 (num l (i + 3))), .int .i64 0, .string ⟨#[]⟩, .string ⟨#[]⟩] 32 (0, 0)) from set_at q3 3 (.int .i64 (num l (i + 3))))
  have HN3 := Lib.hid (h3.far (X := R + 1) (j := 3) (by omega) (.int .i64 (num l (i + 3))))
  have HP3 := Lib.hid (p3'.far (X := R + 1) (j := 3) (by have := HRR.out; omega) (.int .i64 (num l (i + 3))))
  have z3 := World.size_setCell x3 ⟨R + 1, 3, none⟩ (.int .i64 (num l (i + 3)))
  obtain ⟨y3, hy3⟩ : ∃ y3, x3.setCell ⟨R + 1, 3, none⟩ (.int .i64 (num l (i + 3))) = y3 := ⟨_, rfl⟩
  rw [hy3] at HR3 HQ3 HN3 HP3 z3
  have s3' : R + 1 < y3.heap.size := by omega
  clear s3 z3 h3 p3 r3 q3 p3'
  have s3 := s3'
  clear s3'
  go_wp2_with fail
  clear c3 f3 hy3
  refine (dnum_any (i := i + 5) _ HN3.out).mono ?_
  rintro e x4 ⟨rfl, h4, p4⟩
  have r4 := (p4.block R (by have := s3; omega) (by omega)).trans HR3.out
  have q4 := (p4.block (R + 1) s3 (by omega)).trans HQ3.out
  have p4' := HP3.out.trans p4
  have s4 : R + 1 < x4.heap.size := by have := p4.size; omega
  clear s3
  have c4 : x4.cell? ⟨R + 1, 4, none⟩ = some (.int .i64 0) := by rw [cell_row q4]; rfl
  have f4 : x4.frozen? ⟨R + 1, 4, none⟩ = false := row_frozen q4
  have HR4 := Lib.hid (set_off r4 (Nat.ne_of_lt (Nat.lt_succ_self R)) 4 (.int .i64 (num l (i + 5))))
  have HQ4 := Lib.hid (show (x4.setCell ⟨R + 1, 4, none⟩ (.int .i64 (num l (i + 5)))).heap[R + 1]? = some (.cells #[(.int .i64 (1 + ((at_ l i : Nat) : Int) % 20)), (.int .i64 (-4 + ((at_ l (i + 1) : Nat) : Int) % 40)), (.int .i64 (((at_ l (i + 2) : Nat) : Int) % 64)), (.int .i64 (num l (i + 3))), (.int .i64 (num l (i + 5))), .string ⟨#[]⟩, .string ⟨#[]⟩] 32 (0, 0)) from set_at q4 4 (.int .i64 (num l (i + 5))))
  have HN4 := Lib.hid (h4.far (X := R + 1) (j := 4) (by omega) (.int .i64 (num l (i + 5))))
  have HP4 := Lib.hid (p4'.far (X := R + 1) (j := 4) (by have := HRR.out; omega) (.int .i64 (num l (i + 5))))
  have z4 := World.size_setCell x4 ⟨R + 1, 4, none⟩ (.int .i64 (num l (i + 5)))
  obtain ⟨y4, hy4⟩ : ∃ y4, x4.setCell ⟨R + 1, 4, none⟩ (.int .i64 (num l (i + 5))) = y4 := ⟨_, rfl⟩
  rw [hy4] at HR4 HQ4 HN4 HP4 z4
  have s4' : R + 1 < y4.heap.size := by omega
  clear s4 z4 h4 p4 r4 q4 p4'
  have s4 := s4'
  clear s4'
  go_wp2_with fail
  clear c4 f4 hy4
  refine (dtext_any (i := i + 7) _ HN4.out).mono ?_
  rintro e x5 ⟨rfl, h5, p5⟩
  have r5 := (p5.block R (by have := s4; omega) (by omega)).trans HR4.out
  have q5 := (p5.block (R + 1) s4 (by omega)).trans HQ4.out
  have p5' := HP4.out.trans p5
  have s5 : R + 1 < x5.heap.size := by have := p5.size; omega
  clear s4
  have c5 : x5.cell? ⟨R + 1, 5, none⟩ = some (.string ⟨#[]⟩) := by rw [cell_row q5]; rfl
  have f5 : x5.frozen? ⟨R + 1, 5, none⟩ = false := row_frozen q5
  have HR5 := Lib.hid (set_off r5 (Nat.ne_of_lt (Nat.lt_succ_self R)) 5 (Sv (txt l (i + 7 + 1) (at_ l (i + 7) % 64))))
  have HQ5 := Lib.hid (show (x5.setCell ⟨R + 1, 5, none⟩ (Sv (txt l (i + 7 + 1) (at_ l (i + 7) % 64)))).heap[R + 1]? = some (.cells #[(.int .i64 (1 + ((at_ l i : Nat) : Int) % 20)), (.int .i64 (-4 + ((at_ l (i + 1) : Nat) : Int) % 40)), (.int .i64 (((at_ l (i + 2) : Nat) : Int) % 64)), (.int .i64 (num l (i + 3))), (.int .i64 (num l (i + 5))), (Sv (txt l (i + 7 + 1) (at_ l (i + 7) % 64))), .string ⟨#[]⟩] 32 (0, 0)) from set_at q5 5 (Sv (txt l (i + 7 + 1) (at_ l (i + 7) % 64))))
  have HN5 := Lib.hid (h5.far (X := R + 1) (j := 5) (by omega) (Sv (txt l (i + 7 + 1) (at_ l (i + 7) % 64))))
  have HP5 := Lib.hid (p5'.far (X := R + 1) (j := 5) (by have := HRR.out; omega) (Sv (txt l (i + 7 + 1) (at_ l (i + 7) % 64))))
  have z5 := World.size_setCell x5 ⟨R + 1, 5, none⟩ (Sv (txt l (i + 7 + 1) (at_ l (i + 7) % 64)))
  obtain ⟨y5, hy5⟩ : ∃ y5, x5.setCell ⟨R + 1, 5, none⟩ (Sv (txt l (i + 7 + 1) (at_ l (i + 7) % 64))) = y5 := ⟨_, rfl⟩
  rw [hy5] at HR5 HQ5 HN5 HP5 z5
  have s5' : R + 1 < y5.heap.size := by omega
  clear s5 z5 h5 p5 r5 q5 p5'
  have s5 := s5'
  clear s5'
  go_wp2_with fail
  clear c5 f5 hy5
  refine (dtext_any (i := i + 7 + 1 + at_ l (i + 7) % 64) _ HN5.out).mono ?_
  rintro e x6 ⟨rfl, h6, p6⟩
  have r6 := (p6.block R (by have := s5; omega) (by omega)).trans HR5.out
  have q6 := (p6.block (R + 1) s5 (by omega)).trans HQ5.out
  have p6' := HP5.out.trans p6
  have s6 : R + 1 < x6.heap.size := by have := p6.size; omega
  clear s5
  have c6 : x6.cell? ⟨R + 1, 6, none⟩ = some (.string ⟨#[]⟩) := by rw [cell_row q6]; rfl
  have f6 : x6.frozen? ⟨R + 1, 6, none⟩ = false := row_frozen q6
  have HR6 := Lib.hid (set_off r6 (Nat.ne_of_lt (Nat.lt_succ_self R)) 6 (Sv (txt l (i + 7 + 1 + at_ l (i + 7) % 64 + 1) (at_ l (i + 7 + 1 + at_ l (i + 7) % 64) % 64))))
  have HQ6 := Lib.hid (show (x6.setCell ⟨R + 1, 6, none⟩ (Sv (txt l (i + 7 + 1 + at_ l (i + 7) % 64 + 1) (at_ l (i + 7 + 1 + at_ l (i + 7) % 64) % 64)))).heap[R + 1]? = some (.cells #[(.int .i64 (1 + ((at_ l i : Nat) : Int) % 20)), (.int .i64 (-4 + ((at_ l (i + 1) : Nat) : Int) % 40)), (.int .i64 (((at_ l (i + 2) : Nat) : Int) % 64)), (.int .i64 (num l (i + 3))), (.int .i64 (num l (i + 5))), (Sv (txt l (i + 7 + 1) (at_ l (i + 7) % 64))), (Sv (txt l (i + 7 + 1 + at_ l (i + 7) % 64 + 1) (at_ l (i + 7 + 1 + at_ l (i + 7) % 64) % 64)))] 32 (0, 0)) from set_at q6 6 (Sv (txt l (i + 7 + 1 + at_ l (i + 7) % 64 + 1) (at_ l (i + 7 + 1 + at_ l (i + 7) % 64) % 64))))
  have HN6 := Lib.hid (h6.far (X := R + 1) (j := 6) (by omega) (Sv (txt l (i + 7 + 1 + at_ l (i + 7) % 64 + 1) (at_ l (i + 7 + 1 + at_ l (i + 7) % 64) % 64))))
  have HP6 := Lib.hid (p6'.far (X := R + 1) (j := 6) (by have := HRR.out; omega) (Sv (txt l (i + 7 + 1 + at_ l (i + 7) % 64 + 1) (at_ l (i + 7 + 1 + at_ l (i + 7) % 64) % 64))))
  have z6 := World.size_setCell x6 ⟨R + 1, 6, none⟩ (Sv (txt l (i + 7 + 1 + at_ l (i + 7) % 64 + 1) (at_ l (i + 7 + 1 + at_ l (i + 7) % 64) % 64)))
  obtain ⟨y6, hy6⟩ : ∃ y6, x6.setCell ⟨R + 1, 6, none⟩ (Sv (txt l (i + 7 + 1 + at_ l (i + 7) % 64 + 1) (at_ l (i + 7 + 1 + at_ l (i + 7) % 64) % 64))) = y6 := ⟨_, rfl⟩
  rw [hy6] at HR6 HQ6 HN6 HP6 z6
  have s6' : R + 1 < y6.heap.size := by omega
  clear s6 z6 h6 p6 r6 q6 p6'
  have s6 := s6'
  clear s6'
  have d0 := HQ6.out
  obtain ⟨k0, k1, k2, k3, k4, k5, k6, -, -⟩ := row7 d0
  have HT := Lib.hid (there7 HR6.out rfl)
  have HF := Lib.hid (show ∀ x0 x1 x2 x3 x4 x5 x6, Nx (y6.setCells R 0 [x0, x1, x2, x3, x4, x5, x6]) P Q A n c l (i + wid l i) ∧ OnlyP P w (y6.setCells R 0 [x0, x1, x2, x3, x4, x5, x6]) from fun x0 x1 x2 x3 x4 x5 x6 => by
    rw [HW.out, ← set7_form]
    refine ⟨?_, ?_⟩
    · exact ((((((HN6.out.far hPw x0).far hPw x1).far hPw x2).far hPw x3).far hPw x4).far hPw x5).far hPw x6
    · have hh : w.heap.size ≤ R := by have := HRR.out; omega
      exact ((((((HP6.out.far hh x0).far hh x1).far hh x2).far hh x3).far hh x4).far hh x5).far hh x6)
  clear d0
  go_wp2_with (refine wpList_store_mid (by rfl) 32 (.tmp 2) (.tmp 30) (by rfl) R 0 #[(.int .i64 (1 + ((at_ l i : Nat) : Int) % 20)), (.int .i64 (-4 + ((at_ l (i + 1) : Nat) : Int) % 40)), (.int .i64 (((at_ l (i + 2) : Nat) : Int) % 64)), (.int .i64 (num l (i + 3))), (.int .i64 (num l (i + 5))), (Sv (txt l (i + 7 + 1) (at_ l (i + 7) % 64))), (Sv (txt l (i + 7 + 1 + at_ l (i + 7) % 64 + 1) (at_ l (i + 7 + 1 + at_ l (i + 7) % 64) % 64)))] (by rfl) (by rfl) HT.out (by kernel_rfl) (by simp [Value.oneCell']) ?_)

  refine bodyPost_ret (results_row rfl _ _ R [(.int .i64 (1 + ((at_ l i : Nat) : Int) % 20)), (.int .i64 (-4 + ((at_ l (i + 1) : Nat) : Int) % 40)), (.int .i64 (((at_ l (i + 2) : Nat) : Int) % 64)), (.int .i64 (num l (i + 3))), (.int .i64 (num l (i + 5))), (Sv (txt l (i + 7 + 1) (at_ l (i + 7) % 64))), (Sv (txt l (i + 7 + 1 + at_ l (i + 7) % 64 + 1) (at_ l (i + 7 + 1 + at_ l (i + 7) % 64) % 64)))] _ rfl (World.rangeAt_setCells_same _ R 0 _ HT.out) Try.underlying32 (by rfl) (by kernel_rfl)) rfl ?_
  rw [HD.out]
  exact ⟨rfl, (HF.out _ _ _ _ _ _ _).1, (HF.out _ _ _ _ _ _ _).2⟩
end Go.Proofs.Ytoomdgjppfmdlaa
