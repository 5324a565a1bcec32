/- A call's bytes, or that it may not be: the code's Encode and the document's. -/
import Derived.Test.YtoomdgjppfmdlaaCb
namespace Go.Proofs.Ytoomdgjppfmdlaa
open Go.RowKit
set_option linter.unusedVariables false
set_option linter.unusedSimpArgs false

def encE (c : C) : Bs := if mayB c = true then enc c else []
def errE (c : C) : Int := if mayB c = true then 0 else 22
theorem encE_yes {c : C} (h : May c) : encE c = enc c := if_pos (mayB_yes h)
theorem errE_yes {c : C} (h : May c) : errE c = 0 := if_pos (mayB_yes h)
theorem encE_no {c : C} (h : ¬ May c) : encE c = [] := if_neg (by rw [mayB_no h]; decide)
theorem errE_no {c : C} (h : ¬ May c) : errE c = 22 := if_neg (by rw [mayB_no h]; decide)
/-- What Encode hands back. -/
def EncE (w : World) (l : Bs) (r : Int) (e : Ending) (w' : World) : Prop := ∃ A n c, e = .returned (.tuple #[.slice A n c, .int .i64 r]) ∧ Bo w' w.heap.size A n c l ∧ Below w.heap.size w w'
/-- A call's box. -/
structure BoxC (w : World) (b : Nat) (c : C) : Prop where
  k0 : w.cell? ⟨b, 0, none⟩ = some (.int .i64 c.op)
  k1 : w.cell? ⟨b, 1, none⟩ = some (.int .i64 c.fd)
  k2 : w.cell? ⟨b, 2, none⟩ = some (.int .i64 c.fl)
  k3 : w.cell? ⟨b, 3, none⟩ = some (.int .i64 c.n)
  k4 : w.cell? ⟨b, 4, none⟩ = some (.int .i64 c.off)
  k5 : w.cell? ⟨b, 5, none⟩ = some (Sv c.a)
  k6 : w.cell? ⟨b, 6, none⟩ = some (Sv c.b)
theorem BoxC.new (w : World) (c : C) : BoxC (w.alloc (.cells (CL c).toArray 32)) w.heap.size c := by
  constructor <;> (rw [cell_row (heap_alloc_new w _)]; rfl)
theorem BoxC.below {w w' : World} {b B : Nat} {c : C} (h : BoxC w b c) (hb : Below B w w') (hB : b < B) : BoxC w' b c :=
  ⟨(hb.cell (p := ⟨b, 0, none⟩) hB).trans h.k0, (hb.cell (p := ⟨b, 1, none⟩) hB).trans h.k1, (hb.cell (p := ⟨b, 2, none⟩) hB).trans h.k2, (hb.cell (p := ⟨b, 3, none⟩) hB).trans h.k3,
   (hb.cell (p := ⟨b, 4, none⟩) hB).trans h.k4, (hb.cell (p := ⟨b, 5, none⟩) hB).trans h.k5, (hb.cell (p := ⟨b, 6, none⟩) hB).trans h.k6⟩
theorem lit3 (w : World) (a b c : Int) (x y z : Int) (e1 : a = x) (e2 : b = y) (e3 : c = z) (h1 : 0 ≤ x ∧ x < 256) (h2 : 0 ≤ y ∧ y < 256) (h3 : 0 ≤ z ∧ z < 256) :
    Bo (w.alloc (.cells #[.int .u8 a, .int .u8 b, .int .u8 c] 5)) w.heap.size (some ⟨w.heap.size, 0, none⟩) 3 3 [by_ x, by_ y, by_ z] := by
  subst e1; subst e2; subst e3
  have h := World.ownsRow_lit (base := w.heap.size) (e := 5) (size := 1) w #[.int .u8 a, .int .u8 b, .int .u8 c] 3 (Nat.le_refl _) (by unfold maxLen; omega) rfl
  unfold Bo
  rw [show bcells [by_ a, by_ b, by_ c] = [.int .u8 a, .int .u8 b, .int .u8 c] from by
    simp only [bcells, List.map_cons, List.map_nil]; rw [← lit_of a h1.1 h1.2, ← lit_of b h2.1 h2.2, ← lit_of c h3.1 h3.2]]
  exact h

set_option maxHeartbeats 4000000 in
set_option maxRecDepth 100000 in
theorem enc_no (c : C) (w : World) (ha : c.a.length ≤ maxLen) (hb : c.b.length ≤ maxLen) (h : ¬ May c) : Calls Try.prog 14 #[CV c] w (EncE w [] 22) := by
  have HM := Lib.hid (fun W => (may_any c W ha hb))
  rw [mayB_no h] at HM
  obtain ⟨op, fd, fl, n, off, a, b⟩ := c
  unfold CV
  obtain ⟨w1, hw1⟩ : ∃ w1, w.alloc (.cells (CL ⟨op, fd, fl, n, off, a, b⟩).toArray 32) = w1 := ⟨_, rfl⟩
  have hx := BoxC.new w ⟨op, fd, fl, n, off, a, b⟩
  have hb1 := below_alloc w (.cells (CL ⟨op, fd, fl, n, off, a, b⟩).toArray 32)
  unfold CL at hw1 hx hb1
  rw [hw1] at hx hb1
  obtain ⟨k0, k1, k2, k3, k4, k5, k6⟩ := hx
  dsimp only at k0 k1 k2 k3 k4 k5 k6 hw1 ⊢
  have HB1 := Lib.hid hb1
  clear hb1 ha hb h
  go_enter Try.func14, Try.ntmps14
  go_wp2_with fail
  refine (HM.out _).mono ?_
  rintro e w2 ⟨rfl, hb2⟩
  have HB2 := Lib.hid hb2
  clear hb2
  go_wp2_with fail
  go_ret2
  exact ⟨none, 0, 0, rfl, Bo.nil _ _, below_step HB1.out HB2.out⟩
set_option maxHeartbeats 4000000 in
set_option maxRecDepth 100000 in
theorem enc_yes (c : C) (w : World) (h : May c) : Calls Try.prog 14 #[CV c] w (EncE w (enc c) 0) := by
  have HM := Lib.hid (fun W => (may_any c W (by unfold maxLen; have := h.2.2.2.2.2.1; omega) (by unfold maxLen; have := h.2.2.2.2.2.2; omega)))
  rw [mayB_yes h] at HM
  obtain ⟨op, fd, fl, n, off, a, b⟩ := c
  have HE := Lib.hid (show ((([by_ (op - 1), by_ (fd + 4), by_ fl] ++ two n) ++ two off) ++ by_ a.length :: a) ++ by_ b.length :: b = enc ⟨op, fd, fl, n, off, a, b⟩ from rfl)
  obtain ⟨⟨p1, p2⟩, ⟨p3, p4⟩, ⟨p5, p6⟩, p7, p8, p9, p10⟩ := h
  dsimp only at p1 p2 p3 p4 p5 p6 p7 p8 p9 p10
  have HN1 := Lib.hid p7
  have HN2 := Lib.hid p8
  unfold CV
  obtain ⟨w1, hw1⟩ : ∃ w1, w.alloc (.cells (CL ⟨op, fd, fl, n, off, a, b⟩).toArray 32) = w1 := ⟨_, rfl⟩
  obtain ⟨gb, hgb⟩ : ∃ gb, w.heap.size = gb := ⟨_, rfl⟩
  have hx := BoxC.new w ⟨op, fd, fl, n, off, a, b⟩
  have hb1 := below_alloc w (.cells (CL ⟨op, fd, fl, n, off, a, b⟩).toArray 32)
  have hz1 := World.size_alloc w (.cells (CL ⟨op, fd, fl, n, off, a, b⟩).toArray 32)
  unfold CL at hw1 hx hb1 hz1
  rw [hw1] at hx hb1 hz1
  rw [hgb] at hx hz1
  have HX := Lib.hid hx
  have HB1 := Lib.hid hb1
  have hz : gb < w1.heap.size := by omega
  obtain ⟨k0, k1, k2, k3, k4, k5, k6⟩ := hx
  dsimp only at k0 k1 k2 k3 k4 k5 k6 hw1 ⊢
  clear hb1 p7 p8 hz1
  obtain ⟨w2, hw2⟩ : ∃ w2 : World, w2 = w2 := ⟨w, rfl⟩
  clear hw2 w2
  go_enter Try.func14, Try.ntmps14
  go_wp2_with fail
  refine (HM.out _).mono ?_
  rintro e w2 ⟨rfl, hb2⟩
  have HX2 := Lib.hid (HX.out.below hb2 hz)
  have HB2 := Lib.hid hb2
  have hz2 : gb < w2.heap.size := by have := hb2.size; omega
  clear hb2 k0 k1 k2 k3 k4 k5 k6
  obtain ⟨w3, hw3⟩ : ∃ w3, w2.alloc (.cells #[.int .u8 (op - 1), .int .u8 (fd + 4), .int .u8 fl] 5) = w3 := ⟨_, rfl⟩
  obtain ⟨B, hB⟩ : ∃ B, w2.heap.size = B := ⟨_, rfl⟩
  have o3 := lit3 w2 _ _ _ (op - 1) (fd + 4) fl rfl rfl rfl (by omega) (by omega) (by omega)
  have b3 := below_alloc w2 (.cells #[.int .u8 (op - 1), .int .u8 (fd + 4), .int .u8 fl] 5)
  have z3 := World.size_alloc w2 (.cells #[.int .u8 (op - 1), .int .u8 (fd + 4), .int .u8 fl] 5)
  rw [hw3] at o3 b3 z3
  rw [hB] at o3 b3 z3 hz2
  have HO3 := Lib.hid o3
  have HY := Lib.hid (fun W (hW : Below B w3 W) => (HX2.out.below (b3.trans hW) hz2))
  have HS := Lib.hid (fun W (hW : Below B w3 W) => (show B ≤ W.heap.size from by have := hW.size; omega))
  have HF := Lib.hid (fun W (hW : Below B w3 W) => (show Below w.heap.size w W from HB1.out.trans ((HB2.out.mono (by have := HB1.out.size; omega)).trans ((b3.trans hW).mono (by have := HB1.out.size; have := HB2.out.size; omega)))))
  have HL := Lib.hid (show w.heap.size ≤ B from by have := HB1.out.size; have := HB2.out.size; omega)

  have hx3 := HY.out w3 (Below.refl _ _)
  obtain ⟨l0, l1, l2, k0, k1, k2, k3⟩ := HX2.out
  obtain ⟨k0', k1', k2', k3', k4', k5', k6'⟩ := hx3
  dsimp only at l0 l1 l2 k3' k4' k5' k6'
  clear b3 o3 k0 k1 k2 k3 k0' k1' k2'
  have hzB : B ≤ w3.heap.size := by omega
  clear z3
  go_wp2_with fail
  refine (wnum_any n _ HO3.out HN1.out (by omega) hzB).mono ?_
  rintro e w4 ⟨A4, c4, rfl, o4, b4⟩
  have HO4 := Lib.hid o4
  have HB4 := Lib.hid b4
  clear o4 b4 l0 l1 l2 k3' k4' k5' k6'
  obtain ⟨k0, k1, k2, k3, k4, k5, k6⟩ := HY.out _ HB4.out
  dsimp only at k0 k1 k2 k3 k4 k5 k6
  go_wp2_with fail
  refine (wnum_any off _ HO4.out HN2.out (by omega) (HS.out _ HB4.out)).mono ?_
  rintro e w5 ⟨A5, c5, rfl, o5, b5⟩
  have HO5 := Lib.hid o5
  have HB5 := Lib.hid (HB4.out.trans b5)
  clear o5 b5 k0 k1 k2 k3 k4 k5 k6
  obtain ⟨k0, k1, k2, k3, k4, k5, k6⟩ := HY.out _ HB5.out
  dsimp only at k0 k1 k2 k3 k4 k5 k6
  go_wp2_with fail
  refine (wtext_any a _ HO5.out p9 (by omega) (HS.out _ HB5.out)).mono ?_
  rintro e w6 ⟨A6, c6, rfl, o6, b6⟩
  have HO6 := Lib.hid o6
  have HB6 := Lib.hid (HB5.out.trans b6)
  clear o6 b6 k0 k1 k2 k3 k4 k5 k6
  obtain ⟨k0, k1, k2, k3, k4, k5, k6⟩ := HY.out _ HB6.out
  dsimp only at k0 k1 k2 k3 k4 k5 k6
  go_wp2_with fail
  refine (wtext_any b _ HO6.out p10 (by omega) (HS.out _ HB6.out)).mono ?_
  rintro e w7 ⟨A7, c7, rfl, o7, b7⟩
  have HO7 := Lib.hid (HE.out ▸ o7)
  have HB7 := Lib.hid (HB6.out.trans b7)
  clear o7 b7 k0 k1 k2 k3 k4 k5 k6
  go_wp2_with fail
  go_ret2
  exact ⟨_, _, _, rfl, HO7.out.base HL.out, HF.out _ HB7.out⟩
set_option maxHeartbeats 4000000 in
set_option maxRecDepth 100000 in
theorem renc_no (c : C) (w : World) (ha : c.a.length ≤ maxLen) (hb : c.b.length ≤ maxLen) (h : ¬ May c) : Calls Try.prog 15 #[CV c] w (EncE w [] 22) := by
  have HM := Lib.hid (fun W => (rmay_any c W ha hb))
  rw [mayB_no h] at HM
  obtain ⟨op, fd, fl, n, off, a, b⟩ := c
  unfold CV
  obtain ⟨w1, hw1⟩ : ∃ w1, w.alloc (.cells (CL ⟨op, fd, fl, n, off, a, b⟩).toArray 32) = w1 := ⟨_, rfl⟩
  have hx := BoxC.new w ⟨op, fd, fl, n, off, a, b⟩
  have hb1 := below_alloc w (.cells (CL ⟨op, fd, fl, n, off, a, b⟩).toArray 32)
  unfold CL at hw1 hx hb1
  rw [hw1] at hx hb1
  obtain ⟨k0, k1, k2, k3, k4, k5, k6⟩ := hx
  dsimp only at k0 k1 k2 k3 k4 k5 k6 hw1 ⊢
  have HB1 := Lib.hid hb1
  clear hb1 ha hb h
  go_enter Try.func15, Try.ntmps15
  go_wp2_with fail
  refine (HM.out _).mono ?_
  rintro e w2 ⟨rfl, hb2⟩
  have HB2 := Lib.hid hb2
  clear hb2
  go_wp2_with fail
  go_ret2
  exact ⟨none, 0, 0, rfl, Bo.nil _ _, below_step HB1.out HB2.out⟩
set_option maxHeartbeats 4000000 in
set_option maxRecDepth 100000 in
theorem renc_yes (c : C) (w : World) (h : May c) : Calls Try.prog 15 #[CV c] w (EncE w (enc c) 0) := by
  have HM := Lib.hid (fun W => (rmay_any c W (by unfold maxLen; have := h.2.2.2.2.2.1; omega) (by unfold maxLen; have := h.2.2.2.2.2.2; omega)))
  rw [mayB_yes h] at HM
  obtain ⟨op, fd, fl, n, off, a, b⟩ := c
  have HE := Lib.hid (show ((([by_ (op - 1), by_ (fd + 4), by_ fl] ++ two n) ++ two off) ++ by_ a.length :: a) ++ by_ b.length :: b = enc ⟨op, fd, fl, n, off, a, b⟩ from rfl)
  have HE2 := Lib.hid (show ((((([by_ (op - 1), by_ (fd + 4), by_ fl] ++ two n) ++ two off) ++ [by_ a.length]) ++ a) ++ [by_ b.length]) ++ b = enc ⟨op, fd, fl, n, off, a, b⟩ from by simp [enc])
  obtain ⟨⟨p1, p2⟩, ⟨p3, p4⟩, ⟨p5, p6⟩, p7, p8, p9, p10⟩ := h
  dsimp only at p1 p2 p3 p4 p5 p6 p7 p8 p9 p10
  have HN1 := Lib.hid p7
  have HN2 := Lib.hid p8
  unfold CV
  obtain ⟨w1, hw1⟩ : ∃ w1, w.alloc (.cells (CL ⟨op, fd, fl, n, off, a, b⟩).toArray 32) = w1 := ⟨_, rfl⟩
  obtain ⟨gb, hgb⟩ : ∃ gb, w.heap.size = gb := ⟨_, rfl⟩
  have hx := BoxC.new w ⟨op, fd, fl, n, off, a, b⟩
  have hb1 := below_alloc w (.cells (CL ⟨op, fd, fl, n, off, a, b⟩).toArray 32)
  have hz1 := World.size_alloc w (.cells (CL ⟨op, fd, fl, n, off, a, b⟩).toArray 32)
  unfold CL at hw1 hx hb1 hz1
  rw [hw1] at hx hb1 hz1
  rw [hgb] at hx hz1
  have HX := Lib.hid hx
  have HB1 := Lib.hid hb1
  have hz : gb < w1.heap.size := by omega
  obtain ⟨k0, k1, k2, k3, k4, k5, k6⟩ := hx
  dsimp only at k0 k1 k2 k3 k4 k5 k6 hw1 ⊢
  clear hb1 p7 p8 hz1
  obtain ⟨w2, hw2⟩ : ∃ w2 : World, w2 = w2 := ⟨w, rfl⟩
  clear hw2 w2
  go_enter Try.func15, Try.ntmps15
  go_wp2_with fail
  refine (HM.out _).mono ?_
  rintro e w2 ⟨rfl, hb2⟩
  have HX2 := Lib.hid (HX.out.below hb2 hz)
  have HB2 := Lib.hid hb2
  have hz2 : gb < w2.heap.size := by have := hb2.size; omega
  clear hb2 k0 k1 k2 k3 k4 k5 k6
  obtain ⟨w3, hw3⟩ : ∃ w3, w2.alloc (.cells #[.int .u8 (op - 1), .int .u8 (fd + 4), .int .u8 fl] 5) = w3 := ⟨_, rfl⟩
  obtain ⟨B, hB⟩ : ∃ B, w2.heap.size = B := ⟨_, rfl⟩
  have o3 := lit3 w2 _ _ _ (op - 1) (fd + 4) fl rfl rfl rfl (by omega) (by omega) (by omega)
  have b3 := below_alloc w2 (.cells #[.int .u8 (op - 1), .int .u8 (fd + 4), .int .u8 fl] 5)
  have z3 := World.size_alloc w2 (.cells #[.int .u8 (op - 1), .int .u8 (fd + 4), .int .u8 fl] 5)
  rw [hw3] at o3 b3 z3
  rw [hB] at o3 b3 z3 hz2
  have HO3 := Lib.hid o3
  have HY := Lib.hid (fun W (hW : Below B w3 W) => (HX2.out.below (b3.trans hW) hz2))
  have HS := Lib.hid (fun W (hW : Below B w3 W) => (show B ≤ W.heap.size from by have := hW.size; omega))
  have HF := Lib.hid (fun W (hW : Below B w3 W) => (show Below w.heap.size w W from HB1.out.trans ((HB2.out.mono (by have := HB1.out.size; omega)).trans ((b3.trans hW).mono (by have := HB1.out.size; have := HB2.out.size; omega)))))
  have HL := Lib.hid (show w.heap.size ≤ B from by have := HB1.out.size; have := HB2.out.size; omega)

  have hx3 := HY.out w3 (Below.refl _ _)
  obtain ⟨l0, l1, l2, k0, k1, k2, k3⟩ := HX2.out
  obtain ⟨k0', k1', k2', k3', k4', k5', k6'⟩ := hx3
  dsimp only at l0 l1 l2 k3' k4' k5' k6'
  clear b3 o3 k0 k1 k2 k3 k0' k1' k2'
  have hzB : B ≤ w3.heap.size := by omega
  have hz3 : B ≤ w3.heap.size := hzB
  clear z3
  go_wp2_with fail
  refine (two_any n _ HN1.out).mono ?_
  rintro e w4 ⟨rfl, y4, b4⟩
  have HO4 := Lib.hid (HO3.out.keep b4)
  have HV4 := Lib.hid y4
  have HB4 := Lib.hid ((Lib.hid (Below.refl B w3)).out.trans (b4.mono hzB))
  clear y4 b4 l0 l1 l2 k3' k4' k5' k6'
  obtain ⟨k0, k1, k2, k3', k4', k5', k6'⟩ := HY.out _ HB4.out
  dsimp only at k3' k4' k5' k6'
  clear k0 k1 k2
  have hz4 : B ≤ w4.heap.size := HS.out _ HB4.out
  go_upto_region 5 with (at_builtin; refine wpList_app _ rfl (.tmp 20) (.tmp 23) rfl B _ 3 2 3 2 (some ⟨B, 0, none⟩) (some ⟨w3.heap.size, 0, none⟩) _ (two n) (by rfl) (by rfl) HO4.out rfl HV4.out (by omega) hz4 ?_; intro A5 c5 w5 o5 b5)
  have HO5 := Lib.hid o5
  have HB5 := Lib.hid (HB4.out.trans b5)
  clear o5 b5 k3' k4' k5' k6'
  obtain ⟨k0, k1, k2, k3', k4', k5', k6'⟩ := HY.out _ HB5.out
  dsimp only at k3' k4' k5' k6'
  clear k0 k1 k2
  have hz5 : B ≤ w5.heap.size := HS.out _ HB5.out
  go_wp2_with fail
  refine (two_any off _ HN2.out).mono ?_
  rintro e w6 ⟨rfl, y6, b6⟩
  have HO6 := Lib.hid (HO5.out.keep b6)
  have HV6 := Lib.hid y6
  have HB6 := Lib.hid (HB5.out.trans (b6.mono hz5))
  clear y6 b6 k3' k4' k5' k6'
  obtain ⟨k0, k1, k2, k3', k4', k5', k6'⟩ := HY.out _ HB6.out
  dsimp only at k3' k4' k5' k6'
  clear k0 k1 k2
  have hz6 : B ≤ w6.heap.size := HS.out _ HB6.out
  go_upto_region 6 with (at_builtin; refine wpList_app _ rfl (.tmp 25) (.tmp 28) rfl B _ 5 2 c5 2 A5 (some ⟨w5.heap.size, 0, none⟩) _ (two off) (by rfl) (by rfl) HO6.out rfl HV6.out (by omega) hz6 ?_; intro A7 c7 w7 o7 b7)
  have HO7 := Lib.hid o7
  have HB7 := Lib.hid (HB6.out.trans b7)
  clear o7 b7 k3' k4' k5' k6'
  obtain ⟨k0, k1, k2, k3', k4', k5', k6'⟩ := HY.out _ HB7.out
  dsimp only at k3' k4' k5' k6'
  clear k0 k1 k2
  have hz7 : B ≤ w7.heap.size := HS.out _ HB7.out
  have HA8 := Lib.hid (fun ob => (HO7.out.keep (below_alloc w7 ob)))
  have HC8 := Lib.hid (fun ob => (HB7.out.trans ((below_alloc w7 ob).mono hz7)))
  go_upto_region 7 with (at_builtin; refine wpList_app _ rfl (.tmp 30) (.tmp 35) rfl B (w7.heap.size + 1) (7) 1 c7 1 A7 (some ⟨w7.heap.size, 0, none⟩) _ [by_ a.length] (by rfl) (by rfl) (HA8.out _) rfl (by exact news1 _ _ _ (by first | rfl | omega) (by omega) (by omega)) (by omega) (by simp; omega) ?_; intro A8 c8 w8 o8 b8)
  have HO8 := Lib.hid o8
  have HB8 := Lib.hid ((HC8.out _).trans b8)
  clear o8 b8 k3' k4' k5' k6'
  obtain ⟨k0, k1, k2, k3', k4', k5', k6'⟩ := HY.out _ HB8.out
  dsimp only at k3' k4' k5' k6'
  clear k0 k1 k2
  have hz8 : B ≤ w8.heap.size := HS.out _ HB8.out
  go_upto_region 8 with (at_builtin; refine wpList_apps _ rfl (.tmp 37) (.tmp 39) rfl B (7 + 1) c8 A8 _ a (by rfl) (by rfl) HO8.out (by omega) hz8 ?_; intro A9 c9 w9 o9 b9)
  have HO9 := Lib.hid o9
  have HB9 := Lib.hid (HB8.out.trans b9)
  clear o9 b9 k3' k4' k5' k6'
  obtain ⟨k0, k1, k2, k3', k4', k5', k6'⟩ := HY.out _ HB9.out
  dsimp only at k3' k4' k5' k6'
  clear k0 k1 k2
  have hz9 : B ≤ w9.heap.size := HS.out _ HB9.out
  have HA10 := Lib.hid (fun ob => (HO9.out.keep (below_alloc w9 ob)))
  have HC10 := Lib.hid (fun ob => (HB9.out.trans ((below_alloc w9 ob).mono hz9)))
  go_upto_region 9 with (at_builtin; refine wpList_app _ rfl (.tmp 41) (.tmp 46) rfl B (w9.heap.size + 1) (7 + 1 + a.length) 1 c9 1 A9 (some ⟨w9.heap.size, 0, none⟩) _ [by_ b.length] (by rfl) (by rfl) (HA10.out _) rfl (by exact news1 _ _ _ (by first | rfl | omega) (by omega) (by omega)) (by omega) (by simp; omega) ?_; intro A10 c10 w10 o10 b10)
  have HO10 := Lib.hid o10
  have HB10 := Lib.hid ((HC10.out _).trans b10)
  clear o10 b10 k3' k4' k5' k6'
  obtain ⟨k0, k1, k2, k3', k4', k5', k6'⟩ := HY.out _ HB10.out
  dsimp only at k3' k4' k5' k6'
  clear k0 k1 k2
  have hz10 : B ≤ w10.heap.size := HS.out _ HB10.out
  go_wp2_with (at_builtin; refine wpList_apps _ rfl (.tmp 48) (.tmp 50) rfl B (7 + 1 + a.length + 1) c10 A10 _ b (by rfl) (by rfl) HO10.out (by omega) hz10 ?_; intro A11 c11 w11 o11 b11)
  have HO11 := Lib.hid o11
  have HB11 := Lib.hid (HB10.out.trans b11)
  clear o11 b11 k3' k4' k5' k6'
  go_ret2
  exact ⟨_, _, _, rfl, (HE2.out ▸ HO11.out).base HL.out, HF.out _ HB11.out⟩
def errOf (c : C) : Int := errE c
theorem enc_any (c : C) (w : World) (ha : c.a.length ≤ maxLen) (hb : c.b.length ≤ maxLen) : Calls Try.prog 14 #[CV c] w (EncE w (encE c) (errE c)) := by
  by_cases h : May c
  · rw [encE_yes h, errE_yes h]; exact enc_yes c w h
  · rw [encE_no h, errE_no h]; exact enc_no c w ha hb h
theorem renc_any (c : C) (w : World) (ha : c.a.length ≤ maxLen) (hb : c.b.length ≤ maxLen) : Calls Try.prog 15 #[CV c] w (EncE w (encE c) (errE c)) := by
  by_cases h : May c
  · rw [encE_yes h, errE_yes h]; exact renc_yes c w h
  · rw [encE_no h, errE_no h]; exact renc_no c w ha hb h
end Go.Proofs.Ytoomdgjppfmdlaa
