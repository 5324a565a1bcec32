/- 'awake': calls whose answers the document fixes. -/
import Derived.Test.YtoomdgjppfmdlaaCk
namespace Go.Proofs.Ytoomdgjppfmdlaa
open Go.RowKit
set_option linter.unusedVariables false
set_option linter.unusedSimpArgs false

def c0 : C := ⟨2, 0, 0, 0, 0, [97], []⟩
def c1 : C := ⟨1, -4, 0, -256, -256, [], []⟩
def cz : C := ⟨0, 0, 0, 0, 0, [], []⟩
theorem c0_may : May c0 := by decide
theorem cz_not : ¬ May cz := by decide
theorem c0_enc : enc c0 = [1, 4, 0, 1, 0, 1, 0, 1, 97, 0] := by decide +kernel
theorem c0_dec : decs [1, 4, 0, 1, 0, 1, 0, 1, 97, 0] 200 0 = [c0] := by
  rw [← c0_enc, show enc c0 = encs [c0] from by simp [encs]]
  exact decs_back [c0] 200 (by intro c hc; simp at hc; subst hc; exact c0_may) (by simp)
theorem c0_scr : scrB [c0] = [1, 4, 0, 1, 0, 1, 0, 1, 97, 0] ∧ errS [c0] = 0 := by
  have h : ∀ c ∈ [c0], May c := by intro c hc; simp at hc; subst hc; exact c0_may
  exact ⟨by rw [scrB_yes (by simp) h, ← c0_enc]; simp [encs], errS_yes (by simp) h⟩
theorem c1_dec : decs [20] 200 0 = [c1] := (leq_iff _ _).1 (by decide +kernel)
/-- What awake hands back. -/
def AwakeE (w : World) (e : Ending) (w' : World) : Prop := e = .returned (.bool true) ∧ Below w.heap.size w w'
theorem byt1 (w : World) : Byt (w.alloc (.cells #[.int .u8 20] 5)) (w.alloc (.cells #[.int .u8 20] 5)).heap.size (some ⟨w.heap.size, 0, none⟩) [20] := by
  intro i x hx
  refine ⟨w.heap.size, 0, rfl, by rw [World.size_alloc]; omega, ?_⟩
  rw [cell_row (heap_alloc_new w _)]
  match i, hx with
  | 0, hx => injection hx with hx; subst hx; rfl

set_option maxHeartbeats 8000000 in
set_option maxRecDepth 100000 in
theorem awake_any (w : World) : Calls Try.prog 10 #[] w (AwakeE w) := by
  have E0 := Lib.hid (fun W => (c0_enc ▸ enc_yes c0 W c0_may))
  have EZ := Lib.hid (fun W => (enc_no cz W (by unfold maxLen; decide) (by unfold maxLen; decide) cz_not))
  have Q0 := Lib.hid (run_eql32 c0 c0)
  have Q1 := Lib.hid (run_eql32 c1 c1)
  have M0 := Lib.hid (fun W => (mayB_yes c0_may ▸ may_any c0 W (by unfold maxLen; decide) (by unfold maxLen; decide)))
  go_enter Try.func10, Try.ntmps10
  go_wp2_with fail
  refine (E0.out _).mono ?_
  rintro e w1 ⟨A1, n1, d1, rfl, o1, b1⟩
  have hn1 : n1 = 10 := o1.len
  subst hn1
  have HO1 := Lib.hid (o1)
  have HB1 := Lib.hid b1
  have D1 := Lib.hid (c0_dec ▸ dec_any A1 10 d1 _ w1 rfl (by omega) o1.byt)
  clear o1 b1
  go_wp2_with fail
  refine D1.out.mono ?_
  rintro e w2 ⟨A2, n2, d2, rfl, o2, b2⟩
  have hn2 : n2 = 1 := o2.len
  subst hn2
  have HO2 := Lib.hid o2
  have HB2 := Lib.hid (below_step HB1.out b2)
  have HP1 := Lib.hid (HO1.out.keep b2)
  clear o2 b2 D1
  go_wp2_with fail
  refine (EZ.out _).mono ?_
  rintro e w3 ⟨A3, n3, d3, rfl, o3, b3⟩
  have hn3 : n3 = 0 := o3.len
  subst hn3
  have HB3 := Lib.hid (below_step HB2.out b3)
  have HP2 := Lib.hid (HP1.out.keep b3)
  have HC2 := Lib.hid (HO2.out.keep b3)
  clear o3 b3
  have S1 := Lib.hid (c0_scr.1 ▸ c0_scr.2 ▸ scr_any A2 1 d2 [c0] w3 rfl (by omega) (by intro c hc; simp at hc; subst hc; exact ⟨by unfold maxLen; decide, by unfold maxLen; decide⟩) HC2.out.cls)
  go_wp2_with fail
  refine S1.out.mono ?_
  rintro e w4 ⟨A4, n4, d4, rfl, o4, b4⟩
  have hn4 : n4 = 10 := o4.len
  subst hn4
  have HB4 := Lib.hid (below_step HB3.out b4)
  have HP3 := Lib.hid (HP2.out.keep b4)
  have HC3 := Lib.hid (HC2.out.keep b4)
  have HO4 := Lib.hid o4
  clear o4 b4 S1
  have D5 := Lib.hid (c1_dec ▸ dec_any (some ⟨w4.heap.size, 0, none⟩) 1 1 [20] _ rfl (by omega) (byt1 w4))
  have HT := Lib.hid (below_alloc w4 (.cells #[.int .u8 20] 5))
  go_wp2_with fail
  refine D5.out.mono ?_
  rintro e w6 ⟨A6, n6, d6, rfl, o6, b6⟩
  have hn6 : n6 = 1 := o6.len
  subst hn6
  have HB6 := Lib.hid (below_step (below_step HB4.out HT.out) b6)
  have HP6 := Lib.hid ((HP3.out.keep HT.out).keep b6)
  have HC6 := Lib.hid ((HC3.out.keep HT.out).keep b6)
  have HS6 := Lib.hid ((HO4.out.keep HT.out).keep b6)
  have HM6 := Lib.hid o6
  clear o6 b6 D5
  have s1 := bo_string HP6.out
  have s2 := bo_string HS6.out
  obtain ⟨G, o1, rfl, hG, f0, f1, f2, f3, f4, f5, f6⟩ := HC6.out.cls.at_ (i := 0) (by simp)
  obtain ⟨E, o2, rfl, hE, g0, g1, g2, g3, g4, g5, g6⟩ := HM6.out.cls.at_ (i := 0) (by simp)
  simp only [List.getElem_cons_zero, c0, c1, Nat.zero_mul, Nat.add_zero] at f0 f1 f2 f3 f4 f5 f6 g0 g1 g2 g3 g4 g5 g6
  have hgd := guard32
  have q0 := fun W => Q0.out W
  have q1 := fun W => Q1.out W
  simp only [c0, c1, ceq, CV] at q0 q1
  go_wp2_with fail
  refine (M0.out _).mono ?_
  rintro e w7 ⟨rfl, b7⟩
  have HB7 := Lib.hid (below_step HB6.out b7)
  clear b7
  go_wp2_with fail
  go_ret
  exact ⟨rfl, HB7.out⟩
end Go.Proofs.Ytoomdgjppfmdlaa
