/- 'awake'. -/
import Derived.Test.YtagkimnmgalejaaMn
namespace Go.Proofs.Ytagkimnmgalejaa.sc
open Go.RowKit Go.Shelf
set_option linter.unusedVariables false
set_option linter.unusedSimpArgs false

def AwakeE (w : World) (e : Ending) (w' : World) : Prop := e = .returned (.bool true) ∧ Below w.heap.size w w'
def a0 : Sd := Sd.new 3
def a1 : Sd := (a0.lock 0 7 false).2.2
def a2 : Sd := (a1.lock 1 7 true).2.2
def a3 : Sd := (a2.lock 2 7 false).2.2
def a4 : Sd := (a3.unlock 0 7).2
def a5 : Sd := (a4.unlock 1 7).2
def a6 : Sd := (a5.done 1).2
theorem aw1 : (a0.lock 0 7 false).1 = true ∧ (a0.lock 0 7 false).2.1 = 0 := by decide +kernel
theorem aw2 : (a1.lock 1 7 true).1 = false ∧ (a1.lock 1 7 true).2.1 = 0 := by decide +kernel
theorem aw3 : (a2.lock 2 7 false).1 = false ∧ (a2.lock 2 7 false).2.1 = 0 := by decide +kernel
theorem aw4 : a3.at_ 0 = [0] ∧ a3.at_ 1 = [1, 2] ∧ a3.queue 7 = [1, 2] := by decide +kernel
theorem aw5 : (a3.unlock 0 7).1 = 0 := by decide +kernel
theorem aw6 : tasksN (a4.heldL 7) = [1] ∧ headW (a4.heldL 7) = true := by decide +kernel
theorem aw7 : a4.pick 5 = some 1 := by decide +kernel
theorem aw8 : (a4.unlock 1 7).1 = 0 := by decide +kernel
theorem aw9 : (a5.done 1).1 = 0 ∧ a6.stuck = false := by decide +kernel
theorem awN : a1.N ≤ 10 ∧ a2.N ≤ 10 ∧ a3.N ≤ 10 ∧ a4.N ≤ 10 ∧ a5.N ≤ 10 ∧ a6.N ≤ 10 := by decide +kernel
theorem srt1 : srt [1] = [1] := by simp [srt]
theorem wf7 : Wf 7 := wf_small (by omega) (by omega)
theorem l1 : a0.lock 0 7 false = (true, 0, a1) := Prod.ext aw1.1 (Prod.ext aw1.2 rfl)
theorem l2 : a1.lock 1 7 true = (false, 0, a2) := Prod.ext aw2.1 (Prod.ext aw2.2 rfl)
theorem l3 : a2.lock 2 7 false = (false, 0, a3) := Prod.ext aw3.1 (Prod.ext aw3.2 rfl)
theorem u1 : a3.unlock 0 7 = (0, a4) := Prod.ext aw5 rfl
theorem u2 : a4.unlock 1 7 = (0, a5) := Prod.ext aw8 rfl
theorem d1 : a5.done 1 = (0, a6) := Prod.ext aw9.1 rfl
set_option maxHeartbeats 8000000 in
theorem awake_any (w : World) : Calls Try.prog 8 #[] w (AwakeE w) := by
  have K0 := Lib.hid (y_new (Below.refl w.heap.size w) 3 (by decide))
  rw [show ((3 : Nat) : Int) = 3 from rfl] at K0
  have KN := Lib.hid (fun W => new_nil (w := W) (n := 65) (by omega))
  have K1 := Lib.hid (fun W P X (h : SY w W P X a0) => by have := y_lock h (t := 0) (l := 7) (by decide +kernel) wf7 false; rw [l1] at this; exact this)
  have K2 := Lib.hid (fun W P X (h : SY w W P X a1) => by have := y_lock h (t := 1) (l := 7) (by have := awN; omega) wf7 true; rw [l2] at this; exact this)
  have K3 := Lib.hid (fun W P X (h : SY w W P X a2) => by have := y_lock h (t := 2) (l := 7) (by have := awN; omega) wf7 false; rw [l3] at this; exact this)
  have K4 := Lib.hid (fun W P X (h : SY w W P X a3) => by have := y_ready h; rw [aw4.1] at this; exact this)
  have K5 := Lib.hid (fun W P X (h : SY w W P X a3) => by have := y_waiting h; rw [aw4.2.1] at this; exact this)
  have K6 := Lib.hid (fun W P X (h : SY w W P X a3) => by have := y_queue h (l := 7) (by have := awN; omega) wf7; rw [aw4.2.2] at this; exact this)
  have K7 := Lib.hid (fun W P X (h : SY w W P X a3) => by have := y_unlock h (t := 0) (l := 7) (by have := awN; omega) wf7; rw [u1] at this; exact this)
  have K8 := Lib.hid (fun W P X (h : SY w W P X a4) => by have := y_holders h (l := 7) (by have := awN; omega) wf7; rw [aw6.1, aw6.2, srt1] at this; exact this)
  have K9 := Lib.hid (fun W P X (h : SY w W P X a4) => by have := y_pick h 5 (by omega); rw [show ((5 : Nat) : Int) = 5 from rfl, aw7] at this; exact this)
  have K10 := Lib.hid (fun W P X (h : SY w W P X a4) => by have := y_unlock h (t := 1) (l := 7) (by have := awN; omega) wf7; rw [u2] at this; exact this)
  have K11 := Lib.hid (fun W P X (h : SY w W P X a5) => by have := y_done h 1; rw [d1] at this; exact this)
  have K12 := Lib.hid (fun W P X (h : SY w W P X a6) => by have := y_stuck h; rw [aw9.2] at this; exact this)
  unfold StE at KN
  unfold YL at K1 K2 K3
  unfold YU at K7 K10 K11
  unfold PickE at K9
  unfold RetB at K12
  dsimp only at K1 K2 K3 K7 K9 K10 K11
  go_enter Try.func8, Try.ntmps8
  go_wp2_with fail
  refine K0.out.mono ?_
  rintro _ w1 ⟨P, rfl, h1, -⟩
  have H1 := Lib.hid h1
  have HP := Lib.hid (show P ≠ P + 1 by omega)
  clear h1 K0
  go_wp2_with fail
  refine (KN.out _).mono ?_
  rintro _ w1' ⟨rfl, rfl⟩
  go_wp2_with fail
  refine (K1.out _ _ _ H1.out).mono ?_
  rintro _ w2 ⟨rfl, h2, -⟩
  have H2 := Lib.hid h2
  clear h2
  go_wp2_with fail
  refine (K2.out _ _ _ H2.out).mono ?_
  rintro _ w3 ⟨rfl, h3, -⟩
  have H3 := Lib.hid h3
  clear h3
  go_wp2_with fail
  refine (K3.out _ _ _ H3.out).mono ?_
  rintro _ w4 ⟨rfl, h4, -⟩
  have H4 := Lib.hid h4
  clear h4
  go_wp2_with fail
  refine (K4.out _ _ _ H4.out).mono ?_
  rintro _ w5 hE
  obtain ⟨A5, c5, rfl, ho5, hb5⟩ := hE.lift (Below.refl _ _)
  have H5 := Lib.hid (H4.out.below hb5)
  clear hE ho5 hb5
  go_wp2_with fail
  refine (K5.out _ _ _ H5.out).mono ?_
  rintro _ w6 hE
  obtain ⟨A6, c6, rfl, ho6, hb6⟩ := hE.lift (Below.refl _ _)
  have H6 := Lib.hid (H5.out.below hb6)
  clear hE ho6 hb6
  go_wp2_with fail
  refine (K6.out _ _ _ H6.out).mono ?_
  rintro _ w7 hE
  obtain ⟨A7, c7, rfl, ho7, hb7⟩ := hE.lift (Below.refl _ _)
  have H7 := Lib.hid (H6.out.below hb7)
  clear hE ho7 hb7
  go_wp2_with fail
  refine (K7.out _ _ _ H7.out).mono ?_
  rintro _ w8 ⟨rfl, h8, -⟩
  have H8 := Lib.hid h8
  clear h8
  go_wp2_with fail
  refine (K8.out _ _ _ H8.out).mono ?_
  rintro _ w9 ⟨v9, rfl, ho9, hb9⟩
  obtain ⟨A9, c9, rfl⟩ := own_slice ho9
  have H9 := Lib.hid (H8.out.over hb9)
  rcases ho9.2 with ⟨e9, e9'⟩ | ⟨g9, cc9, cur, e9, hlo9, hblk9, -⟩
  · cases e9'
  injection e9 with e9 e9b e9c
  subst e9; subst e9c
  have hx9 := ho9.cellAt 0 (by decide)
  have HG9 := Lib.hid (show w8.heap.size ≤ g9 ∧ g9 < w9.heap.size from ⟨hlo9, (Array.getElem?_eq_some_iff.1 hblk9).1⟩)
  have x9 : w9.cell? ⟨g9, 0, none⟩ = some (.int .i64 1) := hx9
  clear ho9 hb9 hblk9 hlo9 hx9 e9b
  have X9 := Lib.hid x9
  clear x9
  go_wp2_with fail
  refine (K9.out _ _ _ H9.out).mono ?_
  rintro _ w10 ⟨rfl, hb10⟩
  have H10 := Lib.hid (H9.out.below hb10)
  have X10 := Lib.hid ((hb10.cell (p := ⟨g9, 0, none⟩) HG9.out.2).trans X9.out)
  clear hb10
  go_wp2_with fail
  refine (K10.out _ _ _ H10.out).mono ?_
  rintro _ w11 ⟨rfl, h11, hs11⟩
  have H11 := Lib.hid h11
  have X11 := Lib.hid ((World.cell?_of_block (a := ⟨g9, 0, none⟩) (hs11 g9 (.inr HG9.out))).trans X10.out)
  clear h11 hs11
  go_wp2_with fail
  refine (K11.out _ _ _ H11.out).mono ?_
  rintro _ w12 ⟨rfl, h12, hs12⟩
  have H12 := Lib.hid h12
  have x12 := ((World.cell?_of_block (a := ⟨g9, 0, none⟩) (hs12 g9 (.inr HG9.out))).trans X11.out)
  clear h12 hs12
  go_wp2_with fail
  refine (K12.out _ _ _ H12.out).mono ?_
  rintro _ w13 ⟨rfl, hb13⟩
  have HF := Lib.hid (show AwakeE w (.returned (.bool true)) w13 from ⟨rfl, below_step H12.out.bel hb13⟩)
  clear hb13
  go_wp2_with fail
  go_ret
  exact HF.out
end Go.Proofs.Ytagkimnmgalejaa.sc
