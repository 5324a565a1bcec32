/- 'awake'. -/
import Derived.Test.YtldleojipogcmaaNp
namespace Go.Proofs.Ytldleojipogcmaa.fl
open Go.RowKit
set_option linter.unusedVariables false
set_option linter.unusedSimpArgs false

def AwakeE (w : World) (e : Ending) (w' : World) : Prop := e = .returned (.bool true) ∧ Below w.heap.size w w'
def a0 : Fs := Fs.new
def a1 : Fs := (a0.join 7 1).2.2
def a2 : Fs := (a1.join 7 2).2.2
def a3 : Fs := (a2.land 7 1 28).2.2
def a4 : Fs := (a3.result 2).2.2
def a5 : Fs := (a4.result 2).2.2
theorem l1 : a0.join 7 1 = (true, 0, a1) := Prod.ext (by decide +kernel) (Prod.ext (by decide +kernel) rfl)
theorem l2 : a1.join 7 2 = (false, 0, a2) := Prod.ext (by decide +kernel) (Prod.ext (by decide +kernel) rfl)
theorem l3 : a2.join 8 1 = (false, 16, a2) := by
  unfold Fs.join
  rw [if_pos (by decide +kernel)]
theorem a2fl : a2.fl 7 = some (1, [2]) := by decide +kernel
theorem l4 : a2.land 7 2 0 = ([], 1, a2) := by
  unfold Fs.land
  rw [a2fl]
  rfl
theorem l5 : a2.land 7 1 28 = ([2], 0, a3) := Prod.ext (by decide +kernel) (Prod.ext (by decide +kernel) rfl)
theorem l6 : a3.result 2 = (28, true, a4) := Prod.ext (by decide +kernel) (Prod.ext (by decide +kernel) rfl)
theorem l7 : a4.result 2 = (0, false, a5) := Prod.ext (by decide +kernel) (Prod.ext (by decide +kernel) rfl)
theorem l8 : a5.busy 1 = false := by decide +kernel
theorem awN : a1.N ≤ 10 ∧ a2.N ≤ 10 ∧ a2.K ≤ 10 := by decide +kernel
theorem a2keys (k : Int) : (a2.fl k).isSome = true ↔ k = 7 := by
  by_cases h : k = 7
  · subst h; rw [a2fl]; simp
  · have e1 : a1.fl = upf a0.fl 7 (some (more (a0.fl 7) 1)) := by unfold a1; rw [show a0.join 7 1 = (_, _, a0.come 7 1) from rfl]; rfl
    have e2 : a2.fl = upf a1.fl 7 (some (more (a1.fl 7) 2)) := rfl
    rw [e2, upf_ne h, e1, upf_ne h]
    simp [h, a0, Fs.new]
theorem wfs {a : Int} (h1 : 0 ≤ a) (h2 : a ≤ 1000) : Wf a := wf_small (by omega) (by omega)
theorem one_key {ks : List Int} (hn : ks.Nodup) (h : ∀ k, k ∈ ks ↔ (a2.fl k).isSome = true) : ks.length = 1 := by
  have h2 : ∀ k, k ∈ ks ↔ k ∈ [7] := fun k => by rw [h, a2keys]; simp
  exact ((List.perm_ext_iff_of_nodup hn (by simp)).2 h2).length_eq
set_option maxHeartbeats 8000000 in
theorem awake_any (w : World) : Calls Try.prog 7 #[] w (AwakeE w) := by
  have K0 := Lib.hid (new_any (Below.refl w.heap.size w))
  have K1 := Lib.hid (fun W P X (h : TY w W P X a0) => by have := y_join h (k := 7) (who := 1) (by decide +kernel) (wfs (by omega) (by omega)) (wfs (by omega) (by omega)); rw [l1] at this; exact this)
  have K2 := Lib.hid (fun W P X (h : TY w W P X a1) => by have := y_join h (k := 7) (who := 2) (by have := awN; omega) (wfs (by omega) (by omega)) (wfs (by omega) (by omega)); rw [l2] at this; exact this)
  have K3 := Lib.hid (fun W P X (h : TY w W P X a2) => by have := y_join h (k := 8) (who := 1) (by have := awN; omega) (wfs (by omega) (by omega)) (wfs (by omega) (by omega)); rw [l3] at this; exact this)
  have K4 := Lib.hid (fun W P X (h : TY w W P X a2) => by have := y_land h (k := 7) (who := 2) (e := 0) (by have := awN; omega) (by have := awN; omega) (wfs (by omega) (by omega)); rw [l4] at this; exact this)
  have K5 := Lib.hid (fun W P X (h : TY w W P X a2) => y_keys h (by have := awN; omega))
  have K6 := Lib.hid (fun W P X (h : TY w W P X a2) => by have := y_land h (k := 7) (who := 1) (e := 28) (by have := awN; omega) (by have := awN; omega) (wfs (by omega) (by omega)); rw [l5] at this; exact this)
  have K7 := Lib.hid (fun W P X (h : TY w W P X a3) => by have := y_result h (who := 2) (wfs (by omega) (by omega)); rw [l6] at this; exact this)
  have K8 := Lib.hid (fun W P X (h : TY w W P X a4) => by have := y_result h (who := 2) (wfs (by omega) (by omega)); rw [l7] at this; exact this)
  have K9 := Lib.hid (fun W P X (h : TY w W P X a5) => by have := y_busy h (who := 1) (wfs (by omega) (by omega)); rw [l8] at this; exact this)
  unfold YJ at K1 K2 K3
  unfold YL at K4 K6
  unfold YR at K7 K8
  unfold RetB at K9
  unfold NewE at K0
  dsimp only at K1 K2 K3 K4 K6 K7 K8
  go_enter Try.func7, Try.ntmps7
  go_wp2_with fail
  refine K0.out.mono ?_
  rintro _ w1 ⟨P, rfl, h1, -⟩
  have H1 := Lib.hid h1
  clear h1 K0
  go_wp2_with fail
  refine (K1.out _ _ _ H1.out).mono ?_
  rintro _ w2 ⟨rfl, h2, -⟩
  have H2 := Lib.hid h2
  clear h2
  go_wp2_with fail
  refine (K2.out _ _ _ H2.out).mono ?_
  rintro _ w3 ⟨rfl, h3, -⟩
  have H3 := Lib.hid h3
  clear h3
  go_wp2_with fail
  refine (K3.out _ _ _ H3.out).mono ?_
  rintro _ w4 ⟨rfl, h4, -⟩
  have H4 := Lib.hid h4
  clear h4
  go_wp2_with fail
  refine (K4.out _ _ _ H4.out).mono ?_
  rintro _ w5 ⟨Q5, c5, rfl, -, h5, -⟩
  have H5 := Lib.hid (h5.forget)
  clear h5
  go_wp2_with fail
  refine (K5.out _ _ _ H5.out).mono ?_
  rintro _ w6 ⟨v6, ks, rfl, hn6, hm6, ho6, hb6⟩
  obtain ⟨Q6, c6, rfl⟩ := ho6.form
  have HL6 := Lib.hid (one_key hn6 hm6)
  rw [HL6.out]
  have H6 := Lib.hid (H5.out.below hb6)
  clear hn6 hm6 ho6 hb6
  go_wp2_with fail
  refine (K6.out _ _ _ H6.out).mono ?_
  rintro _ w7 ⟨Q7, c7, rfl, ho7, h7, -⟩
  obtain ⟨g7, rfl, hl7, -, x7⟩ := ho7.cells.2 0 (by simp)
  have H7 := Lib.hid h7
  have HX7 := Lib.hid (show w7.cell? ⟨g7, 0, none⟩ = some (.int .i64 2) from x7)
  clear h7 x7 ho7
  go_wp2_with fail
  refine (K7.out _ _ _ H7.out).mono ?_
  rintro _ w8 ⟨rfl, h8, hs8⟩
  have H8 := Lib.hid h8
  have HX8 := Lib.hid ((World.cell?_of_block (a := ⟨g7, 0, none⟩) (hs8 g7 (.inr rfl))).trans HX7.out)
  clear h8 hs8
  go_wp2_with fail
  refine (K8.out _ _ _ H8.out).mono ?_
  rintro _ w9 ⟨rfl, h9, hs9⟩
  have H9 := Lib.hid h9
  have x9 := (World.cell?_of_block (a := ⟨g7, 0, none⟩) (hs9 g7 (.inr rfl))).trans HX8.out
  have HC := Lib.hid (K9.out _ _ _ H9.out)
  clear h9 hs9
  go_wp2_with fail
  refine HC.out.mono ?_
  rintro _ w10 ⟨rfl, hb10⟩
  have HF := Lib.hid (show AwakeE w (.returned (.bool true)) w10 from ⟨rfl, below_step H9.out.bel hb10⟩)
  clear hb10
  go_wp2_with fail
  go_ret
  exact HF.out
end Go.Proofs.Ytldleojipogcmaa.fl
