/- For every two paths and every two texts the law PathTexts returns true, and what is handed in reads as it did; there are no conditions. -/
import Derived.Test.YtlaceeiodlpmdaaPth
import Derived.Test.YtlaceeiodlpmdaaFrame
import Derived.Test.YtlaceeiodlpmdaaRef
import Derived.Test.YtlaceeiodlpmdaaRLess
import Derived.Test.YtlaceeiodlpmdaaRText
import Derived.Test.YtlaceeiodlpmdaaRLast
import Derived.Test.YtlaceeiodlpmdaaTwo
import Derived.Test.YtlaceeiodlpmdaaOpen
import Derived.Deep.DeepCutAuto
import Derived.Deep.RegionLaw
import Derived.Deep.AppendLies
import Derived.SizedLaws
import Derived.ProofKit
import Derived.OpenShut
import Derived.ShutString
namespace Go.Proofs.Ytlaceeiodlpmdaa.pathTexts
open Go.ChangeShapes Go.WideShapes Go.ChangeAt Go.RowKit
open Go.ChangeMaps (open_string shut_string)
set_option linter.unusedVariables false

theorem own : ownKnob Try.prog.godebug = none := by kernel_rfl
theorem laid : laidOutB Try.prog = true := by kernel_rfl

theorem pth2 {w : World} {A1 A2 : Option Addr} {n1 n2 c1 c2 : Nat} {xs ys : List Bs} (d1 d2 : Bool) (e1 : n1 = xs.length) (e2 : n2 = ys.length)
    (hx : Strs w w.heap.size A1 xs) (hy : Strs w w.heap.size A2 ys) (k1 : n1 ≤ c1 ∧ c1 ≤ maxLen) (k2 : n2 ≤ c2 ∧ c2 ≤ maxLen) :
    Pth ((w.alloc (.cells #[.slice A1 n1 c1, .bool d1] 25)).alloc (.cells #[.slice A2 n2 c2, .bool d2] 25)) w.heap.size A1 n1 c1 d1 xs ∧
    Pth ((w.alloc (.cells #[.slice A1 n1 c1, .bool d1] 25)).alloc (.cells #[.slice A2 n2 c2, .bool d2] 25)) (w.heap.size + 1) A2 n2 c2 d2 ys ∧
    Below w.heap.size w ((w.alloc (.cells #[.slice A1 n1 c1, .bool d1] 25)).alloc (.cells #[.slice A2 n2 c2, .bool d2] 25)) := by
  have a1 := below_alloc w (.cells #[.slice A1 n1 c1, .bool d1] 25)
  have a2 := below_alloc (w.alloc (.cells #[.slice A1 n1 c1, .bool d1] 25)) (.cells #[.slice A2 n2 c2, .bool d2] 25)
  have p1 := (Pth.new d1 e1 hx k1).keep a2
  have p2 := Pth.new d2 e2 (hy.up a1) k2
  simp only [World.size_alloc] at p2
  exact ⟨p1, p2, below_step a1 a2⟩

set_option maxHeartbeats 4000000 in
set_option maxRecDepth 100000 in
theorem walk (A1 A2 : Option Addr) (n1 n2 c1 c2 : Nat) (d1 d2 : Bool) (xs ys : List Bs) (a b : ByteArray) (w : World) (e1 : n1 = xs.length) (e2 : n2 = ys.length)
    (k1 : n1 ≤ c1 ∧ c1 ≤ maxLen) (k2 : n2 ≤ c2 ∧ c2 ≤ maxLen) (s1 : a.size ≤ maxLen) (s2 : b.size ≤ maxLen) (hx : Strs w w.heap.size A1 xs) (hy : Strs w w.heap.size A2 ys) (hm1 : ∀ x ∈ xs, x.length ≤ 140737488351232) :
    Calls Try.prog 4 #[Pv A1 n1 c1 d1, Pv A2 n2 c2 d2, .string a, .string b] w (AwakeE w) := by
  obtain ⟨i0, hi, hz0, hz1, hz2⟩ := info_parts info9
  obtain ⟨p1, p2, hB⟩ := pth2 d1 d2 e1 e2 hx hy k1 k2
  have b1 : n1 ≤ 9223372036854775807 := by have := k1.1; have := k1.2; unfold maxLen at this; omega
  have b2 : n2 ≤ 9223372036854775807 := by have := k2.1; have := k2.2; unfold maxLen at this; omega
  have HE := Lib.hid (And.intro e1 e2)
  have HM1 := Lib.hid hm1
  clear hm1
  clear e1 e2 k1 k2 hx hy
  go_enter Try.func4, Try.ntmps4
  go_wp2_with fail
  refine (awake_any _).mono ?_
  rintro e w1 ⟨rfl, hb⟩
  replace p1 := p1.keep hb
  replace p2 := p2.keep hb
  replace hB := below_step hB hb
  clear hb
  have q10 := p1.box.c0
  have q11 := p1.box.c1
  go_wp2_with fail
  refine p1.large.mono ?_
  rintro e wl1 (⟨rfl, hb⟩ | ⟨rfl, hl1, hb⟩)
  · go_wp2_with fail
    go_ret
    exact ⟨rfl, below_step hB hb⟩
  clear q10 q11
  replace p1 := p1.keep hb
  replace p2 := p2.keep hb
  replace hB := below_step hB hb
  clear hb
  have q20 := p2.box.c0
  have q21 := p2.box.c1
  go_wp2_with fail
  refine p2.large.mono ?_
  rintro e wl2 (⟨rfl, hb⟩ | ⟨rfl, hl2, hb⟩)
  · go_wp2_with fail
    go_ret
    exact ⟨rfl, below_step hB hb⟩
  clear q20 q21
  replace p1 := p1.keep hb
  replace p2 := p2.keep hb
  replace hB := below_step hB hb
  clear hb
  have hl1' : n1 ≤ 201 := by rw [HE.out.1]; exact hl1.1
  have hl2' : n2 ≤ 201 := by rw [HE.out.2]; exact hl2.1
  clear b1 b2
  go_upto_region 5 with fail
  have hlt2 : w.heap.size < wl2.heap.size := p1.box.lt
  have r0 := p1.box.c0
  have r1 := p1.box.c1
  go_cut [9] (fun v9 wx => Reg5 wl2 n1 d1 xs v9 wx)
  case first =>
    by_cases hn0 : n1 = 0
    · subst hn0
      have hx0 : xs = [] := List.eq_nil_of_length_eq_zero HE.out.1.symm
      have HX0 := Lib.hid hx0
      clear hx0
      cases A1 with
      | none =>
        go_region
        all_goals (go_wp2_with fail; go_meet; case rel => rw [HX0.out]; first | exact reg_01 _ _ _ | exact reg_02 _ _ _)
      | some ad =>
        go_region_law (first
          | (refine step_append_room (by rfl) _ _ _ (by rfl) 9 i0 1 Try.underlying23 hi hz1 wl2.heap.size 0 0 0 (by rfl) ad 0 c1 [] (by rfl) (by rfl) (by simp) (by simp) (by simp) (by simp) ?_; rw [setCells_nil])
          | (refine step_append_room (by rfl) _ _ _ (by rfl) 9 i0 1 Try.underlying23 hi hz1 (wl2.heap.size + 1) 0 0 0 (by rfl) ad 0 c1 [] (by rfl) (by rfl) (by simp) (by simp) (by simp) (by simp) ?_; rw [setCells_nil]))
        all_goals (go_wp2_with fail; go_meet; case rel => rw [HX0.out]; first | exact reg_01 _ _ _ | exact reg_02 _ _ _)
    · obtain ⟨ad, rfl, hadb, hcs⟩ := p1.st (by rw [← HE.out.1]; omega)
      have HC := Lib.hid (show ∀ W, Below wl2.heap.size wl2 W → ∀ (j : Nat) u, (xs.map Sv)[j]? = some u → W.cell? (ad.add j) = some u from fun W hW j u hu => by
        rw [List.getElem?_map, Option.map_eq_some_iff] at hu
        obtain ⟨y, hy, rfl⟩ := hu
        exact (hW.cell (p := ad.add j) (by rw [addr_block]; exact hadb)).trans (hcs j y hy))
      have HV := Lib.hid (show ∀ u ∈ xs.map Sv, u.oneCell' = true by intro u hu; simp at hu; obtain ⟨_, _, rfl⟩ := hu; rfl)
      clear hcs
      have l1 := strs_lit wl2 (w.heap.size + 2) (by have := p2.box.lt; omega)
      have l2 := strs_lit (wl2.alloc (.cells #[.slice none 0 0, .bool false] 25)) (w.heap.size + 2) (by have := p2.box.lt; simp; omega)
      simp only [World.size_alloc] at l2
      have hl2b : w.heap.size + 1 < wl2.heap.size := p2.box.lt
      have HL := Lib.hid (And.intro l1 l2)
      clear l1 l2
      have x1 := fun o => ((below_alloc wl2 o).drew.cell (p := ⟨w.heap.size, 0, none⟩) hlt2).trans r0
      have x2 := fun o => ((below_alloc wl2 o).drew.cell (p := ⟨w.heap.size, 1, none⟩) hlt2).trans r1
      have x3 := fun o o' => ((below_step (below_alloc wl2 o) (below_alloc (wl2.alloc o) o')).drew.cell (p := ⟨w.heap.size, 0, none⟩) hlt2).trans r0
      have x4 := fun o o' => ((below_step (below_alloc wl2 o) (below_alloc (wl2.alloc o) o')).drew.cell (p := ⟨w.heap.size, 1, none⟩) hlt2).trans r1
      have y2 : (((wl2.alloc (.cells #[] 9)).alloc (.cells #[.slice none 0 0, .bool false] 25)).drew).cell? ⟨wl2.heap.size + 1, 0, none⟩ = some (.slice none 0 0) ∧ (((wl2.alloc (.cells #[] 9)).alloc (.cells #[.slice none 0 0, .bool false] 25)).drew).cell? ⟨wl2.heap.size + 1, 1, none⟩ = some (.bool false) ∧ (((wl2.alloc (.cells #[] 9)).alloc (.cells #[.slice none 0 0, .bool false] 25)).drew).frozen? ⟨wl2.heap.size + 1, 0, none⟩ = false ∧ (((wl2.alloc (.cells #[] 9)).alloc (.cells #[.slice none 0 0, .bool false] 25)).drew).frozen? ⟨wl2.heap.size + 1, 1, none⟩ = false := by
        have b := Box.new (wl2.alloc (.cells #[] 9)) (.slice none 0 0) (.bool false) 25
        have f0 := fz0 (wl2.alloc (.cells #[] 9)) (.slice none 0 0) (.bool false)
        have f1 := fz1 (wl2.alloc (.cells #[] 9)) (.slice none 0 0) (.bool false)
        simp only [World.size_alloc] at f0 f1
        exact ⟨by have := b.c0; simp only [World.size_alloc] at this; exact this, by have := b.c1; simp only [World.size_alloc] at this; exact this, f0, f1⟩
      have y3 : (((wl2.alloc (.cells #[.slice none 0 0, .bool false] 25)).alloc (.cells #[] 9)).drew).cell? ⟨wl2.heap.size, 0, none⟩ = some (.slice none 0 0) ∧ (((wl2.alloc (.cells #[.slice none 0 0, .bool false] 25)).alloc (.cells #[] 9)).drew).cell? ⟨wl2.heap.size, 1, none⟩ = some (.bool false) ∧ (((wl2.alloc (.cells #[.slice none 0 0, .bool false] 25)).alloc (.cells #[] 9)).drew).frozen? ⟨wl2.heap.size, 0, none⟩ = false ∧ (((wl2.alloc (.cells #[.slice none 0 0, .bool false] 25)).alloc (.cells #[] 9)).drew).frozen? ⟨wl2.heap.size, 1, none⟩ = false := by
        have b := Box.new wl2 (.slice none 0 0) (.bool false) 25
        have h := (below_alloc (wl2.alloc (.cells #[.slice none 0 0, .bool false] 25)) (.cells #[] 9)).drew
        exact ⟨(h.cell (p := ⟨wl2.heap.size, 0, none⟩) b.lt).trans b.c0, (h.cell (p := ⟨wl2.heap.size, 1, none⟩) b.lt).trans b.c1, (h.frozen (p := ⟨wl2.heap.size, 0, none⟩) b.lt).trans (fz0 _ _ _), (h.frozen (p := ⟨wl2.heap.size, 1, none⟩) b.lt).trans (fz1 _ _ _)⟩
      have Y2 := Lib.hid y2
      have Y3 := Lib.hid y3
      clear y2 y3
      go_region_law (first
        | (refine step_append_lies _ (by rfl) _ _ _ (by rfl) (w.heap.size + 2) 9 i0 _ 1 16 Try.underlying23 hi hz0 hz1 hz2 (by rfl) (by decide) _ 0 [] (by rfl) (HL.out.1.drew) ad n1 c1 (xs.map Sv) (by rfl) (by rw [List.length_map, ← HE.out.1]; omega) (HC.out _ (below_alloc wl2 _).drew) HV.out (by omega) (by unfold maxLen; omega) (by omega) (by simp <;> omega) _ rfl ?_; intro gg cap w3 hown1 hgrow hat hlt3; have k0 := (hgrow.cell_far ⟨w.heap.size, 0, none⟩ (by simp <;> omega) (by simp [Value.ownBlock] <;> omega)).trans (x1 _); have k1 := (hgrow.cell_far ⟨w.heap.size, 1, none⟩ (by simp <;> omega) (by simp [Value.ownBlock] <;> omega)).trans (x2 _); have k2 : wl2.heap.size < w3.heap.size := Nat.lt_of_lt_of_le (by simp <;> omega) hgrow.size; have k3 := Nat.lt_trans hlt2 k2; have k4 := fun o => ((below_alloc w3 o).cell (p := ⟨w.heap.size, 0, none⟩) k3).trans k0; have k5 := fun o => ((below_alloc w3 o).cell (p := ⟨w.heap.size, 1, none⟩) k3).trans k1)
        | (refine step_append_lies _ (by rfl) _ _ _ (by rfl) (w.heap.size + 2) 9 i0 _ 1 16 Try.underlying23 hi hz0 hz1 hz2 (by rfl) (by decide) _ 0 [] (by rfl) ((HL.out.1.alloc _).drew) ad n1 c1 (xs.map Sv) (by rfl) (by rw [List.length_map, ← HE.out.1]; omega) (HC.out _ (below_step (below_alloc wl2 _) (below_alloc _ _)).drew) HV.out (by omega) (by unfold maxLen; omega) (by omega) (by simp <;> omega) _ rfl ?_; intro gg cap w3 hown1 hgrow hat hlt3; have k0 := (hgrow.cell_far ⟨w.heap.size, 0, none⟩ (by simp <;> omega) (by simp [Value.ownBlock] <;> omega)).trans (x3 _ _); have k1 := (hgrow.cell_far ⟨w.heap.size, 1, none⟩ (by simp <;> omega) (by simp [Value.ownBlock] <;> omega)).trans (x4 _ _); have k2 : wl2.heap.size < w3.heap.size := Nat.lt_of_lt_of_le (by simp <;> omega) hgrow.size; have k3 := Nat.lt_trans hlt2 k2; have k4 := fun o => ((below_alloc w3 o).cell (p := ⟨w.heap.size, 0, none⟩) k3).trans k0; have k5 := fun o => ((below_alloc w3 o).cell (p := ⟨w.heap.size, 1, none⟩) k3).trans k1; have m0 := (hgrow.cell_far ⟨wl2.heap.size + 1, 0, none⟩ (by simp <;> omega) (by simp [Value.ownBlock] <;> omega)).trans (Y2.out.1); have m1 := (hgrow.cell_far ⟨wl2.heap.size + 1, 1, none⟩ (by simp <;> omega) (by simp [Value.ownBlock] <;> omega)).trans (Y2.out.2.1); have g0 := (hgrow.frozen_far ⟨wl2.heap.size + 1, 0, none⟩ (by simp <;> omega) (by simp [Value.ownBlock] <;> omega)).trans (Y2.out.2.2.1); have g1 := (hgrow.frozen_far ⟨wl2.heap.size + 1, 1, none⟩ (by simp <;> omega) (by simp [Value.ownBlock] <;> omega)).trans (Y2.out.2.2.2))
        | (refine step_append_lies _ (by rfl) _ _ _ (by rfl) (w.heap.size + 2) 9 i0 _ 1 16 Try.underlying23 hi hz0 hz1 hz2 (by rfl) (by decide) _ 0 [] (by rfl) (HL.out.2.drew) ad n1 c1 (xs.map Sv) (by rfl) (by rw [List.length_map, ← HE.out.1]; omega) (HC.out _ (below_step (below_alloc wl2 _) (below_alloc _ _)).drew) HV.out (by omega) (by unfold maxLen; omega) (by omega) (by simp <;> omega) _ rfl ?_; intro gg cap w3 hown1 hgrow hat hlt3; have k0 := (hgrow.cell_far ⟨w.heap.size, 0, none⟩ (by simp <;> omega) (by simp [Value.ownBlock] <;> omega)).trans (x3 _ _); have k1 := (hgrow.cell_far ⟨w.heap.size, 1, none⟩ (by simp <;> omega) (by simp [Value.ownBlock] <;> omega)).trans (x4 _ _); have k2 : wl2.heap.size < w3.heap.size := Nat.lt_of_lt_of_le (by simp <;> omega) hgrow.size; have k3 := Nat.lt_trans hlt2 k2; have k4 := fun o => ((below_alloc w3 o).cell (p := ⟨w.heap.size, 0, none⟩) k3).trans k0; have k5 := fun o => ((below_alloc w3 o).cell (p := ⟨w.heap.size, 1, none⟩) k3).trans k1; have m0 := (hgrow.cell_far ⟨wl2.heap.size, 0, none⟩ (by simp <;> omega) (by simp [Value.ownBlock] <;> omega)).trans (Y3.out.1); have m1 := (hgrow.cell_far ⟨wl2.heap.size, 1, none⟩ (by simp <;> omega) (by simp [Value.ownBlock] <;> omega)).trans (Y3.out.2.1); have g0 := (hgrow.frozen_far ⟨wl2.heap.size, 0, none⟩ (by simp <;> omega) (by simp [Value.ownBlock] <;> omega)).trans (Y3.out.2.2.1); have g1 := (hgrow.frozen_far ⟨wl2.heap.size, 1, none⟩ (by simp <;> omega) (by simp [Value.ownBlock] <;> omega)).trans (Y3.out.2.2.2)))
      all_goals (go_wp2_with fail; go_meet)
      all_goals
        case rel =>
          first
            | exact reg_a HE.out.1 hown1 (grown_b1 hgrow (by intro j hj; simp [Value.ownBlock] at hj; omega))
            | exact reg_a HE.out.1 hown1 (grown_b2 hgrow (by intro j hj; simp [Value.ownBlock] at hj; omega))
            | exact reg_b HE.out.1 hown1 (grown_b2 hgrow (by intro j hj; simp [Value.ownBlock] at hj; omega)) m0 m1 g1 (by have := grown_z2 hgrow; omega) (by omega)
  case rest =>
    obtain ⟨bx, A4, c4, rfl, p4, hb⟩ := hcut
    clear r0 r1 hlt2
    replace p1 := p1.keep hb
    replace p2 := p2.keep hb
    replace hB := below_step hB hb
    clear hb
    obtain ⟨ns, nx, nf, nb, hnl, HL0⟩ := last_two xs
    obtain ⟨js, jf, jb, hjl, HJ0⟩ := join_two xs ys d1 d2
    obtain ⟨tt, HT0⟩ := text_two xs d1 hl1 HM1.out
    have HL := Lib.hid HL0
    have HJ := Lib.hid HJ0
    have HT := Lib.hid HT0
    have hnl2 : ns.length ≤ 201 := by have := hl1.1; omega
    clear HL0 HJ0 HT0 hnl
    have hs1 := p1.st
    have hs2 := p2.st
    have hs4 := p4.st
    have q0 := p4.box.c0
    have q1 := p4.box.c1
    go_wp2_with fail
    refine ((HL.out A4 n1 c4 wc.heap.size d1 _ HE.out.1 (by omega) p4.cap.1 (Nat.le_refl _) hs4).1).mono ?_
    rintro e wd ⟨Ad, nd, cd, rfl, hnd, od, hbd⟩
    have HND := Lib.hid hnd
    have hnd2 : nd ≤ 201 := by omega
    clear q0 q1 hnd
    have b1 := hbd.trans ((below_alloc wd (.cells #[.slice Ad nd cd, .bool nb] 25)).mono hbd.size)
    have q0 := (p1.keep b1).box.c0
    have q1 := (p1.keep b1).box.c1
    go_wp2_with fail
    refine ((HL.out A1 n1 c1 wc.heap.size d1 _ HE.out.1 (by omega) p1.cap.1 b1.size (hs1.below b1)).2).mono ?_
    rintro e wk ⟨Ak, nk, ck, rfl, hnk, ok, hbk⟩
    have HNK := Lib.hid hnk
    have hnk2 : nk ≤ 201 := by omega
    clear q0 q1 hnk
    have b2 := below_step (below_step b1 hbk) (below_alloc wk (.cells #[.slice Ak nk ck, .bool nb] 25))
    have q0 := (p4.keep b2).box.c0
    have q1 := (p4.keep b2).box.c1
    have q2 := (p2.keep b2).box.c0
    have q3 := (p2.keep b2).box.c1
    go_wp2_with fail
    refine ((HJ.out A4 A2 n1 c4 n2 c2 wc.heap.size _ (by omega) (by omega) HE.out.1 HE.out.2 b2.size (hs4.below b2) (hs2.below b2)).1).mono ?_
    rintro e wj ⟨Aj, nj, cj, rfl, hnj, oj, hbj⟩
    have HNJ := Lib.hid hnj
    have hnj2 : nj ≤ 40 := by omega
    clear q0 q1 q2 q3 hnj
    have b3 := below_step (below_step b2 hbj) (below_alloc wj (.cells #[.slice Aj nj cj, .bool jb] 25))
    have q0 := (p1.keep b3).box.c0
    have q1 := (p1.keep b3).box.c1
    have q2 := (p2.keep b3).box.c0
    have q3 := (p2.keep b3).box.c1
    go_wp2_with fail
    refine ((HJ.out A1 A2 n1 c1 n2 c2 wc.heap.size _ (by omega) (by omega) HE.out.1 HE.out.2 b3.size (hs1.below b3) (hs2.below b3)).2).mono ?_
    rintro e wm ⟨Am, nm, cm, rfl, hnm, om, hbm⟩
    have HNM := Lib.hid hnm
    have hnm2 : nm ≤ 40 := by omega
    clear q0 q1 q2 q3 hnm
    have b4 := below_step (below_step b3 hbm) (below_alloc wm (.cells #[.slice Am nm cm, .bool jb] 25))
    go_upto_region 10 with fail
    have d0 := Box.new wd (.slice Ad nd cd) (.bool nb) 25
    have k0 := Box.new wk (.slice Ak nk ck) (.bool nb) 25
    have j0 := Box.new wj (.slice Aj nj cj) (.bool jb) 25
    have m0 := Box.new wm (.slice Am nm cm) (.bool jb) 25
    have t1 := below_step hbk (below_alloc wk (.cells #[.slice Ak nk ck, .bool nb] 25))
    have t2 := below_step hbj (below_alloc wj (.cells #[.slice Aj nj cj, .bool jb] 25))
    have t3 := below_step hbm (below_alloc wm (.cells #[.slice Am nm cm, .bool jb] 25))
    have d1' := ((d0.keep t1).keep t2).keep t3
    have k1' := (k0.keep t2).keep t3
    have j1' := j0.keep t3
    have od1 := (((od.keep (below_alloc wd (.cells #[.slice Ad nd cd, .bool nb] 25))).keep t1).keep t2).keep t3
    have ok1 := ((ok.keep (below_alloc wk (.cells #[.slice Ak nk ck, .bool nb] 25))).keep t2).keep t3
    have oj1 := (oj.keep (below_alloc wj (.cells #[.slice Aj nj cj, .bool jb] 25))).keep t3
    have om1 := om.keep (below_alloc wm (.cells #[.slice Am nm cm, .bool jb] 25))
    have gj : wd.heap.size < (wk.alloc (.cells #[.slice Ak nk ck, .bool nb] 25)).heap.size := Nat.lt_of_lt_of_le d0.lt (Nat.le_trans hbk.size (by simp))
    have gj2 : ∀ ad, Ad = some ad → ad.block < (wk.alloc (.cells #[.slice Ak nk ck, .bool nb] 25)).heap.size := fun ad e => Nat.lt_trans (od.low ad e).2 gj
    have gj3 : ∀ ad, Ad = some ad → wj.heap.size ≠ ad.block := fun ad e => by
      have h1 := gj2 ad e
      have h2 := hbj.size
      omega
    have gd3 : ∀ ad, Ad = some ad → wd.heap.size ≠ ad.block := fun ad e => by have := (od.low ad e).2; omega
    have gj4 : ∀ ad, Aj = some ad → wj.heap.size ≠ ad.block := fun ad e => by have := (oj.low ad e).2; omega
    have lowd : ∀ ad, Ad = some ad → wc.heap.size ≤ ad.block := fun ad e => (od.low ad e).1
    have lowj : ∀ ad, Aj = some ad → wc.heap.size ≤ ad.block := fun ad e => Nat.le_trans b2.size (oj.low ad e).1
    have GJ := Lib.hid (And.intro gj2 (And.intro gj3 (And.intro gd3 (And.intro gj4 (And.intro lowd lowj)))))
    clear gj gj2 gj3 gd3 gj4 lowd lowj d0 k0 j0 od ok oj om hbd hbk hbj hbm b1 b2 b3 t1 t2 t3
    have A0 := p4.keep b4
    have A1' := p1.keep b4
    have z4 := hs4.below b4
    have z1 := hs1.below b4
    have z2 := b4.size
    have HW := Lib.hid (And.intro b4 (And.intro od1 (And.intro oj1 (And.intro ok1 om1))))
    generalize hw10 : wm.alloc (.cells #[.slice Am nm cm, .bool jb] 25) = w10 at *
    have HQ := Lib.hid (And.intro A0 (And.intro A1' (And.intro d1' (And.intro k1' (And.intro j1' m0)))))
    clear hw10 od1 ok1 oj1 om1
    have f0 : ∀ p : BelowOf w10, p.W.cell? ⟨bx, 0, none⟩ = some (.slice A4 n1 c4) := fun p => (A0.keep p.h).box.c0
    have f1 : ∀ p : BelowOf w10, p.W.cell? ⟨bx, 1, none⟩ = some (.bool d1) := fun p => (A0.keep p.h).box.c1
    have f2 : ∀ p : BelowOf w10, p.W.cell? ⟨w.heap.size, 0, none⟩ = some (.slice A1 n1 c1) := fun p => (A1'.keep p.h).box.c0
    have f3 : ∀ p : BelowOf w10, p.W.cell? ⟨w.heap.size, 1, none⟩ = some (.bool d1) := fun p => (A1'.keep p.h).box.c1
    have f4 : ∀ p : BelowOf w10, p.W.cell? ⟨wd.heap.size, 0, none⟩ = some (.slice Ad nd cd) := fun p => (d1'.keep p.h).c0
    have f5 : ∀ p : BelowOf w10, p.W.cell? ⟨wd.heap.size, 1, none⟩ = some (.bool nb) := fun p => (d1'.keep p.h).c1
    have f6 : ∀ p : BelowOf w10, p.W.cell? ⟨wk.heap.size, 0, none⟩ = some (.slice Ak nk ck) := fun p => (k1'.keep p.h).c0
    have f7 : ∀ p : BelowOf w10, p.W.cell? ⟨wk.heap.size, 1, none⟩ = some (.bool nb) := fun p => (k1'.keep p.h).c1
    have f8 : ∀ p : BelowOf w10, p.W.cell? ⟨wj.heap.size, 0, none⟩ = some (.slice Aj nj cj) := fun p => (j1'.keep p.h).c0
    have f9 : ∀ p : BelowOf w10, p.W.cell? ⟨wj.heap.size, 1, none⟩ = some (.bool jb) := fun p => (j1'.keep p.h).c1
    have fa : ∀ p : BelowOf w10, p.W.cell? ⟨wm.heap.size, 0, none⟩ = some (.slice Am nm cm) := fun p => (m0.keep p.h).c0
    have fb : ∀ p : BelowOf w10, p.W.cell? ⟨wm.heap.size, 1, none⟩ = some (.bool jb) := fun p => (m0.keep p.h).c1
    have T1 := Lib.hid (show ∀ p : BelowOf w10, Calls Try.prog 23 #[Pv A4 n1 c4 d1] p.W fun e w'' => e = .returned (Sv tt) ∧ ∃ q : BelowOf w10, w'' = q.W from fun p =>
      calls_below p ((HT.out A4 n1 c4 wc.heap.size p.W HE.out.1 p4.cap.1 (Nat.le_trans z2 p.h.size) ((z4.below (p.h.mono z2)))).1))
    have T2 := Lib.hid (show ∀ p : BelowOf w10, Calls Try.prog 24 #[Pv A1 n1 c1 d1] p.W fun e w'' => e = .returned (Sv tt) ∧ ∃ q : BelowOf w10, w'' = q.W from fun p =>
      calls_below p ((HT.out A1 n1 c1 wc.heap.size p.W HE.out.1 p1.cap.1 (Nat.le_trans z2 p.h.size) ((z1.below (p.h.mono z2)))).2))
    have S1 := Lib.hid (show ∀ p : BelowOf w10, Calls Try.prog 15 #[Pv Ad nd cd nb, Pv Ak nk ck nb] p.W fun e w'' => e = .returned (.bool true) ∧ ∃ q : BelowOf w10, w'' = q.W from fun p => by
      have e1 := HND.out
      have e2 := HNK.out
      have s1 := HW.out.2.1.strs
      have s2 := HW.out.2.2.2.1.strs
      refine calls_below p ((same_any Ad Ak nd cd nk ck w10.heap.size nb nb ns ns p.W e1 e2 (by omega) p.h.size (s1.below p.h) (s2.below p.h)).mono fun _ _ ⟨he, hb⟩ => ⟨by rw [he, sameIs], hb⟩))
    have S2 := Lib.hid (show ∀ p : BelowOf w10, Calls Try.prog 15 #[Pv Aj nj cj jb, Pv Am nm cm jb] p.W fun e w'' => e = .returned (.bool true) ∧ ∃ q : BelowOf w10, w'' = q.W from fun p => by
      have e1 := HNJ.out
      have e2 := HNM.out
      have s1 := HW.out.2.2.1.strs
      have s2 := HW.out.2.2.2.2.strs
      refine calls_below p ((same_any Aj Am nj cj nm cm w10.heap.size jb jb js js p.W e1 e2 (by omega) p.h.size (s1.below p.h) (s2.below p.h)).mono fun _ _ ⟨he, hb⟩ => ⟨by rw [he, sameIs], hb⟩))
    clear A0 A1' d1' k1' j1' m0 z4 z1
    have HP := Lib.hid (And.intro p1 p4)
    clear p1 p2 p4
    refine wp_region_below (by kernel_rfl) (by kernel_rfl) ?_
    repeat (go_big_quiet_step (first
        | (go_at_call 23; with_reducible exact T1.out _)
        | (go_at_call 24; with_reducible exact T2.out _)
        | (go_at_call 15; with_reducible exact S1.out _)
        | (go_at_call 15; with_reducible exact S2.out _)))
    refine wpQuiet_nil ?_
    rintro w11 ⟨⟨_, h11⟩, rfl⟩
    have g0 := f0 ⟨w11, h11⟩
    have g1 := f1 ⟨w11, h11⟩
    have g2 := f2 ⟨w11, h11⟩
    have g3 := f3 ⟨w11, h11⟩
    have g4 := f4 ⟨w11, h11⟩
    have g8 := f8 ⟨w11, h11⟩
    have b11 := below_step HW.out.1 h11
    have SD := Spoil.start (HW.out.2.1.keep h11)
    have OJ := HW.out.2.2.1.keep h11
    have Q0 := HQ.out.1.keep h11
    have Q1 := HQ.out.2.1.keep h11
    rw [← HND.out] at SD
    dsimp only at g0 g1 g2 g3 g4 g8
    have HG := Lib.hid (And.intro g0 (And.intro g1 (And.intro g2 (And.intro g3 (And.intro g8 OJ)))))
    clear f0 f1 f2 f3 f4 f5 f6 f7 f8 f9 fa fb T1 T2 S1 S2 h11 Q0 Q1 g0 g1 g2 g3 g8 OJ z2 b4
    go_wp2_with fail
    go_loopg [96] nd (fun g i wr => ∃ k : Nat, k ≤ nd ∧ g + k = nd ∧ i = .int .i64 k ∧ Spoil w11 wr Ad nd)
    case atStart => exact ⟨0, by omega, by omega, rfl, SD⟩
    case round =>
      clear SD
      obtain ⟨k, hk, hgk, rfl, hS⟩ := hrel
      have g4' := (hS.cell ⟨wd.heap.size, 0, none⟩ GJ.out.2.2.1).trans g4
      by_cases hlt : k < nd
      · obtain ⟨gd, x0, rfl, hc, hf⟩ := hS.cells k hlt
        go_wp2_with fail
        go_roundg (gk - 1)
        case measure => omega
        case rel => exact ⟨k + 1, by omega, by omega, by go_num, hS.step hlt _⟩
      · have g8' := (hS.cell ⟨wj.heap.size, 0, none⟩ GJ.out.2.1).trans HG.out.2.2.2.2.1
        have OJ := HG.out.2.2.2.2.2.spoil hS GJ.out.1
        have SJ := Spoil.start OJ
        rw [← HNJ.out] at SJ
        have b12 := b11.trans (hS.below GJ.out.2.2.2.2.1)
        clear OJ g4 b11
        go_wp2_with fail
        go_loopg [107] nj (fun g i wr2 => ∃ k : Nat, k ≤ nj ∧ g + k = nj ∧ i = .int .i64 k ∧ Spoil wr wr2 Aj nj)
        case atStart => exact ⟨0, by omega, by omega, rfl, SJ⟩
        case round =>
          clear SJ
          obtain ⟨m, hm, hgm, rfl, hS2⟩ := hrel
          have g8'' := (hS2.cell ⟨wj.heap.size, 0, none⟩ GJ.out.2.2.2.1).trans g8'
          by_cases hlt2 : m < nj
          · obtain ⟨gd, x0, rfl, hc, hf⟩ := hS2.cells m hlt2
            go_wp2_with fail
            go_roundg (gk - 1)
            case measure => omega
            case rel => exact ⟨m + 1, by omega, by omega, by go_num, hS2.step hlt2 _⟩
          · have b13 := b12.trans (hS2.below GJ.out.2.2.2.2.2)
            have e0 := (HP.out.2.keep b13).box.c0
            have e1 := (HP.out.2.keep b13).box.c1
            have e2 := (HP.out.1.keep b13).box.c0
            have e3 := (HP.out.1.keep b13).box.c1
            have HSAME := Lib.hid (show ∀ W, Below wc.heap.size wc W → Calls Try.prog 15 #[Pv A4 n1 c4 d1, Pv A1 n1 c1 d1] W (fun e w'' => e = .returned (.bool true) ∧ Below W.heap.size W w'') from fun W hb =>
              (same_any A4 A1 n1 c4 n1 c1 wc.heap.size d1 d1 xs xs W HE.out.1 HE.out.1 (by omega) hb.size (hs4.below hb) (hs1.below hb)).mono fun _ _ ⟨he, h⟩ => ⟨by rw [he, sameIs], h⟩)
            go_wp2_with fail
            refine (HSAME.out _ b13).mono ?_
            rintro e wy ⟨rfl, hby⟩
            go_wp2_with fail
            refine (less_any _ _ _).mono ?_
            rintro e wy2 ⟨rfl, rfl⟩
            go_wp2_with fail
            refine (rless_any _ _ _ s1 s2).mono ?_
            rintro e wz ⟨rfl, hbz⟩
            go_wp2_with fail
            go_ret
            exact ⟨rfl, below_step (below_step (hB.trans (b13.mono hB.size)) hby) hbz⟩

set_option maxRecDepth 100000 in
theorem lifted (os : Os) (started : os.Started) (H : Type) (enc : TypeId × Value → H) :
    ReturnsInHanded {} Try.checked os 4 .any (Rows.pathTextsSpec.pre6 enc Try.prog Try.f4 Rows.pathTextsRow.domain false) (Rows.pathTextsSpec.post enc Try.prog Try.f4 false true false false) := by
  refine returnsInHanded_of_change_sized (C := Try.checked) own started (by kernel_rfl) Try.func4
    (ChangeSpec.witness6 (enc := enc) (C := Try.checked) false ⟨#[], #[.agg #[.slice none 0 0, .bool false], .agg #[.slice none 0 0, .bool false], .string ByteArray.empty, .string ByteArray.empty], []⟩ 8 (by kernel_rfl) (by kernel_rfl) (by kernel_rfl) (by kernel_rfl)) ?_
  intro W base args ds gs before hval0 hW hcnd hsz _
  have hval : ∀ (j : Nat) t v, Try.f4.params[j]? = some t → args[j]? = some v → Value.okWide Try.prog W .any base t v := hval0
  have hW' := hW
  obtain ⟨p, q, hA0, hV, rfl, hfz, hnd⟩ := hW
  have hA : DataW.TrodAll enc Try.prog W 0 (fun _ => true) true Try.f4.params.toList args.toList ds p := hA0
  rw [Try.params4] at hA hval
  obtain ⟨v0, vs0, d0, ds0, p0, q0, hargs, rfl, rfl, h0, r0⟩ := trodAll_cons hA
  obtain ⟨v1, vs1, d1, ds1, p1, q1, rfl, rfl, rfl, h1, r1⟩ := trodAll_cons r0
  obtain ⟨v2, vs2, d2, ds2, p2, q2, rfl, rfl, rfl, h2, r2⟩ := trodAll_cons r1
  obtain ⟨v3, vs3, d3, ds3, p3, q3, rfl, rfl, rfl, h3, r3⟩ := trodAll_cons r2
  obtain ⟨rfl, rfl, rfl⟩ := trodAll_nil r3
  obtain rfl : args = #[v0, v1, v2, v3] := by cases args; simp_all
  obtain ⟨rfl, rfl⟩ := trodVars_none hV
  have hlt := fun x hx => hW'.lt x hx
  have t0 := h0
  obtain ⟨A0, n0, c0, b0, x0, rfl, e0, k0, s0, m0⟩ := open_path2 (hval 0 25 v0 rfl rfl) h0 (fun n hn => by have := List.all_eq_true.1 hsz n (DataW.weights_mem_each (j := 0) (t := 25) (d := d0) rfl rfl n hn); simpa using this)
  have t1 := h1
  obtain ⟨A1, n1, c1, b1, x1, rfl, e1, k1, s1, m1⟩ := open_path2 (hval 1 25 v1 rfl rfl) h1 (fun n hn => by have := List.all_eq_true.1 hsz n (DataW.weights_mem_each (j := 1) (t := 25) (d := d1) rfl rfl n hn); simpa using this)
  obtain ⟨a2, rfl, rfl, rfl, w2⟩ := open_string Try.underlying9 (hval 2 9 v2 rfl rfl) h2
  obtain ⟨a3, rfl, rfl, rfl, w3⟩ := open_string Try.underlying9 (hval 3 9 v3 rfl rfl) h3
  clear hA0 hval0
  refine (walk A0 A1 n0 n1 c0 c1 b0 b1 x0 x1 a2 a3 W e0 e1 k0 k1 w2 w3 s0 s1 m0).mono fun e W' ⟨he, hg⟩ => ?_
  subst he
  exact ⟨_, rfl, law_post (pv := []) hW' (fun _ _ _ => (trodAll_cons_mk (shut_bool Try.underlying4 _) trodAll_mk0)) (fun sp hsp => (trodAll_cons_mk (path_stays t0 hg (by simp +contextual) hlt hsp laid) (trodAll_cons_mk (path_stays t1 hg (by simp +contextual) hlt hsp laid) (trodAll_cons_mk (shut_string Try.underlying9 w2) (trodAll_cons_mk (shut_string Try.underlying9 w3) trodAll_mk0))))) (fun _ _ => rfl) (by simp)
    hg (ok_one (by kernel_rfl) rfl (okWide_bool_mk Try.underlying4 _))⟩

theorem over : Rows.pathTextsRow.holds Try.pinned (OpenSpec.ofChange Rows.pathTextsSpec) :=
  OpenClaim.holds_of_wide 4 Try.f4 rfl rfl rfl rfl rfl rfl rfl ⟨rfl, rfl, rfl, rfl, rfl⟩ rfl rfl rfl rfl rfl (by kernel_rfl) Try.func4 (by kernel_rfl)
    (of_decide_eq_true (by kernel_rfl)) (by unfold Func.isWrapper; first | (rw [if_pos (by decide +kernel)]; kernel_rfl) | (rw [if_neg (by decide +kernel)]; exact ⟨rfl, rfl⟩))
    (fun os started H enc _ => lifted os started H enc)

/-- The statement. -/
theorem proved : Rows.PathTextsSaid :=
  over
end Go.Proofs.Ytlaceeiodlpmdaa.pathTexts
