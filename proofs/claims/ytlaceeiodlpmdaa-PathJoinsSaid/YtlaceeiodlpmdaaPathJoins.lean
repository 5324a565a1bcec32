/- For every three paths the law PathJoins returns true, and the paths read as they did; there are no conditions. -/
import Derived.Test.YtlaceeiodlpmdaaPth
import Derived.Test.YtlaceeiodlpmdaaFrame
import Derived.Test.YtlaceeiodlpmdaaOpen
import Derived.ProofKit
import Derived.OpenShut
import Derived.ShutString
namespace Go.Proofs.Ytlaceeiodlpmdaa.pathJoins
open Go.ChangeShapes Go.WideShapes Go.ChangeAt Go.RowKit
open Go.ChangeMaps (open_string shut_string)
set_option linter.unusedVariables false

theorem own : ownKnob Try.prog.godebug = none := by kernel_rfl
theorem laid : laidOutB Try.prog = true := by kernel_rfl

theorem joinDir_some {ys : List Bs} {d d' : Bool} (h : ys ≠ []) : joinDir ys d d' = d' := by
  cases ys with
  | nil => exact absurd rfl h
  | cons _ _ => rfl
theorem joinDir_nil (d d' : Bool) : joinDir [] d d' = d := rfl
/-- The two ways of joining three paths end alike, but where the later two have no names. -/
theorem joinDirs (ys zs : List Bs) (d1 d2 d3 : Bool) (h : ¬ (ys.length = 0 ∧ zs.length = 0)) : joinDir zs (joinDir ys d1 d2) d3 = joinDir (ys ++ zs) d1 (joinDir zs d2 d3) := by
  cases zs with
  | nil =>
    cases ys with
    | nil => exact absurd ⟨rfl, rfl⟩ h
    | cons _ _ => rfl
  | cons z zs =>
    rw [joinDir_some (ys := z :: zs) (by simp), joinDir_some (ys := ys ++ z :: zs) (by simp), joinDir_some (ys := z :: zs) (by simp)]

set_option maxHeartbeats 8000000 in
set_option maxRecDepth 100000 in
theorem walk (A1 A2 A3 : Option Addr) (n1 n2 n3 c1 c2 c3 : Nat) (d1 d2 d3 : Bool) (xs ys zs : List Bs) (w : World) (e1 : n1 = xs.length) (e2 : n2 = ys.length) (e3 : n3 = zs.length)
    (k1 : n1 ≤ c1 ∧ c1 ≤ maxLen) (k2 : n2 ≤ c2 ∧ c2 ≤ maxLen) (k3 : n3 ≤ c3 ∧ c3 ≤ maxLen) (hx : Strs w w.heap.size A1 xs) (hy : Strs w w.heap.size A2 ys) (hz : Strs w w.heap.size A3 zs) :
    Calls Try.prog 11 #[Pv A1 n1 c1 d1, Pv A2 n2 c2 d2, Pv A3 n3 c3 d3] w (AwakeE w) := by
  obtain ⟨p1, p2, p3, hB⟩ := pth3 d1 d2 d3 e1 e2 e3 hx hy hz k1 k2 k3
  obtain ⟨us, hus⟩ : ∃ us, xs ++ ys = us := ⟨_, rfl⟩
  obtain ⟨ts, hts⟩ : ∃ ts, ys ++ zs = ts := ⟨_, rfl⟩
  obtain ⟨vs, hvs⟩ : ∃ vs, us ++ zs = vs := ⟨_, rfl⟩
  have hvs2 : xs ++ ts = vs := by rw [← hvs, ← hus, ← hts, List.append_assoc]
  have lu : us.length = n1 + n2 := by rw [← hus, List.length_append, e1, e2]
  have lt : ts.length = n2 + n3 := by rw [← hts, List.length_append, e2, e3]
  have lv : vs.length = n1 + n2 + n3 := by rw [← hvs, List.length_append, lu, e3]
  have H := Lib.hid (And.intro hus (And.intro hts (And.intro hvs (And.intro hvs2 (And.intro lu (And.intro lt lv))))))
  have HJ := Lib.hid (show ¬ (n2 = 0 ∧ n3 = 0) → joinDir zs (joinDir ys d1 d2) d3 = joinDir ts d1 (joinDir zs d2 d3) from fun h => by
    rw [← hts]; exact joinDirs ys zs d1 d2 d3 (by rw [← e2, ← e3]; exact h))
  have b1 : n1 ≤ 9223372036854775807 := by have := k1.1; have := k1.2; unfold maxLen at this; omega
  have b2 : n2 ≤ 9223372036854775807 := by have := k2.1; have := k2.2; unfold maxLen at this; omega
  have b3 : n3 ≤ 9223372036854775807 := by have := k3.1; have := k3.2; unfold maxLen at this; omega
  have HE := Lib.hid (And.intro e1 (And.intro e2 e3))
  clear e1 e2 e3 k1 k2 k3 hx hy hz hus hts hvs hvs2 lu lt lv
  go_enter Try.func11, Try.ntmps11
  go_wp2_with fail
  refine (awake_any _).mono ?_
  rintro e w1 ⟨rfl, hb⟩
  replace p1 := p1.keep hb
  replace p2 := p2.keep hb
  replace p3 := p3.keep hb
  replace hB := below_step hB hb
  clear hb
  have q10 := p1.box.c0
  have q11 := p1.box.c1
  go_wp2_with fail
  refine p1.large.mono ?_
  rintro e wl1 (⟨rfl, hb⟩ | ⟨rfl, hl1, hb⟩)
  · go_wp2_with fail
    go_ret
    exact ⟨rfl, below_step hB hb⟩
  clear q10 q11
  replace p1 := p1.keep hb
  replace p2 := p2.keep hb
  replace p3 := p3.keep hb
  replace hB := below_step hB hb
  clear hb
  have q20 := p2.box.c0
  have q21 := p2.box.c1
  go_wp2_with fail
  refine p2.large.mono ?_
  rintro e wl2 (⟨rfl, hb⟩ | ⟨rfl, hl2, hb⟩)
  · go_wp2_with fail
    go_ret
    exact ⟨rfl, below_step hB hb⟩
  clear q20 q21
  replace p1 := p1.keep hb
  replace p2 := p2.keep hb
  replace p3 := p3.keep hb
  replace hB := below_step hB hb
  clear hb
  have q30 := p3.box.c0
  have q31 := p3.box.c1
  go_wp2_with fail
  refine p3.large.mono ?_
  rintro e wl3 (⟨rfl, hb⟩ | ⟨rfl, hl3, hb⟩)
  · go_wp2_with fail
    go_ret
    exact ⟨rfl, below_step hB hb⟩
  clear q30 q31
  replace p1 := p1.keep hb
  replace p2 := p2.keep hb
  replace p3 := p3.keep hb
  replace hB := below_step hB hb
  clear hb
  have hl1 : n1 ≤ 201 := by rw [HE.out.1]; exact hl1.1
  have hl2 : n2 ≤ 201 := by rw [HE.out.2.1]; exact hl2.1
  have hl3 : n3 ≤ 201 := by rw [HE.out.2.2]; exact hl3.1
  clear b1 b2 b3
  by_cases hsum : 40 < n1 + n2 + n3
  · have q10 := p1.box.c0
    have q20 := p2.box.c0
    have q30 := p3.box.c0
    go_wp2_with fail
    go_ret
    exact ⟨rfl, hB⟩
  have q10 := p1.box.c0
  have q11 := p1.box.c1
  have q20 := p2.box.c0
  have q21 := p2.box.c1
  have q30 := p3.box.c0
  have q31 := p3.box.c1
  go_wp2_with fail
  refine (p1.join p2 (by omega) H.out.1).mono ?_
  rintro e wj4 ⟨A4, c4, rfl, p4, s4, hb⟩
  clear q10 q11 q20 q21 q30 q31
  generalize hd4 : joinDir ys d1 d2 = d4 at *
  have HD4 := Lib.hid hd4
  clear hd4
  replace p1 := p1.keep hb
  replace p2 := p2.keep hb
  replace p3 := p3.keep hb
  replace hB := below_step hB hb
  clear hb
  have lu : us.length ≤ 40 := by have := H.out.2.2.2.2.1; omega
  have q40 := p4.box.c0
  have q41 := p4.box.c1
  have q30 := p3.box.c0
  have q31 := p3.box.c1
  go_wp2_with fail
  refine (p4.join p3 (by have := H.out.2.2.2.2.1; omega) H.out.2.2.1).mono ?_
  rintro e wj5 ⟨A5, c5, rfl, p5, s5, hb⟩
  clear q40 q41 q30 q31
  generalize hd5 : joinDir zs d4 d3 = d5 at *
  have HD5 := Lib.hid hd5
  clear hd5 p4 s4
  have l15 : w.heap.size < wj5.heap.size := Nat.lt_of_lt_of_le p1.box.lt s5
  clear s5
  replace p1 := p1.keep hb
  replace p2 := p2.keep hb
  replace p3 := p3.keep hb
  replace hB := below_step hB hb
  clear hb
  have q20 := p2.box.c0
  have q21 := p2.box.c1
  have q30 := p3.box.c0
  have q31 := p3.box.c1
  go_wp2_with fail
  refine (p2.join p3 (by omega) H.out.2.1).mono ?_
  rintro e wj6 ⟨A6, c6, rfl, p6, s6, hb⟩
  clear q20 q21 q30 q31
  generalize hd6 : joinDir zs d2 d3 = d6 at *
  have HD6 := Lib.hid hd6
  clear hd6
  replace p1 := p1.keep hb
  replace p2 := p2.keep hb
  replace p3 := p3.keep hb
  replace p5 := p5.keep hb
  replace hB := below_step hB hb
  clear hb
  have q10 := p1.box.c0
  have q11 := p1.box.c1
  have q60 := p6.box.c0
  have q61 := p6.box.c1
  go_wp2_with fail
  refine (p1.join p6 (by have := H.out.2.2.2.2.2.1; omega) H.out.2.2.2.1).mono ?_
  rintro e wj7 ⟨A7, c7, rfl, p7, s7, hb⟩
  clear q10 q11 q60 q61
  generalize hd7 : joinDir ts d1 d6 = d7 at *
  have HD7 := Lib.hid hd7
  clear hd7 p6 s6
  have l17 : w.heap.size < wj7.heap.size := Nat.lt_of_lt_of_le p1.box.lt s7
  have l57 : wj5.heap.size < wj7.heap.size := Nat.lt_of_lt_of_le p5.box.lt s7
  clear s7
  replace p1 := p1.keep hb
  replace p2 := p2.keep hb
  replace p3 := p3.keep hb
  replace p5 := p5.keep hb
  replace hB := below_step hB hb
  clear hb
  have q10 := p1.box.c0
  have q11 := p1.box.c1
  go_wp2_with fail
  refine (p1.join0 (by omega)).mono ?_
  rintro e wj8 ⟨A8, c8, rfl, p8, s8, hb⟩
  have l58 : wj5.heap.size < wj8.heap.size := Nat.lt_of_lt_of_le p5.box.lt s8
  have l78 : wj7.heap.size < wj8.heap.size := Nat.lt_of_lt_of_le p7.box.lt s8
  clear s8
  clear q10 q11
  replace p1 := p1.keep hb
  replace p2 := p2.keep hb
  replace p3 := p3.keep hb
  replace p5 := p5.keep hb
  replace p7 := p7.keep hb
  replace hB := below_step hB hb
  clear hb
  have q20 := p2.box.c0
  have q21 := p2.box.c1
  have q30 := p3.box.c0
  have q31 := p3.box.c1
  have lv : vs.length ≤ 65536 := by have := H.out.2.2.2.2.2.2; omega
  by_cases h0 : n2 = 0 ∧ n3 = 0
  · obtain ⟨h2, h3⟩ := h0
    have HSM := Lib.hid (show sameB vs vs false false = true by simp [sameB])
    have f5 := p5.fr
    have f7 := p7.fr
    have q51 := p5.box.c1
    have q71 := p7.box.c1
    have q71b : (World.setCell _ ⟨wj5.heap.size, 1, none⟩ (.bool false)).cell? ⟨wj7.heap.size, 1, none⟩ = some (.bool d7) := (p7.setOther (by omega) p5.box.c1 (.bool false)).box.c1
    have r5 := (p5.set false).setOther (by omega : wj5.heap.size ≠ wj7.heap.size) q71b (.bool false)
    have r7 := (p7.setOther (by omega : wj7.heap.size ≠ wj5.heap.size) q51 (.bool false)).set false
    have r8 := (p8.setOther (by omega : wj8.heap.size ≠ wj5.heap.size) q51 (.bool false)).setOther (by omega : wj8.heap.size ≠ wj7.heap.size) q71b (.bool false)
    have r1 := (p1.setOther (by omega : w.heap.size ≠ wj5.heap.size) q51 (.bool false)).setOther (by omega : w.heap.size ≠ wj7.heap.size) q71b (.bool false)
    have rB := (hB.setCell (p := ⟨wj5.heap.size, 1, none⟩) (Nat.le_of_lt l15) (.bool false)).setCell (p := ⟨wj7.heap.size, 1, none⟩) (Nat.le_of_lt l17) (.bool false)
    have l18 : w.heap.size < wj8.heap.size := by omega
    have z8 : ((wj8.setCell ⟨wj5.heap.size, 1, none⟩ (.bool false)).setCell ⟨wj7.heap.size, 1, none⟩ (.bool false)).heap.size = wj8.heap.size := by simp [World.setCell]
    have E1 : (wj8.alloc (.cells #[.slice A8 n1 c8, .bool d1] 25)).setCell ⟨wj5.heap.size, 1, none⟩ (.bool false) = (wj8.setCell ⟨wj5.heap.size, 1, none⟩ (.bool false)).alloc (.cells #[.slice A8 n1 c8, .bool d1] 25) := World.setCell_alloc_past _ _ _ _ l58
    have E2 : ((wj8.setCell ⟨wj5.heap.size, 1, none⟩ (.bool false)).alloc (.cells #[.slice A8 n1 c8, .bool d1] 25)).setCell ⟨wj7.heap.size, 1, none⟩ (.bool false) = ((wj8.setCell ⟨wj5.heap.size, 1, none⟩ (.bool false)).setCell ⟨wj7.heap.size, 1, none⟩ (.bool false)).alloc (.cells #[.slice A8 n1 c8, .bool d1] 25) :=
      World.setCell_alloc_past _ _ _ _ (by simp [World.setCell]; exact l78)
    rw [E1, E2] at r5 r7 r8 r1 rB
    rw [E1] at q71b
    have y51 : wj8.cell? ⟨wj5.heap.size, 1, none⟩ = some (.bool d5) := by rw [World.cell?_alloc_past _ _ _ l58] at q51; exact q51
    have y71 : (wj8.setCell ⟨wj5.heap.size, 1, none⟩ (.bool false)).cell? ⟨wj7.heap.size, 1, none⟩ = some (.bool d7) := by rw [World.cell?_alloc_past _ _ _ (by simp [World.setCell]; exact l78)] at q71b; exact q71b
    have g5 : wj8.frozen? ⟨wj5.heap.size, 1, none⟩ = false := by rw [World.frozen?_alloc_past _ _ _ l58] at f5; exact f5
    have g7 : wj8.frozen? ⟨wj7.heap.size, 1, none⟩ = false := by rw [World.frozen?_alloc_past _ _ _ l78] at f7; exact f7
    have down : ∀ (b i : Nat) (u : Value), b < wj8.heap.size → (((wj8.setCell ⟨wj5.heap.size, 1, none⟩ (.bool false)).setCell ⟨wj7.heap.size, 1, none⟩ (.bool false)).alloc (.cells #[.slice A8 n1 c8, .bool d1] 25)).cell? ⟨b, i, none⟩ = some u →
        ((wj8.setCell ⟨wj5.heap.size, 1, none⟩ (.bool false)).setCell ⟨wj7.heap.size, 1, none⟩ (.bool false)).cell? ⟨b, i, none⟩ = some u := fun b i u hb h => by
      rw [World.cell?_alloc_past _ _ _ (by rw [z8]; exact hb)] at h; exact h
    have x50 := down _ _ _ l58 r5.box.c0
    have x51 := down _ _ _ l58 r5.box.c1
    have x70 := down _ _ _ l78 r7.box.c0
    have x71 := down _ _ _ l78 r7.box.c1
    clear p1 p2 p3 p5 p7 p8 hB down E1 E2 z8 f5 f7 q51 q71 q71b
    go_wp2_with fail
    refine (r5.same r7 lv).mono ?_
    rintro e ws ⟨rfl, hb⟩
    rw [HSM.out]
    replace r8 := r8.keep hb
    replace r1 := r1.keep hb
    replace rB := below_step rB hb
    clear hb r5 r7 x50 x51 x70 x71
    have q80 := r8.box.c0
    have q81 := r8.box.c1
    have q10 := r1.box.c0
    have q11 := r1.box.c1
    go_wp2_with fail
    refine (r8.same r1 (by omega)).mono ?_
    rintro e wt ⟨rfl, hb⟩
    rw [show sameB xs xs d1 d1 = true by simp [sameB]]
    go_wp2_with fail
    go_ret
    exact ⟨rfl, below_step rB hb⟩
  · have HSM := Lib.hid (show sameB vs vs d5 d7 = true by
      have := HJ.out h0
      rw [this]
      simp [sameB])
    clear p2 p3
    have q50 := p5.box.c0
    have q51 := p5.box.c1
    have q70 := p7.box.c0
    have q71 := p7.box.c1
    rcases Nat.eq_zero_or_pos n2 with h2 | h2
    · have h3 : 0 < n3 := by omega
      go_wp2_with fail
      refine (p5.same p7 lv).mono ?_
      rintro e ws ⟨rfl, hb⟩
      rw [HSM.out]
      replace p8 := p8.keep hb
      replace p1 := p1.keep hb
      replace hB := below_step hB hb
      clear q50 q51 q70 q71 hb p5 p7
      have q80 := p8.box.c0
      have q81 := p8.box.c1
      have q10 := p1.box.c0
      have q11 := p1.box.c1
      go_wp2_with fail
      refine (p8.same p1 (by omega)).mono ?_
      rintro e wt ⟨rfl, hb⟩
      rw [show sameB xs xs d1 d1 = true by simp [sameB]]
      go_wp2_with fail
      go_ret
      exact ⟨rfl, below_step hB hb⟩
    · have h2' : ¬ n2 = 0 := by omega
      go_wp2_with fail
      refine (p5.same p7 lv).mono ?_
      rintro e ws ⟨rfl, hb⟩
      rw [HSM.out]
      replace p8 := p8.keep hb
      replace p1 := p1.keep hb
      replace hB := below_step hB hb
      clear q50 q51 q70 q71 hb p5 p7
      have q80 := p8.box.c0
      have q81 := p8.box.c1
      have q10 := p1.box.c0
      have q11 := p1.box.c1
      go_wp2_with fail
      refine (p8.same p1 (by omega)).mono ?_
      rintro e wt ⟨rfl, hb⟩
      rw [show sameB xs xs d1 d1 = true by simp [sameB]]
      go_wp2_with fail
      go_ret
      exact ⟨rfl, below_step hB hb⟩

set_option maxRecDepth 100000 in
theorem lifted (os : Os) (started : os.Started) (H : Type) (enc : TypeId × Value → H) :
    ReturnsInHanded {} Try.checked os 11 .any (Rows.pathJoinsSpec.pre6 enc Try.prog Try.f11 Rows.pathJoinsRow.domain false) (Rows.pathJoinsSpec.post enc Try.prog Try.f11 false true false false) := by
  refine returnsInHanded_of_change (C := Try.checked) own started (by kernel_rfl) Try.func11
    (ChangeSpec.witness6 (enc := enc) (C := Try.checked) false ⟨#[], #[.agg #[.slice none 0 0, .bool false], .agg #[.slice none 0 0, .bool false], .agg #[.slice none 0 0, .bool false]], []⟩ 8 (by kernel_rfl) (by kernel_rfl) (by kernel_rfl) (by kernel_rfl)) ?_
  intro W base args ds gs before hval0 hW hcnd _
  have hval : ∀ (j : Nat) t v, Try.f11.params[j]? = some t → args[j]? = some v → Value.okWide Try.prog W .any base t v := hval0
  have hW' := hW
  obtain ⟨p, q, hA0, hV, rfl, hfz, hnd⟩ := hW
  have hA : DataW.TrodAll enc Try.prog W 0 (fun _ => true) true Try.f11.params.toList args.toList ds p := hA0
  rw [Try.params11] at hA hval
  obtain ⟨v0, vs0, d0, ds0, p0, q0, hargs, rfl, rfl, h0, r0⟩ := trodAll_cons hA
  obtain ⟨v1, vs1, d1, ds1, p1, q1, rfl, rfl, rfl, h1, r1⟩ := trodAll_cons r0
  obtain ⟨v2, vs2, d2, ds2, p2, q2, rfl, rfl, rfl, h2, r2⟩ := trodAll_cons r1
  obtain ⟨rfl, rfl, rfl⟩ := trodAll_nil r2
  obtain rfl : args = #[v0, v1, v2] := by cases args; simp_all
  obtain ⟨rfl, rfl⟩ := trodVars_none hV
  have hlt := fun x hx => hW'.lt x hx
  have t0 := h0
  obtain ⟨A0, n0, c0, b0, x0, rfl, e0, k0, s0⟩ := open_path (hval 0 25 v0 rfl rfl) h0
  have t1 := h1
  obtain ⟨A1, n1, c1, b1, x1, rfl, e1, k1, s1⟩ := open_path (hval 1 25 v1 rfl rfl) h1
  have t2 := h2
  obtain ⟨A2, n2, c2, b2, x2, rfl, e2, k2, s2⟩ := open_path (hval 2 25 v2 rfl rfl) h2
  clear hA0 hval0
  refine (walk A0 A1 A2 n0 n1 n2 c0 c1 c2 b0 b1 b2 x0 x1 x2  W e0 e1 e2 k0 k1 k2 s0 s1 s2 ).mono fun e W' ⟨he, hg⟩ => ?_
  subst he
  exact ⟨_, rfl, law_post (pv := []) hW' (fun _ _ _ => (trodAll_cons_mk (shut_bool Try.underlying4 _) trodAll_mk0)) (fun sp hsp => (trodAll_cons_mk (path_stays t0 hg (by simp +contextual) hlt hsp laid) (trodAll_cons_mk (path_stays t1 hg (by simp +contextual) hlt hsp laid) (trodAll_cons_mk (path_stays t2 hg (by simp +contextual) hlt hsp laid) trodAll_mk0)))) (fun _ _ => rfl) (by simp)
    hg (ok_one (by kernel_rfl) rfl (okWide_bool_mk Try.underlying4 _))⟩

theorem over : Rows.pathJoinsRow.holds Try.pinned (OpenSpec.ofChange Rows.pathJoinsSpec) :=
  OpenClaim.holds_of_wide 11 Try.f11 rfl rfl rfl rfl rfl rfl rfl ⟨rfl, rfl, rfl, rfl, rfl⟩ rfl rfl rfl rfl rfl (by kernel_rfl) Try.func11 (by kernel_rfl)
    (of_decide_eq_true (by kernel_rfl)) (by unfold Func.isWrapper; first | (rw [if_pos (by decide +kernel)]; kernel_rfl) | (rw [if_neg (by decide +kernel)]; exact ⟨rfl, rfl⟩))
    (fun os started H enc _ => lifted os started H enc)

/-- The statement. -/
theorem proved : Rows.PathJoinsSaid :=
  over
end Go.Proofs.Ytlaceeiodlpmdaa.pathJoins
