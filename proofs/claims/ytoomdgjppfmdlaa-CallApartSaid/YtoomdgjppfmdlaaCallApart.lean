/- For every two calls the law CallApart returns true, and what is handed in reads as it did; there are no conditions. -/
import Derived.Test.YtoomdgjppfmdlaaCr
import Derived.Deep.RegionWith
import Derived.Deep.QuietTactic
import Derived.BigQuiet
import Derived.ProofKit
import Derived.OpenShut
import Derived.ShutString
namespace Go.Proofs.Ytoomdgjppfmdlaa.callApart
open Go.ChangeShapes Go.WideShapes Go.ChangeAt Go.RowKit
open Go.ChangeMaps (open_string shut_string)
open Go.Proofs.Ytoomdgjppfmdlaa
set_option linter.unusedVariables false

theorem own : ownKnob Try.prog.godebug = none := by kernel_rfl
theorem laid : laidOutB Try.prog = true := by kernel_rfl

theorem two_boxes (w : World) (x y : C) : BoxC ((w.alloc (.cells (CL x).toArray 32)).alloc (.cells (CL y).toArray 32)) w.heap.size x ∧ BoxC ((w.alloc (.cells (CL x).toArray 32)).alloc (.cells (CL y).toArray 32)) (w.heap.size + 1) y ∧
    Below w.heap.size w ((w.alloc (.cells (CL x).toArray 32)).alloc (.cells (CL y).toArray 32)) ∧ ((w.alloc (.cells (CL x).toArray 32)).alloc (.cells (CL y).toArray 32)).heap.size = w.heap.size + 2 := by
  have s1 := World.size_alloc w (.cells (CL x).toArray 32)
  refine ⟨(BoxC.new w x).below (below_alloc _ _) (by rw [s1]; omega), ?_, below_step (below_alloc _ _) (below_alloc _ _), by rw [World.size_alloc, s1]⟩
  have := BoxC.new (w.alloc (.cells (CL x).toArray 32)) y
  rwa [s1] at this
set_option maxHeartbeats 4000000 in
set_option maxRecDepth 100000 in
theorem walk_no (x y : C) (w : World) (l0 : x.a.length ≤ 140737488351232) (k0 : x.b.length ≤ 140737488351232) (l1 : y.a.length ≤ 140737488351232) (k1 : y.b.length ≤ 140737488351232) (h : ¬ (May x ∧ May y)) : Calls Try.prog 9 #[CV x, CV y] w (AwakeE w) := by
  have hbx := two_boxes w x y
  have HE1 := Lib.hid (fun W => enc_any x W (by unfold maxLen; omega) (by unfold maxLen; omega))
  have HE2 := Lib.hid (fun W => enc_any y W (by unfold maxLen; omega) (by unfold maxLen; omega))
  have hbad : errE x = 22 ∨ (errE x = 0 ∧ errE y = 22) := by
    by_cases h1 : May x
    · exact .inr ⟨errE_yes h1, errE_no fun h2 => h ⟨h1, h2⟩⟩
    · exact .inl (errE_no h1)
  have HBAD := Lib.hid hbad
  clear hbad h
  obtain ⟨xo, xf, xl, xn, xp, xa, xb⟩ := x
  obtain ⟨yo, yf, yl, yn, yp, ya, yb⟩ := y
  dsimp only at l0 k0 l1 k1
  have sa : 0 ≤ 0 := Nat.le_refl 0
  unfold CL at hbx
  dsimp only [CV] at hbx ⊢
  obtain ⟨w2, hw2⟩ : ∃ w2, (w.alloc (.cells [Value.int .i64 xo, .int .i64 xf, .int .i64 xl, .int .i64 xn, .int .i64 xp, Sv xa, Sv xb].toArray 32)).alloc (.cells [Value.int .i64 yo, .int .i64 yf, .int .i64 yl, .int .i64 yn, .int .i64 yp, Sv ya, Sv yb].toArray 32) = w2 := ⟨_, rfl⟩
  rw [hw2] at hbx
  obtain ⟨B, hB⟩ : ∃ B, w.heap.size = B := ⟨_, rfl⟩
  rw [hB] at hbx
  obtain ⟨hx, hy, hb2, hs2⟩ := hbx
  have HX := Lib.hid hx
  have HY := Lib.hid hy
  have HB2 := Lib.hid hb2
  have HS2 := Lib.hid hs2
  have HQ := Lib.hid (show B = w.heap.size from hB.symm)
  clear hx hy hb2 hs2
  go_enter Try.func9, Try.ntmps9
  go_wp2_with fail
  refine (awake_any _).mono ?_
  rintro e w3 ⟨rfl, b3⟩
  have HX3 := Lib.hid (HX.out.below b3 (by rw [HS2.out]; omega))
  have HY3 := Lib.hid (HY.out.below b3 (by rw [HS2.out]; omega))
  have HB3 := Lib.hid (show Below B w w3 from HB2.out.trans (b3.mono (by rw [HS2.out]; omega)))
  have HS3 := Lib.hid (show B + 2 ≤ w3.heap.size from by have := b3.size; have := HS2.out; omega)
  clear b3
  obtain ⟨f0, f1, f2, f3, f4, f5, f6⟩ := HX3.out
  obtain ⟨g0, g1, g2, g3, g4, g5, g6⟩ := HY3.out
  dsimp only at f0 f1 f2 f3 f4 f5 f6 g0 g1 g2 g3 g4 g5 g6
  have HF := Lib.hid (show AwakeE w (.returned (.bool true)) w3 from ⟨rfl, by rw [← HQ.out]; exact HB3.out⟩)
  go_wp2_with fail
  all_goals first
    | (go_ret; exact HF.out)
    | skip
  refine (HE1.out _).mono ?_
  rintro e w4 ⟨A4, n4, c4, rfl, o4, b4⟩
  have HB4 := Lib.hid (show Below B w w4 from HB3.out.trans (b4.mono (by have := HS3.out; omega)))
  have HO4 := Lib.hid o4
  have HX4 := Lib.hid (HX3.out.below b4 (by have := HS3.out; omega))
  have HY4 := Lib.hid (HY3.out.below b4 (by have := HS3.out; omega))
  have HS4 := Lib.hid (show B + 2 ≤ w4.heap.size from by have := b4.size; have := HS3.out; omega)
  clear o4 b4 f0 f1 f2 f3 f4 f5 f6 g0 g1 g2 g3 g4 g5 g6 HF HE1
  obtain ⟨g0, g1, g2, g3, g4, g5, g6⟩ := HY4.out
  dsimp only at g0 g1 g2 g3 g4 g5 g6
  rcases HBAD.out with h1 | ⟨h1, h2⟩
  · rw [h1]
    clear h1
    go_wp2_with fail
    refine (HE2.out _).mono ?_
    rintro e w5 ⟨A5, n5, c5, rfl, o5, b5⟩
    have HF := Lib.hid (show AwakeE w (.returned (.bool true)) w5 from ⟨rfl, by rw [← HQ.out]; exact HB4.out.trans (b5.mono (by have := HS4.out; omega))⟩)
    clear o5 b5 g0 g1 g2 g3 g4 g5 g6
    go_wp2_with fail
    go_ret
    exact HF.out
  · rw [h1]
    rw [h2] at HE2
    clear h1 h2
    go_wp2_with fail
    refine (HE2.out _).mono ?_
    rintro e w5 ⟨A5, n5, c5, rfl, o5, b5⟩
    have HF := Lib.hid (show AwakeE w (.returned (.bool true)) w5 from ⟨rfl, by rw [← HQ.out]; exact HB4.out.trans (b5.mono (by have := HS4.out; omega))⟩)
    clear o5 b5 g0 g1 g2 g3 g4 g5 g6
    go_wp2_with fail
    go_ret
    exact HF.out
theorem min_taken (l : Bs) (m : Nat) : (l.take m).length = min m l.length := List.length_take
theorem add_none (A : Option Addr) : A.map (fun x => x.add (0 * 1)) = A := by cases A <;> simp [Addr.add]
theorem size22 (W : World) : (sizeOf (Try.prog.elem 22)).run Try.prog W = .ok 1 W := by kernel_rfl
theorem run_head (A : Option Addr) (n k c : Nat) (hk : k ≤ c) (W : World) : (Instr.slice 22 (.slice A n c) none (some (.int .i64 k)) none).run Try.prog W = .ok (.slice A k c) W := by
  rw [run_slice_h (P := Try.prog) W 22 _ _ _ (by kernel_rfl) .i64 k (by omega) (by omega), size22]
  simp only [Result.andThen, sliced, add_none, Int.toNat_natCast, Nat.sub_zero]
  split <;> rfl
theorem bo_cap {w : World} {B n c : Nat} {A : Option Addr} {l : Bs} (h : Bo w B A n c l) : n ≤ c ∧ c ≤ maxLen := by
  rcases h.2 with ⟨e, h0⟩ | ⟨g, cap, cur, hv, hb, hg, h1, h2, _⟩
  · injection e with _ e2 e3
    subst e2; subst e3
    exact ⟨Nat.le_refl _, by unfold maxLen; omega⟩
  · injection hv with _ _ e3
    subst e3
    exact ⟨h1, h2⟩
theorem byt_head {w : World} {B k : Nat} {A : Option Addr} {l : Bs} (h : Byt w B A l) : Byt w B A (l.take k) := fun i c hc => by
  refine h i c ?_
  rw [List.getElem?_take] at hc
  split at hc
  · exact hc
  · cases hc
theorem head_string {w : World} {B n c k : Nat} {A : Option Addr} {l : Bs} (h : Bo w B A n c l) (hk : k ≤ l.length) : ∀ nq, (convert 22 9 (.slice A k c)).run Try.prog (w.drewN nq) = .ok (Sv (l.take k)) (w.drewN nq) := fun nq =>
  arg_string (byt_head (h.keep (below_drewN (Below.refl _ _) nq)).byt) (by rw [List.length_take]; omega)
set_option maxHeartbeats 4000000 in
set_option maxRecDepth 100000 in
theorem walk_yes (x y : C) (w : World) (h : May x) (h2 : May y) : Calls Try.prog 9 #[CV x, CV y] w (AwakeE w) := by
  have hbx := two_boxes w x y
  have HE1 := Lib.hid (fun W => enc_yes x W h)
  have HE2 := Lib.hid (fun W => enc_yes y W h2)
  have HAP := Lib.hid (enc_apart x y h h2)
  have q1 : (enc x).length ≤ 135 := by rw [enc_len]; have := h.2.2.2.2.2.1; have := h.2.2.2.2.2.2; omega
  have q2 : (enc y).length ≤ 135 := by rw [enc_len]; have := h2.2.2.2.2.2.1; have := h2.2.2.2.2.2.2; omega
  have hql := run_eql32 x y
  have hgd := guard32
  have l0 := h.2.2.2.2.2.1
  have k0 := h.2.2.2.2.2.2
  have l1 := h2.2.2.2.2.2.1
  have k1 := h2.2.2.2.2.2.2
  have HCI := Lib.hid (ceq_iff x y)
  clear h h2
  obtain ⟨X, hX⟩ : ∃ X, enc x = X := ⟨_, rfl⟩
  obtain ⟨Y, hY⟩ : ∃ Y, enc y = Y := ⟨_, rfl⟩
  rw [hX] at HE1 HAP q1
  rw [hY] at HE2 HAP q2
  clear hX hY
  obtain ⟨b, hb⟩ : ∃ b, ceq x y = b := ⟨_, rfl⟩
  rw [hb] at HCI hql
  clear hb
  have HQL := Lib.hid hql
  clear hql
  obtain ⟨xo, xf, xl, xn, xp, xa, xb⟩ := x
  obtain ⟨yo, yf, yl, yn, yp, ya, yb⟩ := y
  dsimp only at l0 k0 l1 k1
  dsimp only [CV] at HQL
  unfold CL at hbx
  dsimp only [CV] at hbx ⊢
  obtain ⟨w2, hw2⟩ : ∃ w2, (w.alloc (.cells [Value.int .i64 xo, .int .i64 xf, .int .i64 xl, .int .i64 xn, .int .i64 xp, Sv xa, Sv xb].toArray 32)).alloc (.cells [Value.int .i64 yo, .int .i64 yf, .int .i64 yl, .int .i64 yn, .int .i64 yp, Sv ya, Sv yb].toArray 32) = w2 := ⟨_, rfl⟩
  rw [hw2] at hbx
  obtain ⟨B, hB⟩ : ∃ B, w.heap.size = B := ⟨_, rfl⟩
  rw [hB] at hbx
  obtain ⟨hx, hy, hb2, hs2⟩ := hbx
  have HX := Lib.hid hx
  have HY := Lib.hid hy
  have HB2 := Lib.hid hb2
  have HS2 := Lib.hid hs2
  have HQ := Lib.hid (show B = w.heap.size from hB.symm)
  clear hx hy hb2 hs2
  go_enter Try.func9, Try.ntmps9
  go_wp2_with fail
  refine (awake_any _).mono ?_
  rintro e w3 ⟨rfl, b3⟩
  have HX3 := Lib.hid (HX.out.below b3 (by rw [HS2.out]; omega))
  have HY3 := Lib.hid (HY.out.below b3 (by rw [HS2.out]; omega))
  have HB3 := Lib.hid (show Below B w w3 from HB2.out.trans (b3.mono (by rw [HS2.out]; omega)))
  have HS3 := Lib.hid (show B + 2 ≤ w3.heap.size from by have := b3.size; have := HS2.out; omega)
  clear b3
  obtain ⟨f0, f1, f2, f3, f4, f5, f6⟩ := HX3.out
  obtain ⟨g0, g1, g2, g3, g4, g5, g6⟩ := HY3.out
  dsimp only at f0 f1 f2 f3 f4 f5 f6 g0 g1 g2 g3 g4 g5 g6
  have HF := Lib.hid (show AwakeE w (.returned (.bool true)) w3 from ⟨rfl, by rw [← HQ.out]; exact HB3.out⟩)
  go_wp2_with fail
  all_goals first
    | (go_ret; exact HF.out)
    | skip
  refine (HE1.out _).mono ?_
  rintro e w4 ⟨A4, n4, c4, rfl, o4, b4⟩
  have HB4 := Lib.hid (show Below B w w4 from HB3.out.trans (b4.mono (by have := HS3.out; omega)))
  have HO4 := Lib.hid o4
  have HX4 := Lib.hid (HX3.out.below b4 (by have := HS3.out; omega))
  have HY4 := Lib.hid (HY3.out.below b4 (by have := HS3.out; omega))
  have HS4 := Lib.hid (show B + 2 ≤ w4.heap.size from by have := b4.size; have := HS3.out; omega)
  clear o4 b4 f0 f1 f2 f3 f4 f5 f6 g0 g1 g2 g3 g4 g5 g6 HF HE1
  obtain ⟨g0, g1, g2, g3, g4, g5, g6⟩ := HY4.out
  dsimp only at g0 g1 g2 g3 g4 g5 g6
  go_wp2_with fail
  refine (HE2.out _).mono ?_
  rintro e w5 ⟨A5, n5, c5, rfl, o5, b5⟩
  have HB5 := Lib.hid (show Below B w w5 from HB4.out.trans (b5.mono (by have := HS4.out; omega)))
  have HX5 := Lib.hid (HX4.out.below b5 (by have := HS4.out; omega))
  have HY5 := Lib.hid (HY4.out.below b5 (by have := HS4.out; omega))
  have HO5 := Lib.hid o5
  have HP5 := Lib.hid (HO4.out.keep b5)
  clear o5 b5 g0 g1 g2 g3 g4 g5 g6 HE2
  have hn4 := HP5.out.len
  have hn5 := HO5.out.len
  have hc4 := (bo_cap HP5.out).1
  have hc5 := (bo_cap HO5.out).1
  have hm4 : n4 ≤ 135 := by omega
  have hm5 : n5 ≤ 135 := by omega
  rcases Nat.lt_or_ge n5 n4 with hlt | hge
  · have hmin : min X.length Y.length = n5 := by omega
    rw [hmin] at HAP
    have t1 := head_string HP5.out (k := n5) (by omega)
    have t2 := head_string HO5.out (k := n5) (by omega)
    have r1 := fun W => run_head A4 n4 n5 c4 (by omega) W
    have r2 := fun W => run_head A5 n5 n5 c5 (by omega) W
    generalize X.take n5 = s at *
    generalize Y.take n5 = t at *
    obtain ⟨f0, f1, f2, f3, f4, f5, f6⟩ := HX5.out
    obtain ⟨g0, g1, g2, g3, g4, g5, g6⟩ := HY5.out
    dsimp only at f0 f1 f2 f3 f4 f5 f6 g0 g1 g2 g3 g4 g5 g6
    have hql := HQL.out
    have y1 : (n5 : Int) < (n4 : Int) := by omega
    have y2 : decide ((n5 : Int) < (n4 : Int)) = true := by simp; omega
    clear hn4 hn5 hmin
    have HFIN := Lib.hid (fun nq => show Below w.heap.size w (w5.drewN nq) from by rw [← HQ.out]; exact below_drewN HB5.out nq)
    by_cases hst : s = t
    · subst hst
      have hbt : b = true := HCI.out.2 (HAP.out.2 rfl)
      subst hbt
      go_wp2_with fail
      go_quiet (fail)
      go_wp2_with fail
      go_ret
      exact ⟨by first | rfl | simp, HFIN.out _⟩
    · have hbt : b = false := by
        cases hb : b with
        | false => rfl
        | true => exact absurd (HAP.out.1 (HCI.out.1 hb)) hst
      subst hbt
      have hs1 : (s == t) = false := by simp [hst]
      go_wp2_with fail
      go_quiet (fail)
      go_wp2_with fail
      go_ret
      exact ⟨by first | rfl | simp [hst], HFIN.out _⟩
  · have hmin : min X.length Y.length = n4 := by omega
    rw [hmin] at HAP
    have t1 := head_string HP5.out (k := n4) (by omega)
    have t2 := head_string HO5.out (k := n4) (by omega)
    have r1 := fun W => run_head A4 n4 n4 c4 (by omega) W
    have r2 := fun W => run_head A5 n5 n4 c5 (by omega) W
    generalize X.take n4 = s at *
    generalize Y.take n4 = t at *
    obtain ⟨f0, f1, f2, f3, f4, f5, f6⟩ := HX5.out
    obtain ⟨g0, g1, g2, g3, g4, g5, g6⟩ := HY5.out
    dsimp only at f0 f1 f2 f3 f4 f5 f6 g0 g1 g2 g3 g4 g5 g6
    have hql := HQL.out
    have y1 : ¬ (n5 : Int) < (n4 : Int) := by omega
    have y2 : decide ((n5 : Int) < (n4 : Int)) = false := by simp; omega
    clear hn4 hn5 hmin
    have HFIN := Lib.hid (fun nq => show Below w.heap.size w (w5.drewN nq) from by rw [← HQ.out]; exact below_drewN HB5.out nq)
    by_cases hst : s = t
    · subst hst
      have hbt : b = true := HCI.out.2 (HAP.out.2 rfl)
      subst hbt
      go_wp2_with fail
      go_quiet (fail)
      go_wp2_with fail
      go_ret
      exact ⟨by first | rfl | simp, HFIN.out _⟩
    · have hbt : b = false := by
        cases hb : b with
        | false => rfl
        | true => exact absurd (HAP.out.1 (HCI.out.1 hb)) hst
      subst hbt
      have hs1 : (s == t) = false := by simp [hst]
      go_wp2_with fail
      go_quiet (fail)
      go_wp2_with fail
      go_ret
      exact ⟨by first | rfl | simp [hst], HFIN.out _⟩
set_option maxRecDepth 100000 in
theorem walk (x y : C) (w : World) (l0 : x.a.length ≤ 140737488351232) (k0 : x.b.length ≤ 140737488351232) (l1 : y.a.length ≤ 140737488351232) (k1 : y.b.length ≤ 140737488351232) : Calls Try.prog 9 #[CV x, CV y] w (AwakeE w) := by
  by_cases h : May x ∧ May y
  · exact walk_yes x y w h.1 h.2
  · exact walk_no x y w l0 k0 l1 k1 h

set_option maxRecDepth 100000 in
theorem lifted (os : Os) (started : os.Started) (H : Type) (enc : TypeId × Value → H) :
    ReturnsInHanded {} Try.checked os 9 .any (Rows.callApartSpec.pre6 enc Try.prog Try.f9 Rows.callApartRow.domain false) (Rows.callApartSpec.post enc Try.prog Try.f9 false true false false) := by
  refine returnsInHanded_of_change_sized (C := Try.checked) own started (by kernel_rfl) Try.func9
    (ChangeSpec.witness6 (enc := enc) (C := Try.checked) false ⟨#[], #[.agg #[.int .i64 0, .int .i64 0, .int .i64 0, .int .i64 0, .int .i64 0, .string ByteArray.empty, .string ByteArray.empty], .agg #[.int .i64 0, .int .i64 0, .int .i64 0, .int .i64 0, .int .i64 0, .string ByteArray.empty, .string ByteArray.empty]], []⟩ 8 (by kernel_rfl) (by kernel_rfl) (by kernel_rfl) (by kernel_rfl)) ?_
  intro W base args ds gs before hval0 hW hcnd hsz _
  have hval : ∀ (j : Nat) t v, Try.f9.params[j]? = some t → args[j]? = some v → Value.okWide Try.prog W .any base t v := hval0
  have hW' := hW
  obtain ⟨p, q, hA0, hV, rfl, hfz, hnd⟩ := hW
  have hA : DataW.TrodAll enc Try.prog W 0 (fun _ => true) true Try.f9.params.toList args.toList ds p := hA0
  rw [Try.params9] at hA hval
  obtain ⟨v0, vs0, d0, ds0, p0, q0, hargs, rfl, rfl, h0, r0⟩ := trodAll_cons hA
  obtain ⟨v1, vs1, d1, ds1, p1, q1, rfl, rfl, rfl, h1, r1⟩ := trodAll_cons r0
  obtain ⟨rfl, rfl, rfl⟩ := trodAll_nil r1
  obtain rfl : args = #[v0, v1] := by cases args; simp_all
  obtain ⟨rfl, rfl⟩ := trodVars_none hV
  have hlt := fun x hx => hW'.lt x hx
  have t0 := h0
  obtain ⟨x0, rfl, l0, k0⟩ := open_call2 (hval 0 32 v0 rfl rfl) h0 (fun n hn => by have := List.all_eq_true.1 hsz n (DataW.weights_mem_each (j := 0) (t := 32) (d := d0) rfl rfl n hn); simpa using this)
  have t1 := h1
  obtain ⟨x1, rfl, l1, k1⟩ := open_call2 (hval 1 32 v1 rfl rfl) h1 (fun n hn => by have := List.all_eq_true.1 hsz n (DataW.weights_mem_each (j := 1) (t := 32) (d := d1) rfl rfl n hn); simpa using this)
  clear hA0 hval0
  refine (walk x0 x1 W l0 k0 l1 k1).mono fun e W' ⟨he, hg⟩ => ?_
  subst he
  exact ⟨_, rfl, law_post (pv := []) hW' (fun _ _ _ => (trodAll_cons_mk (shut_bool Try.underlying4 _) trodAll_mk0)) (fun sp hsp => (trodAll_cons_mk (arg_stays (by decide) t0 hg (by simp +contextual) hlt hsp laid) (trodAll_cons_mk (arg_stays (by decide) t1 hg (by simp +contextual) hlt hsp laid) trodAll_mk0))) (fun _ _ => rfl) (by simp)
    hg (ok_one (by kernel_rfl) rfl (okWide_bool_mk Try.underlying4 _))⟩

theorem over : Rows.callApartRow.holds Try.pinned (OpenSpec.ofChange Rows.callApartSpec) :=
  OpenClaim.holds_of_wide 9 Try.f9 rfl rfl rfl rfl rfl rfl rfl ⟨rfl, rfl, rfl, rfl, rfl⟩ rfl rfl rfl rfl rfl (by kernel_rfl) Try.func9 (by kernel_rfl)
    (of_decide_eq_true (by kernel_rfl)) (by unfold Func.isWrapper; first | (rw [if_pos (by decide +kernel)]; kernel_rfl) | (rw [if_neg (by decide +kernel)]; exact ⟨rfl, rfl⟩))
    (fun os started H enc _ => lifted os started H enc)

/-- The statement. -/
theorem proved : Rows.CallApartSaid :=
  over
end Go.Proofs.Ytoomdgjppfmdlaa.callApart
