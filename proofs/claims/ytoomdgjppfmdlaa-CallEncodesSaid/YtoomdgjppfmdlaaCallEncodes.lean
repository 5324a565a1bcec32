/- For every list of calls the law CallEncodes returns true, and what is handed in reads as it did; there are no conditions. -/
import Derived.Test.YtoomdgjppfmdlaaCq
import Derived.Deep.RegionWith
import Derived.Deep.QuietTactic
import Derived.BigQuiet
import Derived.ProofKit
import Derived.OpenShut
import Derived.ShutString
namespace Go.Proofs.Ytoomdgjppfmdlaa.callEncodes
open Go.ChangeShapes Go.WideShapes Go.ChangeAt Go.RowKit
open Go.ChangeMaps (open_string shut_string)
open Go.Proofs.Ytoomdgjppfmdlaa
set_option linter.unusedVariables false

theorem own : ownKnob Try.prog.godebug = none := by kernel_rfl
theorem laid : laidOutB Try.prog = true := by kernel_rfl

set_option maxHeartbeats 4000000 in
set_option maxRecDepth 100000 in
theorem walk (A : Option Addr) (n c : Nat) (L : List C) (w : World) (e0 : n = List.length L) (m0 : n ≤ c ∧ c ≤ maxLen) (s0 : Cls w w.heap.size A L) (l0 : Lens L) : Calls Try.prog 4 #[.slice A n c] w (AwakeE w) := by
  have hnm : n ≤ 9223372036854775807 := by have := m0.1; have := m0.2; unfold maxLen at this; omega
  have HN := Lib.hid e0
  have HC := Lib.hid s0
  have HL := Lib.hid l0
  clear e0 m0 s0 l0
  by_cases hbig : 300 < n
  · have hi : (300 : Int) < (n : Int) := by omega
    go_enter Try.func4, Try.ntmps4
    go_wp2_with fail
    refine (awake_any _).mono ?_
    rintro e w1 ⟨rfl, hb1⟩
    go_wp2_with fail
    go_ret
    exact ⟨rfl, hb1⟩
  have hi : ¬ (300 : Int) < (n : Int) := by omega
  have hn2 : n ≤ 300 := by omega
  clear hbig
  go_enter Try.func4, Try.ntmps4
  go_wp2_with fail
  refine (awake_any _).mono ?_
  rintro e w1 ⟨rfl, hb1⟩
  have HB1 := Lib.hid hb1
  clear hb1
  go_wp2_with fail
  go_loopg [19] n (fun g s wr => ∃ k : Nat, g + k = n ∧ s = .int .i64 k ∧ Hid (Below w.heap.size w wr))
  case atStart => exact ⟨0, by omega, rfl, HB1⟩
  case round =>
    obtain ⟨k, hgk, rfl, HW⟩ := hrel
    by_cases hkn : k < n
    · have hk : k < L.length := by rw [← HN.out]; exact hkn
      obtain ⟨G, off, rfl, hG, f0, f1, f2, f3, f4, f5, f6⟩ := (HC.out.below HW.out).at_ hk
      have HF := Lib.hid (fun W (hW : Below w.heap.size w W) => (HC.out.below hW).at_ hk)
      have hla := HL.out _ (List.getElem_mem hk)
      have HE := Lib.hid (fun W => enc_any L[k] W hla.1 hla.2)
      have HR := Lib.hid (fun W => renc_any L[k] W hla.1 hla.2)
      have HM1 := Lib.hid (fun W => may_any L[k] W hla.1 hla.2)
      have HM2 := Lib.hid (fun W => rmay_any L[k] W hla.1 hla.2)
      generalize L[k] = x at *
      generalize encE x = y at *
      generalize errE x = r at *
      generalize mayB x = b at *
      obtain ⟨x0, x1, x2, x3, x4, x5, x6⟩ := x
      dsimp only at f0 f1 f2 f3 f4 f5 f6 HF
      clear hla
      go_wp2_with fail
      refine (HE.out _).mono ?_
      rintro e w2 ⟨A2, n2, c2, rfl, o2, b2⟩
      have HB2 := Lib.hid (below_step HW.out b2)
      have HO2 := Lib.hid o2
      clear o2 b2 f0 f1 f2 f3 f4 f5 f6
      obtain ⟨G2, o2, e2, hG2, f0, f1, f2, f3, f4, f5, f6⟩ := HF.out _ HB2.out
      injection e2 with e2
      injection e2 with e2 e3
      subst e2; subst e3
      go_wp2_with fail
      refine (HR.out _).mono ?_
      rintro e w3 ⟨A3, n3, c3, rfl, o3, b3⟩
      have HB3 := Lib.hid (below_step HB2.out b3)
      have HO3 := Lib.hid o3
      have HP3 := Lib.hid (HO2.out.keep b3)
      clear o3 b3 f0 f1 f2 f3 f4 f5 f6
      have HQ := Lib.hid (fun p : BelowOf w3 => HF.out p.W (below_step HB3.out p.h))
      have g0 : ∀ p : BelowOf w3, p.W.cell? ⟨G, off + k * 7, none⟩ = some (.int .i64 x0) := fun p => by
        obtain ⟨G2, o2, e2, _, h0, h1, h2, h3, h4, h5, h6⟩ := HQ.out p; injection e2 with e2; injection e2 with e2 e3; subst e2; subst e3; exact h0
      have g1 : ∀ p : BelowOf w3, p.W.cell? ⟨G, off + k * 7 + 1, none⟩ = some (.int .i64 x1) := fun p => by
        obtain ⟨G2, o2, e2, _, h0, h1, h2, h3, h4, h5, h6⟩ := HQ.out p; injection e2 with e2; injection e2 with e2 e3; subst e2; subst e3; exact h1
      have g2 : ∀ p : BelowOf w3, p.W.cell? ⟨G, off + k * 7 + 2, none⟩ = some (.int .i64 x2) := fun p => by
        obtain ⟨G2, o2, e2, _, h0, h1, h2, h3, h4, h5, h6⟩ := HQ.out p; injection e2 with e2; injection e2 with e2 e3; subst e2; subst e3; exact h2
      have g3 : ∀ p : BelowOf w3, p.W.cell? ⟨G, off + k * 7 + 3, none⟩ = some (.int .i64 x3) := fun p => by
        obtain ⟨G2, o2, e2, _, h0, h1, h2, h3, h4, h5, h6⟩ := HQ.out p; injection e2 with e2; injection e2 with e2 e3; subst e2; subst e3; exact h3
      have g4 : ∀ p : BelowOf w3, p.W.cell? ⟨G, off + k * 7 + 4, none⟩ = some (.int .i64 x4) := fun p => by
        obtain ⟨G2, o2, e2, _, h0, h1, h2, h3, h4, h5, h6⟩ := HQ.out p; injection e2 with e2; injection e2 with e2 e3; subst e2; subst e3; exact h4
      have g5 : ∀ p : BelowOf w3, p.W.cell? ⟨G, off + k * 7 + 5, none⟩ = some (Sv x5) := fun p => by
        obtain ⟨G2, o2, e2, _, h0, h1, h2, h3, h4, h5, h6⟩ := HQ.out p; injection e2 with e2; injection e2 with e2 e3; subst e2; subst e3; exact h5
      have g6 : ∀ p : BelowOf w3, p.W.cell? ⟨G, off + k * 7 + 6, none⟩ = some (Sv x6) := fun p => by
        obtain ⟨G2, o2, e2, _, h0, h1, h2, h3, h4, h5, h6⟩ := HQ.out p; injection e2 with e2; injection e2 with e2 e3; subst e2; subst e3; exact h6
      have s1 : ∀ p : BelowOf w3, (convert 22 9 (.slice A2 n2 c2)).run Try.prog p.W = .ok (Sv y) p.W := fun p => bo_string (HP3.out.keep p.h)
      have s2 : ∀ p : BelowOf w3, (convert 22 9 (.slice A3 n3 c3)).run Try.prog p.W = .ok (Sv y) p.W := fun p => bo_string (HO3.out.keep p.h)
      have hM1 := Lib.hid (fun p : BelowOf w3 => calls_below p (HM1.out p.W))
      have hM2 := Lib.hid (fun p : BelowOf w3 => calls_below p (HM2.out p.W))
      have hr : (r != r) = false := by simp
      clear HM1 HM2 HQ HE HR
      have hi0 : (0 : Int) ≤ (k : Int) := by omega
      have hi1 : (k : Int) < (n : Int) := by omega
      cases b
      all_goals
        go_upto_region 10 with fail
        refine wp_region_below (by kernel_rfl) (by kernel_rfl) ?_
        repeat (go_big_quiet_step ((first | (go_at_call 16; with_reducible exact hM1.out _) | (go_at_call 17; with_reducible exact hM2.out _))))
        refine wpQuiet_nil ?_
        rintro w5 ⟨⟨_, h5⟩, rfl⟩
        have HB5 := Lib.hid (below_step HB3.out h5)
        clear h5 g0 g1 g2 g3 g4 g5 g6 s1 s2
        go_wp2_with fail
        go_roundg (gk - 1)
        case measure => omega
        case rel => exact ⟨k + 1, by omega, by go_num, HB5⟩
    · have hjn : ¬ ((k : Int) < (n : Int)) := by omega
      clear hkn
      have HS1 := Lib.hid (scr_any A n c L wr HN.out (by omega) HL.out ((HC.out.below HW.out).more HW.out.size))
      have HS2 := Lib.hid (fun W (hW : Below w.heap.size w W) => rscr_any A n c L W HN.out (by omega) HL.out ((HC.out.below hW).more hW.size))
      generalize scrB L = y at *
      generalize errS L = r at *
      go_wp2_with fail
      refine HS1.out.mono ?_
      rintro e w2 ⟨A2, n2, c2, rfl, o2, b2⟩
      have HB2 := Lib.hid (below_step HW.out b2)
      have HO2 := Lib.hid o2
      clear o2 b2 HS1
      go_wp2_with fail
      refine (HS2.out _ HB2.out).mono ?_
      rintro e w3 ⟨A3, n3, c3, rfl, o3, b3⟩
      have HB3 := Lib.hid (below_step HB2.out b3)
      have s1 := bo_string (HO2.out.keep b3)
      have s2 := bo_string o3
      have hr : (r == r) = true := by simp
      clear o3 b3 HS2
      go_wp2_with fail
      go_ret
      exact ⟨rfl, HB3.out⟩

set_option maxRecDepth 100000 in
theorem lifted (os : Os) (started : os.Started) (H : Type) (enc : TypeId × Value → H) :
    ReturnsInHanded {} Try.checked os 4 .any (Rows.callEncodesSpec.pre6 enc Try.prog Try.f4 Rows.callEncodesRow.domain false) (Rows.callEncodesSpec.post enc Try.prog Try.f4 false true false false) := by
  refine returnsInHanded_of_change (C := Try.checked) own started (by kernel_rfl) Try.func4
    (ChangeSpec.witness6 (enc := enc) (C := Try.checked) false ⟨#[], #[.slice none 0 0], []⟩ 8 (by kernel_rfl) (by kernel_rfl) (by kernel_rfl) (by kernel_rfl)) ?_
  intro W base args ds gs before hval0 hW hcnd _
  have hval : ∀ (j : Nat) t v, Try.f4.params[j]? = some t → args[j]? = some v → Value.okWide Try.prog W .any base t v := hval0
  have hW' := hW
  obtain ⟨p, q, hA0, hV, rfl, hfz, hnd⟩ := hW
  have hA : DataW.TrodAll enc Try.prog W 0 (fun _ => true) true Try.f4.params.toList args.toList ds p := hA0
  rw [Try.params4] at hA hval
  obtain ⟨v0, vs0, d0, ds0, p0, q0, hargs, rfl, rfl, h0, r0⟩ := trodAll_cons hA
  obtain ⟨rfl, rfl, rfl⟩ := trodAll_nil r0
  obtain rfl : args = #[v0] := by cases args; simp_all
  obtain ⟨rfl, rfl⟩ := trodVars_none hV
  have hlt := fun x hx => hW'.lt x hx
  have t0 := h0
  obtain ⟨A0, n0, c0, x0, rfl, e0, m0, s0, l0⟩ := open_calls (hval 0 24 v0 rfl rfl) h0
  clear hA0 hval0
  refine (walk A0 n0 c0 x0 W e0 m0 s0 l0).mono fun e W' ⟨he, hg⟩ => ?_
  subst he
  exact ⟨_, rfl, law_post (pv := []) hW' (fun _ _ _ => (trodAll_cons_mk (shut_bool Try.underlying4 _) trodAll_mk0)) (fun sp hsp => (trodAll_cons_mk (arg_stays (by decide) t0 hg (by simp +contextual) hlt hsp laid) trodAll_mk0)) (fun _ _ => rfl) (by simp)
    hg (ok_one (by kernel_rfl) rfl (okWide_bool_mk Try.underlying4 _))⟩

theorem over : Rows.callEncodesRow.holds Try.pinned (OpenSpec.ofChange Rows.callEncodesSpec) :=
  OpenClaim.holds_of_wide 4 Try.f4 rfl rfl rfl rfl rfl rfl rfl ⟨rfl, rfl, rfl, rfl, rfl⟩ rfl rfl rfl rfl rfl (by kernel_rfl) Try.func4 (by kernel_rfl)
    (of_decide_eq_true (by kernel_rfl)) (by unfold Func.isWrapper; first | (rw [if_pos (by decide +kernel)]; kernel_rfl) | (rw [if_neg (by decide +kernel)]; exact ⟨rfl, rfl⟩))
    (fun os started H enc _ => lifted os started H enc)

/-- The statement. -/
theorem proved : Rows.CallEncodesSaid :=
  over
end Go.Proofs.Ytoomdgjppfmdlaa.callEncodes
