/- A call's file is the last one that it wants, its directories come before it, and who changes names writes where it does; for any call, up to 19 directories, any file above them. -/
import Derived.Test.YtlplbpilpkmoaaaQi
import Derived.Deep.RegionWith
import Derived.Deep.QuietTactic
import Derived.BigQuiet
import Derived.Deep.CutRange
import Derived.Deep.CutBlock
import Derived.Deep.RegionHeld3
import Derived.ProofKit
import Derived.OpenShut
import Derived.Shelf.Abstract
namespace Go.Proofs.Ytlplbpilpkmoaaa.planFile
open Go.ChangeShapes Go.WideShapes Go.ChangeAt Go.RowKit
open Go.Proofs.Ytlplbpilpkmoaaa.pl
set_option linter.unusedVariables false

theorem own : ownKnob Try.prog.godebug = none := by kernel_rfl
theorem laid : laidOutB Try.prog = true := by kernel_rfl

def atL (k : Nat) : List Int := (List.range k).map fun i : Nat => (i : Int) * 3 + 1
theorem atL_len (k : Nat) : (atL k).length = k := by simp [atL]
theorem atL_succ (k : Nat) : atL (k + 1) = atL k ++ [(k : Int) * 3 + 1] := by simp [atL, List.range_succ]
theorem atL_get {k i : Nat} (h : i < k) : (atL k).getD i 0 = (i : Int) * 3 + 1 := by simp [atL, List.getD, List.getElem?_range h]
theorem atL_wf {k : Nat} (h : k ≤ 100) : ∀ a ∈ atL k, sc.Wf a := fun a ha => by
  obtain ⟨i, hi, rfl⟩ := List.mem_map.1 ha
  have := List.mem_range.1 hi
  exact sc.wf_small (by omega) (by omega)
theorem atL_ord (c : Cx) {k : Nat} (h : k ≤ 20) (file : Int) (hf : file = 0 ∨ 100 ≤ file) : IsOrd (wantsL c (atL k) file) (wantsL c (atL k) file) := by
  refine dirs_ord c _ _ (fun i j hij hj => ?_) (fun i hi => ?_)
  · rw [atL_len] at hj; rw [atL_get hj, atL_get (by omega)]; omega
  · rw [atL_len] at hi; rw [atL_get hi]; omega
theorem last_kind {c : Cx} {n i : Nat} (h : lastW c n i = true) : c.kind = 2 := by
  unfold lastW at h
  simp only [Bool.or_eq_true, decide_eq_true_eq, Bool.and_eq_true] at h
  rcases h with h | h
  · simp [Cx.kind, h]
  · exact h.2
theorem kind_last {c : Cx} {n : Nat} (h : c.kind = 2) (hn : 0 < n) : lastW c n (n - 1) = true := by
  unfold lastW
  simp only [Bool.or_eq_true, decide_eq_true_eq, Bool.and_eq_true]
  exact .inr ⟨by omega, h⟩
theorem wants_get (c : Cx) (N : Nat) (f : Int) {i : Nat} (h : i < N) : gw (wantsL c (atL N) f) i = ⟨i, (i : Int) * 3 + 1, lastW c N i⟩ := by
  unfold wantsL
  rw [atL_len]
  have hl : i < (dirs c (atL N) N).length := by rw [dirs_len]; exact h
  have : gw (dirs c (atL N) N ++ (if f ≠ 0 then [⟨(N : Nat), f, c.wf⟩] else [])) i = gw (dirs c (atL N) N) i := by
    simp [gw, List.getD, List.getElem?_append_left hl]
  rw [this, gw_dirs c _ h]
  unfold dirW
  rw [atL_get h, atL_len]
theorem wants_last (c : Cx) (N : Nat) {f : Int} (hf : f ≠ 0) : gw (wantsL c (atL N) f) N = ⟨N, f, c.wf⟩ := by
  unfold wantsL
  rw [if_pos hf, atL_len]
  have := gw_push (dirs c (atL N) N) ⟨(N : Nat), f, c.wf⟩
  rwa [dirs_len] at this
theorem wants_len1 (c : Cx) (N : Nat) {f : Int} (hf : f ≠ 0) : (wantsL c (atL N) f).length = N + 1 := by
  unfold wantsL; rw [if_pos hf, atL_len, List.length_append, dirs_len]; rfl
theorem wants_len0 (c : Cx) (N : Nat) : (wantsL c (atL N) 0).length = N := by
  unfold wantsL; rw [atL_len]; simp [dirs_len]
set_option maxRecDepth 100000 in
set_option maxHeartbeats 4000000 in
theorem walk (c : Cx) (nz fz : Int) (w : World) (hnz : (Lit.int .u8 nz).wf = true) (hfz : (Lit.int .u8 fz).wf = true) : Calls Try.prog 8 #[c.v, .int .u8 nz, .int .u8 fz] w (RetB w true) := by
  obtain ⟨nn, hn, rfl⟩ : ∃ t : Nat, t < 256 ∧ nz = (t : Int) := by
    simp only [Lit.wf, Bool.and_eq_true, decide_eq_true_eq] at hnz
    have h0 : (0 : Int) ≤ nz := hnz.1
    have h1 : nz ≤ 255 := hnz.2
    exact ⟨nz.toNat, by omega, by omega⟩
  obtain ⟨ff, hf, rfl⟩ : ∃ t : Nat, t < 256 ∧ fz = (t : Int) := by
    simp only [Lit.wf, Bool.and_eq_true, decide_eq_true_eq] at hfz
    have h0 : (0 : Int) ≤ fz := hfz.1
    have h1 : fz ≤ 255 := hfz.2
    exact ⟨fz.toNat, by omega, by omega⟩
  obtain ⟨N, hN⟩ : ∃ q, nn % 20 = q := ⟨_, rfl⟩
  have hN20 : N < 20 := by omega
  have hr : (nn : Int).tmod 20 = (N : Int) := by rw [Int.tmod_eq_emod_of_nonneg (by omega)]; omega
  obtain ⟨i0, hi, hz0, hz1, hz2⟩ := info_parts info_i
  have HI := Lib.hid hi
  have HZ := Lib.hid (show i0.zero = some (.int .i64 0) ∧ i0.size = 1 ∧ i0.bytes = 8 from ⟨hz0, hz1, hz2⟩)
  clear hnz hfz hN hi hz0 hz1 hz2
  have HBX := Lib.hid (cbox_new w c)
  obtain ⟨w0, hw0⟩ : ∃ w0, w.alloc (.cells c.cells 32) = w0 := ⟨_, rfl⟩
  have HB0 := Lib.hid (show Below w.heap.size w w0 from by rw [← hw0]; exact hp.below_alloc _ _)
  rw [hw0] at HBX
  unfold Cx.cells at hw0
  have HAW := Lib.hid (awake_any w0)
  unfold RetB at HAW ⊢
  go_enter Try.func8, Try.ntmps8
  go_wp2_with fail
  refine HAW.out.mono ?_
  rintro _ w1 ⟨rfl, hb1⟩
  have HB1 := Lib.hid (hp.below_step HB0.out hb1)
  have HX1 := Lib.hid (HBX.out.below hb1)
  have HS1 := Lib.hid (show w.heap.size + 1 ≤ w1.heap.size from HX1.out.1)
  clear hb1 HAW hw0 HB0 HBX
  go_wp2_with fail
  go_loopg [7, 8] N (fun gk u7 u8 wx => ∃ i : Nat, u8 = .int .i64 i ∧ gk + i = N ∧ Hid (OI wx (w.heap.size + 1) u7 (atL i)) ∧ Hid (CBox wx w.heap.size c) ∧ Hid (Below w.heap.size w wx))
  case atStart =>
    refine ⟨0, rfl, by omega, Lib.hid ?_, Lib.hid (HX1.out.below (hp.below_alloc _ _)), Lib.hid (HB1.out.alloc HB1.out.size _)⟩
    exact World.ownsRow_lit w1 #[] 0 HS1.out (by unfold maxLen; omega) rfl
  case round =>
    clear HB1 HX1 HS1
    obtain ⟨i, rfl, hg, HO, HX, HB⟩ := hrel
    obtain ⟨gJ, hJ⟩ : ∃ g, gk = g := ⟨_, rfl⟩
    have HSW := Lib.hid (show w.heap.size + 1 ≤ wr.heap.size from HX.out.1)
    by_cases hi : i < N
    · have hi2 : (i : Int) < (N : Int) := by omega
      have HOW := Lib.hid (show wr.ownsRow (w.heap.size + 1) 3 1 u7 i (encI (atL i)) from by have := HO.out; unfold OI at this; rw [atL_len] at this; exact this)
      go_wp2_with (at_builtin; go_loud (refine wpList_append_own_at _ rfl (.tmp 22) (.tmp 26) 33 rfl (w.heap.size + 1) 3 i0 _ 1 8 Try.underlying33 HI.out HZ.out.1 HZ.out.2.1 HZ.out.2.2 rfl (by decide) u7 i (encI (atL i)) rfl (HOW.out.alloc _) ⟨wr.heap.size, 0, none⟩ 1 1 [.int .i64 ((i : Int) * 3 + 1)] rfl rfl (cell_one_new _ _ _) (by intro u hu; simp at hu; subst hu; rfl) (by unfold maxLen; omega) (by omega) (by have := HSW.out; simp; omega) ?_; intro v1 w5 hown1 hgrow1 _ hat1))
      have hz : (wr.alloc (.cells #[.int .i64 ((i : Int) * 3 + 1)] 3)).heap.size = wr.heap.size + 1 := by simp
      have HB5 := Lib.hid ((HB.out.alloc HB.out.size _).grown hgrow1 (by rw [hz]; have := HSW.out; omega) (fun g e => by have := (HOW.out.lt g e).1; omega))
      have HX5 := Lib.hid (HX.out.of_block (w' := w5) (by have := hgrow1.size; omega) ((hgrow1.block w.heap.size (by rw [hz]; have := HSW.out; omega) (fun e => by have := (HOW.out.lt _ e.symm).1; omega)).trans ((hp.below_alloc wr _).block _ HX.out.1)))
      have HO5 := Lib.hid (show OI w5 (w.heap.size + 1) v1 (atL (i + 1)) from by
        unfold OI
        rw [atL_succ, List.length_append, atL_len, encI_app]
        exact hown1)
      clear hown1 hgrow1 hat1 hz
      go_roundg (gJ - 1)
      case measure => omega
      case rel => exact ⟨i + 1, by go_num, by omega, HO5, HX5, HB5⟩
    · have hin : i = N := by omega
      subst hin
      have hfl : ((ff : Int) + 100) ≠ 0 := by omega
      have HW := Lib.hid (wants_own (c := c) (file := (ff : Int) + 100) HO.out (atL_wf (by omega)) (sc.wf_small (by omega) (by omega)) (by rw [atL_len]; omega))
      unfold OrdE at HW
      have HLO := Lib.hid (atL_ord c (k := i) (by omega) ((ff : Int) + 100) (.inr (by omega)))
      obtain ⟨k0, k1, k2, k3, k4, k5, k6⟩ := HX.out.all
      go_wp2_with fail
      refine HW.out.mono ?_
      rintro _ w4 ⟨v10, o, rfl, hord, how, hb⟩
      obtain rfl := hord.uniq HLO.out
      have HB4 := Lib.hid (hp.below_step HB.out hb)
      have HX4 := Lib.hid (HX.out.below hb)
      have HO4 := Lib.hid (HO.out.below hb)
      have HL4 := Lib.hid how
      clear hord how hb HW HO HX HB k0 k1 k2 k3 k4 k5 k6
      generalize (ff : Int) + 100 = fl at *
      obtain ⟨A7, c7, rfl⟩ := HO4.out.form
      rw [atL_len] at HO4 ⊢
      obtain ⟨gl, cl, rfl, hgl, hlt⟩ := HL4.out.some_ (by rw [wants_len1 c i hfl]; omega)
      have HWN := Lib.hid HL4.out.wan
      have HGE := Lib.hid (fun j (h : j < i + 1) => HWN.out j (by rw [wants_len1 c i hfl]; exact h))
      rw [wants_len1 c i hfl] at HL4 ⊢
      obtain ⟨b2, o2, e, _, y1, y2, y3⟩ := HGE.out i (by omega)
      injection e with e
      injection e with e1 e2
      subst e1 e2
      rw [wants_last c i hfl, Nat.zero_add] at y1 y2 y3
      dsimp only at y1 y2 y3
      have hlen1 : ((i + 1 : Nat) : Int) = (i : Int) + 1 := by omega
      have HFL := Lib.hid hfl
      clear hgl y3 HLO hfl
      go_wp2_with fail
      go_loopg [64] i (fun gk u64 wx => ∃ k : Nat, u64 = .int .i64 k ∧ gk + k = i ∧ Hid (Below w4.heap.size w4 wx))
      case atStart => exact ⟨0, rfl, by omega, Lib.hid (Below.refl _ _)⟩
      case round =>
        obtain ⟨k, rfl, hgk, HB⟩ := hrel
        obtain ⟨gJ2, hJ2⟩ : ∃ g, gk = g := ⟨_, rfl⟩
        by_cases hk : k < i
        · have hk2 : (k : Int) < (i : Int) := by omega
          have hk3 : (k : Int) < (i : Int) + 1 := by omega
          have HAT := Lib.hid (HO4.out.ivs k (by rw [atL_len]; exact hk))
          obtain ⟨ga, oa, rfl, hga, z1⟩ := HAT.out
          rw [atL_get hk] at z1
          obtain ⟨b2, o2, e, _, x1, x2, x3⟩ := HGE.out k (by omega)
          injection e with e
          injection e with e1 e2
          subst e1 e2
          rw [wants_get c i fl hk, Nat.zero_add] at x1 x2 x3
          dsimp only at x1 x2 x3
          have HKK := Lib.hid (last_kind (c := c) (n := i) (i := k))
          obtain ⟨b, hb⟩ : ∃ b, lastW c i k = b := ⟨_, rfl⟩
          rw [hb] at x3 HKK
          have hl4 : gl < w4.heap.size := hlt
          have f1 : ∀ p : hp.BelowOf wr, p.W.cell? ⟨gl, k * 3, none⟩ = some (.int .i64 k) := fun p => ((hp.below_step HB.out p.h).cell (p := ⟨gl, k * 3, none⟩) hl4).trans x1
          have f2 : ∀ p : hp.BelowOf wr, p.W.cell? ⟨gl, k * 3 + 1, none⟩ = some (.int .i64 ((k : Int) * 3 + 1)) := fun p => ((hp.below_step HB.out p.h).cell (p := ⟨gl, k * 3 + 1, none⟩) hl4).trans x2
          have f3 : ∀ p : hp.BelowOf wr, p.W.cell? ⟨gl, k * 3 + 2, none⟩ = some (.bool b) := fun p => ((hp.below_step HB.out p.h).cell (p := ⟨gl, k * 3 + 2, none⟩) hl4).trans x3
          have f4 : ∀ p : hp.BelowOf wr, p.W.cell? ⟨ga, oa + k, none⟩ = some (.int .i64 ((k : Int) * 3 + 1)) := fun p => ((hp.below_step HB.out p.h).cell (p := ⟨ga, oa + k, none⟩) hga).trans z1
          have HXP := Lib.hid (fun p : hp.BelowOf wr => (HX4.out.below (hp.below_step HB.out p.h)).all)
          have k0 := fun p => (HXP.out p).1
          have k1 := fun p => (HXP.out p).2.1
          have k2 := fun p => (HXP.out p).2.2.1
          have k3 := fun p => (HXP.out p).2.2.2.1
          have k4 := fun p => (HXP.out p).2.2.2.2.1
          have k5 := fun p => (HXP.out p).2.2.2.2.2.1
          have k6 := fun p => (HXP.out p).2.2.2.2.2.2
          clear x1 x2 x3 z1 hb y1 y2
          cases b
          · go_upto_region 15 with fail
            refine hp.wp_region_below (by kernel_rfl) (by kernel_rfl) ?_
            repeat (go_big_quiet_step (fail))
            refine wpQuiet_nil ?_
            rintro w6 ⟨p6, rfl⟩
            have HB6 := Lib.hid (hp.below_step HB.out p6.h)
            clear f1 f2 f3 f4 k0 k1 k2 k3 k4 k5 k6 HXP
            generalize p6.W = w6 at *
            go_wp2_with fail
            go_roundg (gJ2 - 1)
            case measure => omega
            case rel => exact ⟨k + 1, by go_num, by omega, HB6⟩
          · have hkd : c.kind = 2 := HKK.out rfl
            have HK := Lib.hid (fun p : hp.BelowOf wr => hp.calls_below p (v := .int .i64 2) (by rw [← hkd]; exact kind_any c p.W))
            clear hkd
            go_upto_region 15 with fail
            refine hp.wp_region_below (by kernel_rfl) (by kernel_rfl) ?_
            repeat (go_big_quiet_step ((go_at_call 16; with_reducible exact HK.out _)))
            refine wpQuiet_nil ?_
            rintro w6 ⟨p6, rfl⟩
            have HB6 := Lib.hid (hp.below_step HB.out p6.h)
            clear f1 f2 f3 f4 k0 k1 k2 k3 k4 k5 k6 HXP
            generalize p6.W = w6 at *
            go_wp2_with fail
            go_roundg (gJ2 - 1)
            case measure => omega
            case rel => exact ⟨k + 1, by go_num, by omega, HB6⟩
        · have HW0 := Lib.hid (fun (W : World) (hb : Below w4.heap.size w4 W) => (show Calls Try.prog 18 #[.agg #[.int .i64 c.op, .int .i64 c.fd, .int .i64 c.fl, .int .i64 c.n, .int .i64 c.off, .string c.a, .string c.b], .slice A7 i c7, .int .i64 0] W (OrdE W (wantsL c (atL i) 0)) from wants_own (HO4.out.below hb) (atL_wf (by omega)) (sc.wf_small (by omega) (by omega)) (by rw [atL_len]; omega)))
          have HLO := Lib.hid (atL_ord c (k := i) (by omega) 0 (.inl rfl))
          have HX := Lib.hid (HX4.out.below HB.out)
          obtain ⟨k0, k1, k2, k3, k4, k5, k6⟩ := HX.out.all
          unfold OrdE at HW0
          clear y1 y2
          rcases Nat.eq_zero_or_pos i with hi0 | hi0
          · subst hi0
            go_wp2_with fail
            refine (HW0.out _ HB.out).mono ?_
            rintro _ w7 ⟨v, o, rfl, hord, how, hb⟩
            obtain rfl := hord.uniq HLO.out
            have HB7 := Lib.hid (hp.below_step HB4.out (hp.below_step HB.out hb))
            obtain ⟨A9, c9, rfl⟩ := how.form
            rw [wants_len0]
            clear hord how hb HW0
            go_wp2_with fail
            go_ret
            exact ⟨rfl, HB7.out⟩
          · have hi2 : (0 : Int) < (i : Int) := by omega
            obtain ⟨kd, hkd⟩ : ∃ kd, c.kind = kd := ⟨_, rfl⟩
            have HK := Lib.hid (fun W => kind_any c W)
            unfold IntE at HK
            rw [hkd] at HK
            have HKD := Lib.hid hkd
            clear hkd
            go_wp2_with fail
            refine (HK.out _).mono ?_
            rintro _ w6 ⟨rfl, hb6⟩
            have HB6 := Lib.hid (hp.below_step HB.out hb6)
            have HX6 := Lib.hid (HX.out.below hb6)
            clear hb6 HK k0 k1 k2 k3 k4 k5 k6
            obtain ⟨k0, k1, k2, k3, k4, k5, k6⟩ := HX6.out.all
            by_cases e2 : kd = 2
            · obtain ⟨b2, o2, e, _, x1, x2, x3⟩ := HGE.out (i - 1) (by omega)
              injection e with e
              injection e with e1 e3
              subst e1 e3
              rw [wants_get c i fl (by omega), Nat.zero_add, kind_last (by rw [HKD.out]; exact e2) hi0] at x3
              dsimp only at x3
              obtain ⟨i1, hi1⟩ : ∃ i1, i = i1 + 1 := ⟨i - 1, by omega⟩
              subst hi1
              have z3 := (HB6.out.cell (p := ⟨gl, (i1 + 1 - 1) * 3 + 2, none⟩) hlt).trans x3
              rw [show i1 + 1 - 1 = i1 by omega] at z3
              have hsub : ((i1 + 1 : Nat) : Int) - 1 = (i1 : Int) := by omega
              have q2 : (kd == 2) = true := by simpa using e2
              have hlt9 : i1 < i1 + 1 + 1 := by omega
              have hlt8 : (i1 : Int) < ((i1 + 1 : Nat) : Int) + 1 := by omega
              clear x1 x2 x3 e2
              go_wp2_with fail
              refine (HW0.out _ HB6.out).mono ?_
              rintro _ w7 ⟨v, o, rfl, hord, how, hb⟩
              obtain rfl := hord.uniq HLO.out
              have HB7 := Lib.hid (hp.below_step HB4.out (hp.below_step HB6.out hb))
              obtain ⟨A9, c9, rfl⟩ := how.form
              rw [wants_len0]
              clear hord how hb HW0
              go_wp2_with fail
              go_ret
              exact ⟨rfl, HB7.out⟩
            · have q2 : (kd == 2) = false := by simpa using e2
              clear e2
              go_wp2_with fail
              refine (HW0.out _ HB6.out).mono ?_
              rintro _ w7 ⟨v, o, rfl, hord, how, hb⟩
              obtain rfl := hord.uniq HLO.out
              have HB7 := Lib.hid (hp.below_step HB4.out (hp.below_step HB6.out hb))
              obtain ⟨A9, c9, rfl⟩ := how.form
              rw [wants_len0]
              clear hord how hb HW0
              go_wp2_with fail
              go_ret
              exact ⟨rfl, HB7.out⟩

set_option maxRecDepth 100000 in
theorem lifted (os : Os) (started : os.Started) (H : Type) (enc : TypeId × Value → H) :
    ReturnsInHanded {} Try.checked os 8 .any (Rows.planFileSpec.pre6 enc Try.prog Try.f8 Rows.planFileRow.domain false) (Rows.planFileSpec.post enc Try.prog Try.f8 false true false false) := by
  refine returnsInHanded_of_change (C := Try.checked) own started (by kernel_rfl) Try.func8
    (ChangeSpec.witness6 (enc := enc) (C := Try.checked) false ⟨#[], #[(c0 0).v, .int .u8 0, .int .u8 0], []⟩ 8 (by kernel_rfl) (by kernel_rfl) (by kernel_rfl) (by kernel_rfl)) ?_
  intro W base args ds gs before hval0 hW hcnd _
  have hval : ∀ (j : Nat) t v, Try.f8.params[j]? = some t → args[j]? = some v → Value.okWide Try.prog W .any base t v := hval0
  have hW' := hW
  obtain ⟨p, q, hA0, hV, rfl, hfz, hnd⟩ := hW
  have hA : DataW.TrodAll enc Try.prog W 0 (fun _ => true) true Try.f8.params.toList args.toList ds p := hA0
  rw [Try.params8] at hA hval
  obtain ⟨v0, vs0, d0, ds0, p0, q0, hargs, rfl, rfl, h0, r0⟩ := trodAll_cons hA
  obtain ⟨v1, vs1, d1, ds1, p1, q1, rfl, rfl, rfl, h1, r1⟩ := trodAll_cons r0
  obtain ⟨v2, vs2, d2, ds2, p2, q2, rfl, rfl, rfl, h2, r2⟩ := trodAll_cons r1
  obtain ⟨rfl, rfl, rfl⟩ := trodAll_nil r2
  obtain rfl : args = #[v0, v1, v2] := by cases args; simp_all
  obtain ⟨rfl, rfl⟩ := trodVars_none hV
  have hlt := fun x hx => hW'.lt x hx
  have t0 := h0
  obtain ⟨x0, rfl⟩ := open_call (hval 0 32 v0 rfl rfl) h0
  obtain ⟨a1, rfl, rfl, rfl, w1⟩ := open_int Try.underlying5 (hval 1 5 v1 rfl rfl) h1
  obtain ⟨a2, rfl, rfl, rfl, w2⟩ := open_int Try.underlying5 (hval 2 5 v2 rfl rfl) h2
  clear hA0 hval0
  refine (walk x0 a1 a2 W w1 w2).mono fun e W' ⟨he, hg⟩ => ?_
  subst he
  exact ⟨_, rfl, law_post (pv := []) hW' (fun _ _ _ => (trodAll_cons_mk (shut_bool Try.underlying4 _) trodAll_mk0)) (fun sp hsp => (trodAll_cons_mk (arg_stays (by decide) t0 hg (by simp +contextual) hlt hsp laid) (trodAll_cons_mk (shut_int Try.underlying5 w1) (trodAll_cons_mk (shut_int Try.underlying5 w2) trodAll_mk0)))) (fun _ _ => rfl) (by simp)
    hg (ok_one (by kernel_rfl) rfl (okWide_bool_mk Try.underlying4 _))⟩

theorem over : Rows.planFileRow.holds Try.pinned (OpenSpec.ofChange Rows.planFileSpec) :=
  OpenClaim.holds_of_wide 8 Try.f8 rfl rfl rfl rfl rfl rfl rfl ⟨rfl, rfl, rfl, rfl, rfl⟩ rfl rfl rfl rfl rfl (by kernel_rfl) Try.func8 (by kernel_rfl)
    (of_decide_eq_true (by kernel_rfl)) (by unfold Func.isWrapper; first | (rw [if_pos (by decide +kernel)]; kernel_rfl) | (rw [if_neg (by decide +kernel)]; exact ⟨rfl, rfl⟩))
    (fun os started H enc _ => lifted os started H enc)

/-- The statement. -/
theorem proved : Rows.PlanFileSaid :=
  over
end Go.Proofs.Ytlplbpilpkmoaaa.planFile
