/- A call's kind, and what it wants, is as the document says; for any call, any directories up to 100, any file. -/
import Derived.Test.YtlplbpilpkmoaaaQi
import Derived.Deep.RegionWith
import Derived.Deep.QuietTactic
import Derived.BigQuiet
import Derived.Deep.CutRange
import Derived.Deep.CutBlock
import Derived.Deep.RegionHeld3
import Derived.ProofKit
import Derived.OpenShut
import Derived.Shelf.Abstract
namespace Go.Proofs.Ytlplbpilpkmoaaa.planWants
open Go.ChangeShapes Go.WideShapes Go.ChangeAt Go.RowKit
open Go.Proofs.Ytlplbpilpkmoaaa.pl
set_option linter.unusedVariables false

theorem own : ownKnob Try.prog.godebug = none := by kernel_rfl
theorem laid : laidOutB Try.prog = true := by kernel_rfl

theorem same_own {w : World} {lo lo' E E' : Nat} {u v : Value} {l : List Wt} (h1 : OW w lo E u l) (h2 : OW w lo' E' v l) (l1 : l.length ≤ 10000) : Calls Try.prog 11 #[u, v] w (RetB w true) := by
  obtain ⟨A, c, rfl⟩ := h1.form
  obtain ⟨B, d, rfl⟩ := h2.form
  exact same_yes h1.wan h2.wan l1
theorem ivs_le {w : World} {B B' : Nat} {A : Option Addr} {xs : List Int} (h : Ivs w B A xs) (hb : B ≤ B') : Ivs w B' A xs := fun i hi => by
  obtain ⟨b, off, e, hB, h0⟩ := h i hi
  exact ⟨b, off, e, Nat.lt_of_lt_of_le hB hb, h0⟩
set_option maxRecDepth 100000 in
set_option maxHeartbeats 4000000 in
theorem walk (c : Cx) (A1 : Option Addr) (c1 : Nat) (a : List Int) (file : Int) (w : World) (hc1 : a.length ≤ c1 ∧ c1 ≤ maxLen) (h1 : Ivs w w.heap.size A1 a) (f1 : ∀ x ∈ a, sc.Wf x) (hf : (Lit.int .i64 file).wf = true) :
    Calls Try.prog 4 #[c.v, .slice A1 a.length c1, .int .i64 file] w (RetB w true) := by
  have H1 := Lib.hid h1
  have F1 := Lib.hid f1
  have HF := Lib.hid (show sc.Wf file from hf)
  obtain ⟨n, hn⟩ : ∃ n, a.length = n := ⟨_, rfl⟩
  rw [hn] at hc1 ⊢
  have HN := Lib.hid hn
  have hnx : n ≤ 9223372036854775807 := by have := hc1.1; have := hc1.2; unfold maxLen at this; omega
  clear h1 f1 hn hc1 hf
  have HBX := Lib.hid (cbox_new w c)
  obtain ⟨w0, hw0⟩ : ∃ w0, w.alloc (.cells c.cells 32) = w0 := ⟨_, rfl⟩
  have HB0 := Lib.hid (show Below w.heap.size w w0 from by rw [← hw0]; exact hp.below_alloc _ _)
  rw [hw0] at HBX
  unfold Cx.cells at hw0
  have HAW := Lib.hid (awake_any w0)
  unfold RetB at HAW ⊢
  go_enter Try.func4, Try.ntmps4
  go_wp2_with fail
  refine HAW.out.mono ?_
  rintro _ w1 ⟨rfl, hb1⟩
  have HB1 := Lib.hid (hp.below_step HB0.out hb1)
  have HX1 := Lib.hid (HBX.out.below hb1)
  clear hb1 HAW hw0 HB0 HBX
  by_cases g1 : 100 < n
  · have g1' : (100 : Int) < (n : Int) := by omega
    go_wp2_with fail
    go_ret
    exact ⟨rfl, HB1.out⟩
  have g1' : ¬ (100 : Int) < (n : Int) := by omega
  have HK := Lib.hid (fun W => kind_any c W)
  have HRK := Lib.hid (fun W => rkind_any c W)
  have HWA := Lib.hid (fun (W : World) (hb : Below w.heap.size w W) => (show Calls Try.prog 18 #[c.v, .slice A1 n c1, .int .i64 file] W (OrdE W (wantsL c a file)) from by rw [← HN.out]; exact wants_any (ivs_le (H1.out.below hb) hb.size) F1.out HF.out (by rw [HN.out]; omega)))
  have HRA := Lib.hid (fun (W : World) (hb : Below w.heap.size w W) => (show Calls Try.prog 19 #[c.v, .slice A1 n c1, .int .i64 file] W (ROrdE W (wantsL c a file)) from by rw [← HN.out]; exact rwants_any (ivs_le (H1.out.below hb) hb.size) (by rw [HN.out]; omega)))
  have HSA := Lib.hid (fun (W : World) (u v : Value) (o o' : List Wt) (lo lo' : Nat) (h : IsOrd (wantsL c a file) o) (h' : IsOrd (wantsL c a file) o') (k : OW W lo 39 u o) (k' : OW W lo' 63 v o') => (show Calls Try.prog 11 #[u, v] W (RetB W true) from by
    obtain rfl := h'.uniq h
    exact same_own k k' (Nat.le_trans h.len (Nat.le_trans (wantsL_len c a file) (by rw [HN.out]; omega)))))
  have HXD := Lib.hid (show CBox w1.drew w.heap.size c from HX1.out)
  have HBD := Lib.hid (show Below w.heap.size w w1.drew from HB1.out.drew)
  obtain ⟨kd, hkd⟩ : ∃ kd, c.kind = kd := ⟨_, rfl⟩
  unfold IntE at HK HRK
  unfold OrdE at HWA
  unfold ROrdE at HRA
  unfold RetB at HSA
  rw [hkd] at HK HRK
  have S0 : w1.drew.cell? ⟨w.heap.size, 0, none⟩ = some (.int .i64 c.op) ∧ w1.drew.cell? ⟨w.heap.size, 1, none⟩ = some (.int .i64 c.fd) ∧ w1.drew.cell? ⟨w.heap.size, 2, none⟩ = some (.int .i64 c.fl) ∧ w1.drew.cell? ⟨w.heap.size, 3, none⟩ = some (.int .i64 c.n) ∧ w1.drew.cell? ⟨w.heap.size, 4, none⟩ = some (.int .i64 c.off) ∧ w1.drew.cell? ⟨w.heap.size, 5, none⟩ = some (.string c.a) ∧ w1.drew.cell? ⟨w.heap.size, 6, none⟩ = some (.string c.b) := HXD.out.all
  clear hkd HX1 HB1
  go_wp2_with fail
  go_region_held3 (fun w' => w'.cell? ⟨w.heap.size, 0, none⟩ = some (.int .i64 c.op) ∧ w'.cell? ⟨w.heap.size, 1, none⟩ = some (.int .i64 c.fd) ∧ w'.cell? ⟨w.heap.size, 2, none⟩ = some (.int .i64 c.fl) ∧ w'.cell? ⟨w.heap.size, 3, none⟩ = some (.int .i64 c.n) ∧ w'.cell? ⟨w.heap.size, 4, none⟩ = some (.int .i64 c.off) ∧ w'.cell? ⟨w.heap.size, 5, none⟩ = some (.string c.a) ∧ w'.cell? ⟨w.heap.size, 6, none⟩ = some (.string c.b))
    (first | with_reducible exact S0 | with_reducible exact S3 | with_reducible exact S4 | with_reducible exact S5 | with_reducible exact S6 | with_reducible exact S7 | assumption | go_keep)
    (first | (go_at_call 16; ((with_reducible refine (HK.out _).mono ?_); rintro _ w3 ⟨rfl, hb3⟩; have HX3 := Lib.hid (HXD.out.below hb3); have HB3 := Lib.hid (hp.below_step HBD.out hb3); have S3 : w3.cell? ⟨w.heap.size, 0, none⟩ = some (.int .i64 c.op) ∧ w3.cell? ⟨w.heap.size, 1, none⟩ = some (.int .i64 c.fd) ∧ w3.cell? ⟨w.heap.size, 2, none⟩ = some (.int .i64 c.fl) ∧ w3.cell? ⟨w.heap.size, 3, none⟩ = some (.int .i64 c.n) ∧ w3.cell? ⟨w.heap.size, 4, none⟩ = some (.int .i64 c.off) ∧ w3.cell? ⟨w.heap.size, 5, none⟩ = some (.string c.a) ∧ w3.cell? ⟨w.heap.size, 6, none⟩ = some (.string c.b) := HX3.out.all; clear hb3)) | (go_at_call 17; ((with_reducible refine (HRK.out _).mono ?_); rintro _ w4 ⟨rfl, hb4⟩; have HX4 := Lib.hid (HX3.out.below hb4); have HB4 := Lib.hid (hp.below_step HB3.out hb4); have HW4 := Lib.hid (HWA.out w4 HB4.out); have S4 : w4.cell? ⟨w.heap.size, 0, none⟩ = some (.int .i64 c.op) ∧ w4.cell? ⟨w.heap.size, 1, none⟩ = some (.int .i64 c.fd) ∧ w4.cell? ⟨w.heap.size, 2, none⟩ = some (.int .i64 c.fl) ∧ w4.cell? ⟨w.heap.size, 3, none⟩ = some (.int .i64 c.n) ∧ w4.cell? ⟨w.heap.size, 4, none⟩ = some (.int .i64 c.off) ∧ w4.cell? ⟨w.heap.size, 5, none⟩ = some (.string c.a) ∧ w4.cell? ⟨w.heap.size, 6, none⟩ = some (.string c.b) := HX4.out.all; clear hb4)) | (go_at_call 18; ((with_reducible refine HW4.out.mono ?_); rintro _ w5 ⟨v5, o5, rfl, hord5, how5, hb5⟩; have HO5 := Lib.hid how5; have HD5 := Lib.hid hord5; have HX5 := Lib.hid (HX4.out.below hb5); have HB5 := Lib.hid (hp.below_step HB4.out hb5); have HR5 := Lib.hid (HRA.out w5 HB5.out); have S5 : w5.cell? ⟨w.heap.size, 0, none⟩ = some (.int .i64 c.op) ∧ w5.cell? ⟨w.heap.size, 1, none⟩ = some (.int .i64 c.fd) ∧ w5.cell? ⟨w.heap.size, 2, none⟩ = some (.int .i64 c.fl) ∧ w5.cell? ⟨w.heap.size, 3, none⟩ = some (.int .i64 c.n) ∧ w5.cell? ⟨w.heap.size, 4, none⟩ = some (.int .i64 c.off) ∧ w5.cell? ⟨w.heap.size, 5, none⟩ = some (.string c.a) ∧ w5.cell? ⟨w.heap.size, 6, none⟩ = some (.string c.b) := HX5.out.all; clear hb5 how5 hord5)) | (go_at_call 19; ((with_reducible refine HR5.out.mono ?_); rintro _ w6 ⟨v6, o6, rfl, hord6, how6, hb6⟩; have HSM := Lib.hid (HSA.out w6 v5 v6 o5 o6 _ _ HD5.out hord6 (HO5.out.keep fun g e => hb6.block g (HO5.out.olt e).2) how6); have HX6 := Lib.hid (HX5.out.below hb6); have HB6 := Lib.hid (hp.below_step HB5.out hb6); have S6 : w6.cell? ⟨w.heap.size, 0, none⟩ = some (.int .i64 c.op) ∧ w6.cell? ⟨w.heap.size, 1, none⟩ = some (.int .i64 c.fd) ∧ w6.cell? ⟨w.heap.size, 2, none⟩ = some (.int .i64 c.fl) ∧ w6.cell? ⟨w.heap.size, 3, none⟩ = some (.int .i64 c.n) ∧ w6.cell? ⟨w.heap.size, 4, none⟩ = some (.int .i64 c.off) ∧ w6.cell? ⟨w.heap.size, 5, none⟩ = some (.string c.a) ∧ w6.cell? ⟨w.heap.size, 6, none⟩ = some (.string c.b) := HX6.out.all; clear hb6 how6 hord6)) | (go_at_call 11; ((with_reducible refine HSM.out.mono ?_); rintro _ w7 ⟨rfl, hb7⟩; have HB7 := Lib.hid (hp.below_step HB6.out hb7); have S7 : w7.cell? ⟨w.heap.size, 0, none⟩ = some (.int .i64 c.op) ∧ w7.cell? ⟨w.heap.size, 1, none⟩ = some (.int .i64 c.fd) ∧ w7.cell? ⟨w.heap.size, 2, none⟩ = some (.int .i64 c.fl) ∧ w7.cell? ⟨w.heap.size, 3, none⟩ = some (.int .i64 c.n) ∧ w7.cell? ⟨w.heap.size, 4, none⟩ = some (.int .i64 c.off) ∧ w7.cell? ⟨w.heap.size, 5, none⟩ = some (.string c.a) ∧ w7.cell? ⟨w.heap.size, 6, none⟩ = some (.string c.b) := (HX6.out.below hb7).all; clear hb7)))
  all_goals
    clear S0 S3 S4 S5 S6 S7
    go_wp2_with fail
    go_ret
    exact ⟨rfl, HB7.out⟩

set_option maxRecDepth 100000 in
theorem lifted (os : Os) (started : os.Started) (H : Type) (enc : TypeId × Value → H) :
    ReturnsInHanded {} Try.checked os 4 .any (Rows.planWantsSpec.pre6 enc Try.prog Try.f4 Rows.planWantsRow.domain false) (Rows.planWantsSpec.post enc Try.prog Try.f4 false true false false) := by
  refine returnsInHanded_of_change (C := Try.checked) own started (by kernel_rfl) Try.func4
    (ChangeSpec.witness6 (enc := enc) (C := Try.checked) false ⟨#[], #[(c0 0).v, .slice none 0 0, .int .i64 0], []⟩ 8 (by kernel_rfl) (by kernel_rfl) (by kernel_rfl) (by kernel_rfl)) ?_
  intro W base args ds gs before hval0 hW hcnd _
  have hval : ∀ (j : Nat) t v, Try.f4.params[j]? = some t → args[j]? = some v → Value.okWide Try.prog W .any base t v := hval0
  have hW' := hW
  obtain ⟨p, q, hA0, hV, rfl, hfz, hnd⟩ := hW
  have hA : DataW.TrodAll enc Try.prog W 0 (fun _ => true) true Try.f4.params.toList args.toList ds p := hA0
  rw [Try.params4] at hA hval
  obtain ⟨v0, vs0, d0, ds0, p0, q0, hargs, rfl, rfl, h0, r0⟩ := trodAll_cons hA
  obtain ⟨v1, vs1, d1, ds1, p1, q1, rfl, rfl, rfl, h1, r1⟩ := trodAll_cons r0
  obtain ⟨v2, vs2, d2, ds2, p2, q2, rfl, rfl, rfl, h2, r2⟩ := trodAll_cons r1
  obtain ⟨rfl, rfl, rfl⟩ := trodAll_nil r2
  obtain rfl : args = #[v0, v1, v2] := by cases args; simp_all
  obtain ⟨rfl, rfl⟩ := trodVars_none hV
  have hlt := fun x hx => hW'.lt x hx
  have t0 := h0
  obtain ⟨x0, rfl⟩ := open_call (hval 0 32 v0 rfl rfl) h0
  have t1 := h1
  obtain ⟨A1, c1, x1, rfl, e1, s1, f1⟩ := open_nums (hval 1 33 v1 rfl rfl) h1
  obtain ⟨a2, rfl, rfl, rfl, w2⟩ := open_int Try.underlying3 (hval 2 3 v2 rfl rfl) h2
  clear hA0 hval0
  refine (walk x0 A1 c1 x1 a2 W e1 s1 f1 w2).mono fun e W' ⟨he, hg⟩ => ?_
  subst he
  exact ⟨_, rfl, law_post (pv := []) hW' (fun _ _ _ => (trodAll_cons_mk (shut_bool Try.underlying4 _) trodAll_mk0)) (fun sp hsp => (trodAll_cons_mk (arg_stays (by decide) t0 hg (by simp +contextual) hlt hsp laid) (trodAll_cons_mk (arg_stays (by decide) t1 hg (by simp +contextual) hlt hsp laid) (trodAll_cons_mk (shut_int Try.underlying3 w2) trodAll_mk0)))) (fun _ _ => rfl) (by simp)
    hg (ok_one (by kernel_rfl) rfl (okWide_bool_mk Try.underlying4 _))⟩

theorem over : Rows.planWantsRow.holds Try.pinned (OpenSpec.ofChange Rows.planWantsSpec) :=
  OpenClaim.holds_of_wide 4 Try.f4 rfl rfl rfl rfl rfl rfl rfl ⟨rfl, rfl, rfl, rfl, rfl⟩ rfl rfl rfl rfl rfl (by kernel_rfl) Try.func4 (by kernel_rfl)
    (of_decide_eq_true (by kernel_rfl)) (by unfold Func.isWrapper; first | (rw [if_pos (by decide +kernel)]; kernel_rfl) | (rw [if_neg (by decide +kernel)]; exact ⟨rfl, rfl⟩))
    (fun os started H enc _ => lifted os started H enc)

/-- The statement. -/
theorem proved : Rows.PlanWantsSaid :=
  over
end Go.Proofs.Ytlplbpilpkmoaaa.planWants
