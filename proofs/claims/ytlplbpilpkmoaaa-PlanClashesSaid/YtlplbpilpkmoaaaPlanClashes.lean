/- Who bars whom is told from both sides; who only reads bars nobody who does; one's own order bars and is barred like oneself; for any two rows of wants up to 100. -/
import Derived.Test.YtlplbpilpkmoaaaQz
import Derived.Deep.RegionWith
import Derived.Deep.QuietTactic
import Derived.BigQuiet
import Derived.Deep.CutRange
import Derived.Deep.CutBlock
import Derived.Deep.RegionHeld3
import Derived.ProofKit
import Derived.OpenShut
import Derived.Shelf.Abstract
namespace Go.Proofs.Ytlplbpilpkmoaaa.planClashes
open Go.ChangeShapes Go.WideShapes Go.ChangeAt Go.RowKit
open Go.Proofs.Ytlplbpilpkmoaaa.pl
set_option linter.unusedVariables false

theorem own : ownKnob Try.prog.godebug = none := by kernel_rfl
theorem laid : laidOutB Try.prog = true := by kernel_rfl

theorem e27 : Enters Try.prog 27 := enters_of Try.func27 (by kernel_rfl) rfl
set_option maxHeartbeats 4000000 in
theorem reads_any {w : World} {A1 : Option Addr} {l : List Wt} {c1 : Nat} (h1 : Wan w w.heap.size A1 l) (l1 : l.length ≤ 10000) :
    Calls Try.prog 27 #[.slice A1 l.length c1] w (RetB w (l.all fun x => !x.w)) := by
  have H1 := Lib.hid h1
  obtain ⟨n, hn⟩ : ∃ n, l.length = n := ⟨_, rfl⟩
  rw [hn] at l1 ⊢
  have HN := Lib.hid hn
  clear h1 hn
  unfold RetB
  go_enter Try.func27, Try.ntmps27
  go_wp2_with fail
  go_loopg [6] n (fun gk u6 wx => ∃ i : Nat, u6 = .int .i64 i ∧ gk + i = n ∧ Hid (∀ j, j < i → (gw l j).w = false) ∧ w = wx)
  case atStart => exact ⟨0, rfl, by omega, Lib.hid fun j hj => by omega, rfl⟩
  case round =>
    obtain ⟨i, rfl, hg, HNO, rfl⟩ := hrel
    by_cases hi : i < n
    · have hi2 : (i : Int) < (n : Int) := by omega
      obtain ⟨g1, o1, rfl, _, x1, x2, x3⟩ := H1.out i (by rw [HN.out]; exact hi)
      have HM := Lib.hid (gw_mem (xs := l) (i := i) (by rw [HN.out]; exact hi))
      obtain ⟨b, hb⟩ : ∃ b, (gw l i).w = b := ⟨_, rfl⟩
      rw [hb] at x3
      have HB := Lib.hid hb
      clear x1 x2 hb
      cases b
      · go_wp2_with fail
        go_roundg (gk - 1)
        case measure => omega
        case rel => exact ⟨i + 1, by go_num, by omega, Lib.hid fun j hj => by
          by_cases e : j = i
          · subst e; exact HB.out
          · exact HNO.out j (by omega), rfl⟩
      · have HF := Lib.hid (show (l.all fun x => !x.w) = false from Bool.eq_false_iff.2 fun e => by
          have := List.all_eq_true.1 e _ HM.out
          rw [HB.out] at this; cases this)
        go_wp2_with fail
        go_ret
        exact ⟨by rw [HF.out]; rfl, Below.refl _ _⟩
    · have HF := Lib.hid (show (l.all fun x => !x.w) = true from List.all_eq_true.2 fun x hx => by
        obtain ⟨j, hj, rfl⟩ := mem_gw hx
        rw [HNO.out j (by rw [HN.out] at hj; omega)]; rfl)
      go_wp2_with fail
      go_ret
      exact ⟨by rw [HF.out]; rfl, Below.refl _ _⟩
theorem bars_symm (a b : List Wt) : bars b a = bars a b := by
  rw [Bool.eq_iff_iff, bars_iff, bars_iff]
  exact ⟨fun h => h.symm, fun h => h.symm⟩
theorem bars_ords {a b oa ob : List Wt} (ha : IsOrd a oa) (hb : IsOrd b ob) : bars oa ob = bars a b := by
  rw [Bool.eq_iff_iff, bars_iff, bars_iff]
  exact (bars_ord ha.summ hb.summ).symm
theorem bars_none (a : List Wt) : bars a [] = false := by
  rw [Bool.eq_false_iff, ne_eq, bars_iff]; exact bars_nil a
theorem bars_rd {a b : List Wt} (ha : (a.all fun x => !x.w) = true) (hb : (b.all fun x => !x.w) = true) : bars a b = false := by
  rw [Bool.eq_false_iff, ne_eq, bars_iff]
  refine bars_reads (fun x hx => ?_) (fun x hx => ?_)
  · have := List.all_eq_true.1 ha x hx; simpa using this
  · have := List.all_eq_true.1 hb x hx; simpa using this
theorem ord_wf {a o : List Wt} (h : IsOrd a o) (hw : ∀ x ∈ a, sc.Wf x.n) : ∀ x ∈ o, sc.Wf x.n := fun x hx => by
  obtain ⟨z, hz, e, _⟩ := h.summ.deep x hx
  rw [← e]; exact hw z hz
theorem clash_own {w : World} {lo lo' E E' : Nat} {u v : Value} {a b : List Wt} (h1 : OW w lo E u a) (h2 : OW w lo' E' v b) (wa : ∀ x ∈ a, sc.Wf x.n) (wb : ∀ x ∈ b, sc.Wf x.n) (l1 : a.length ≤ 10000) (l2 : b.length ≤ 10000) :
    Calls Try.prog 14 #[u, v] w (RetB w (bars a b)) := by
  obtain ⟨A, c, rfl⟩ := h1.form
  obtain ⟨B, d, rfl⟩ := h2.form
  exact clash_any h1.wan h2.wan wa wb l1 l2
theorem wan_nil (w : World) (B : Nat) : Wan w B none [] := fun i hi => by simp at hi
theorem nil_eq : (Value.slice none ([] : List Wt).length 0) = .slice none 0 0 := rfl
set_option maxRecDepth 100000 in
set_option maxHeartbeats 4000000 in
theorem walk (A1 : Option Addr) (c1 : Nat) (a : List Wt) (A2 : Option Addr) (c2 : Nat) (b : List Wt) (w : World) (hc1 : a.length ≤ c1 ∧ c1 ≤ maxLen) (h1 : Wan w w.heap.size A1 a) (f1 : ∀ x ∈ a, sc.Wf x.n) (hc2 : b.length ≤ c2 ∧ c2 ≤ maxLen) (h2 : Wan w w.heap.size A2 b) (f2 : ∀ x ∈ b, sc.Wf x.n) :
    Calls Try.prog 7 #[.slice A1 a.length c1, .slice A2 b.length c2] w (RetB w true) := by
  have HAW := Lib.hid (awake_any w)
  have H1 := Lib.hid h1
  have H2 := Lib.hid h2
  have F1 := Lib.hid f1
  have F2 := Lib.hid f2
  obtain ⟨n, hn⟩ : ∃ n, a.length = n := ⟨_, rfl⟩
  obtain ⟨m, hm⟩ : ∃ m, b.length = m := ⟨_, rfl⟩
  rw [hn] at hc1 ⊢
  rw [hm] at hc2 ⊢
  have HN := Lib.hid hn
  have HM := Lib.hid hm
  have hnx : n ≤ 9223372036854775807 := by have := hc1.1; have := hc1.2; unfold maxLen at this; omega
  have hmx : m ≤ 9223372036854775807 := by have := hc2.1; have := hc2.2; unfold maxLen at this; omega
  clear h1 h2 f1 f2 hn hm hc1 hc2
  unfold RetB at HAW ⊢
  go_enter Try.func7, Try.ntmps7
  go_wp2_with fail
  refine HAW.out.mono ?_
  rintro _ w1 ⟨rfl, hb1⟩
  have HB1 := Lib.hid hb1
  clear hb1 HAW
  by_cases g1 : 100 < n
  · have g1' : (100 : Int) < (n : Int) := by omega
    go_wp2_with fail
    go_ret
    exact ⟨rfl, HB1.out⟩
  by_cases g2 : 100 < m
  · have g1' : ¬ (100 : Int) < (n : Int) := by omega
    have g2' : (100 : Int) < (m : Int) := by omega
    go_wp2_with fail
    go_ret
    exact ⟨rfl, HB1.out⟩
  have g1' : ¬ (100 : Int) < (n : Int) := by omega
  have g2' : ¬ (100 : Int) < (m : Int) := by omega
  have E27 := e27
  unfold Enters at E27
  have HC := Lib.hid (fun (W : World) (hb : Below w.heap.size w W) => (show Calls Try.prog 14 #[.slice A1 n c1, .slice A2 m c2] W (RetB W (bars a b)) from by rw [← HN.out, ← HM.out]; exact clash_any ((H1.out.below hb).le hb.size) ((H2.out.below hb).le hb.size) F1.out F2.out (by rw [HN.out]; omega) (by rw [HM.out]; omega)))
  have HCR := Lib.hid (fun (W : World) (hb : Below w.heap.size w W) => (show Calls Try.prog 14 #[.slice A2 m c2, .slice A1 n c1] W (RetB W (bars a b)) from by rw [← bars_symm, ← HN.out, ← HM.out]; exact clash_any ((H2.out.below hb).le hb.size) ((H1.out.below hb).le hb.size) F2.out F1.out (by rw [HM.out]; omega) (by rw [HN.out]; omega)))
  have HCN := Lib.hid (fun (W : World) (hb : Below w.heap.size w W) => (show Calls Try.prog 14 #[.slice A1 n c1, .slice none 0 0] W (RetB W false) from by rw [← bars_none a, ← HN.out, ← nil_eq]; exact clash_any ((H1.out.below hb).le hb.size) (wan_nil _ _) F1.out (fun x hx => by simp at hx) (by rw [HN.out]; omega) (by simp)))
  have HR1 := Lib.hid (fun (W : World) (hb : Below w.heap.size w W) => (show Calls Try.prog 27 #[.slice A1 n c1] W (RetB W (a.all fun x => !x.w)) from by rw [← HN.out]; exact reads_any ((H1.out.below hb).le hb.size) (by rw [HN.out]; omega)))
  have HR2 := Lib.hid (fun (W : World) (hb : Below w.heap.size w W) => (show Calls Try.prog 27 #[.slice A2 m c2] W (RetB W (b.all fun x => !x.w)) from by rw [← HM.out]; exact reads_any ((H2.out.below hb).le hb.size) (by rw [HM.out]; omega)))
  have HO1 := Lib.hid (fun (W : World) (hb : Below w.heap.size w W) => (show Calls Try.prog 10 #[.slice A1 n c1] W (OrdE W a) from by rw [← HN.out]; exact order_any ((H1.out.below hb).le hb.size) F1.out (by rw [HN.out]; omega)))
  have HO2 := Lib.hid (fun (W : World) (hb : Below w.heap.size w W) => (show Calls Try.prog 10 #[.slice A2 m c2] W (OrdE W b) from by rw [← HM.out]; exact order_any ((H2.out.below hb).le hb.size) F2.out (by rw [HM.out]; omega)))
  have HBR := Lib.hid (bars_rd (a := a) (b := b))
  have HLA := Lib.hid (show a.length ≤ 100 from by rw [HN.out]; omega)
  have HLB := Lib.hid (show b.length ≤ 100 from by rw [HM.out]; omega)
  have HOO := Lib.hid (fun oa ob (ha : IsOrd a oa) (hb : IsOrd b ob) => bars_ords ha hb)
  generalize bars a b = c at *
  generalize (a.all fun x => !x.w) = ra at *
  generalize (b.all fun x => !x.w) = rb at *
  unfold RetB at HC HCR HCN HR1 HR2
  unfold OrdE at HO1 HO2
  clear g1 g2
  go_wp2_with fail
  refine (HC.out _ HB1.out).mono ?_
  rintro _ w2 ⟨rfl, hb⟩
  have HB2 := Lib.hid (hp.below_step HB1.out hb)
  clear hb HC
  go_wp2_with fail
  refine (HCR.out _ HB2.out).mono ?_
  rintro _ w3 ⟨rfl, hb⟩
  have HB3 := Lib.hid (hp.below_step HB2.out hb)
  clear hb HCR
  cases c
  · go_wp2_with fail
    refine (HO1.out _ HB3.out).mono ?_
    rintro _ w7 ⟨v1, oa, rfl, hord1, how1, hb⟩
    have HB7 := Lib.hid (hp.below_step HB3.out hb)
    have HW1 := Lib.hid how1
    have HD1 := Lib.hid hord1
    clear hb hord1 how1 HO1
    go_wp2_with fail
    refine (HO2.out _ HB7.out).mono ?_
    rintro _ w8 ⟨v2, ob, rfl, hord2, how2, hb⟩
    have HB8 := Lib.hid (hp.below_step HB7.out hb)
    have HCO := Lib.hid (clash_own (HW1.out.keep (w' := w8) fun g e => hb.block g (HW1.out.olt e).2) how2 (ord_wf HD1.out F1.out) (ord_wf hord2 F2.out) (Nat.le_trans HD1.out.len (by have := HLA.out; omega)) (Nat.le_trans hord2.len (by have := HLB.out; omega)))
    rw [HOO.out _ _ HD1.out hord2] at HCO
    unfold RetB at HCO
    clear hb hord2 how2 HO2
    go_wp2_with fail
    refine HCO.out.mono ?_
    rintro _ w9 ⟨rfl, hb⟩
    have HB9 := Lib.hid (hp.below_step HB8.out hb)
    clear hb HCO
    go_wp2_with fail
    refine (HCN.out _ HB9.out).mono ?_
    rintro _ w10 ⟨rfl, hb⟩
    have HB10 := Lib.hid (hp.below_step HB9.out hb)
    clear hb HCN
    go_wp2_with fail
    go_ret
    exact ⟨rfl, HB10.out⟩
  · go_wp2_with fail
    refine (HR1.out _ HB3.out).mono ?_
    rintro _ w4 ⟨rfl, hb⟩
    have HB4 := Lib.hid (hp.below_step HB3.out hb)
    clear hb HR1
    cases ra
    · go_wp2_with fail
      refine (HO1.out _ HB4.out).mono ?_
      rintro _ w7 ⟨v1, oa, rfl, hord1, how1, hb⟩
      have HB7 := Lib.hid (hp.below_step HB4.out hb)
      have HW1 := Lib.hid how1
      have HD1 := Lib.hid hord1
      clear hb hord1 how1 HO1
      go_wp2_with fail
      refine (HO2.out _ HB7.out).mono ?_
      rintro _ w8 ⟨v2, ob, rfl, hord2, how2, hb⟩
      have HB8 := Lib.hid (hp.below_step HB7.out hb)
      have HCO := Lib.hid (clash_own (HW1.out.keep (w' := w8) fun g e => hb.block g (HW1.out.olt e).2) how2 (ord_wf HD1.out F1.out) (ord_wf hord2 F2.out) (Nat.le_trans HD1.out.len (by have := HLA.out; omega)) (Nat.le_trans hord2.len (by have := HLB.out; omega)))
      rw [HOO.out _ _ HD1.out hord2] at HCO
      unfold RetB at HCO
      clear hb hord2 how2 HO2
      go_wp2_with fail
      refine HCO.out.mono ?_
      rintro _ w9 ⟨rfl, hb⟩
      have HB9 := Lib.hid (hp.below_step HB8.out hb)
      clear hb HCO
      go_wp2_with fail
      refine (HCN.out _ HB9.out).mono ?_
      rintro _ w10 ⟨rfl, hb⟩
      have HB10 := Lib.hid (hp.below_step HB9.out hb)
      clear hb HCN
      go_wp2_with fail
      go_ret
      exact ⟨rfl, HB10.out⟩
    · go_wp2_with fail
      refine (HR2.out _ HB4.out).mono ?_
      rintro _ w5 ⟨rfl, hb⟩
      have HB5 := Lib.hid (hp.below_step HB4.out hb)
      clear hb HR2
      cases rb
      · go_wp2_with fail
        refine (HO1.out _ HB5.out).mono ?_
        rintro _ w7 ⟨v1, oa, rfl, hord1, how1, hb⟩
        have HB7 := Lib.hid (hp.below_step HB5.out hb)
        have HW1 := Lib.hid how1
        have HD1 := Lib.hid hord1
        clear hb hord1 how1 HO1
        go_wp2_with fail
        refine (HO2.out _ HB7.out).mono ?_
        rintro _ w8 ⟨v2, ob, rfl, hord2, how2, hb⟩
        have HB8 := Lib.hid (hp.below_step HB7.out hb)
        have HCO := Lib.hid (clash_own (HW1.out.keep (w' := w8) fun g e => hb.block g (HW1.out.olt e).2) how2 (ord_wf HD1.out F1.out) (ord_wf hord2 F2.out) (Nat.le_trans HD1.out.len (by have := HLA.out; omega)) (Nat.le_trans hord2.len (by have := HLB.out; omega)))
        rw [HOO.out _ _ HD1.out hord2] at HCO
        unfold RetB at HCO
        clear hb hord2 how2 HO2
        go_wp2_with fail
        refine HCO.out.mono ?_
        rintro _ w9 ⟨rfl, hb⟩
        have HB9 := Lib.hid (hp.below_step HB8.out hb)
        clear hb HCO
        go_wp2_with fail
        refine (HCN.out _ HB9.out).mono ?_
        rintro _ w10 ⟨rfl, hb⟩
        have HB10 := Lib.hid (hp.below_step HB9.out hb)
        clear hb HCN
        go_wp2_with fail
        go_ret
        exact ⟨rfl, HB10.out⟩
      · exact absurd HBR.out (by simp)

set_option maxRecDepth 100000 in
theorem lifted (os : Os) (started : os.Started) (H : Type) (enc : TypeId × Value → H) :
    ReturnsInHanded {} Try.checked os 7 .any (Rows.planClashesSpec.pre6 enc Try.prog Try.f7 Rows.planClashesRow.domain false) (Rows.planClashesSpec.post enc Try.prog Try.f7 false true false false) := by
  refine returnsInHanded_of_change (C := Try.checked) own started (by kernel_rfl) Try.func7
    (ChangeSpec.witness6 (enc := enc) (C := Try.checked) false ⟨#[], #[.slice none 0 0, .slice none 0 0], []⟩ 8 (by kernel_rfl) (by kernel_rfl) (by kernel_rfl) (by kernel_rfl)) ?_
  intro W base args ds gs before hval0 hW hcnd _
  have hval : ∀ (j : Nat) t v, Try.f7.params[j]? = some t → args[j]? = some v → Value.okWide Try.prog W .any base t v := hval0
  have hW' := hW
  obtain ⟨p, q, hA0, hV, rfl, hfz, hnd⟩ := hW
  have hA : DataW.TrodAll enc Try.prog W 0 (fun _ => true) true Try.f7.params.toList args.toList ds p := hA0
  rw [Try.params7] at hA hval
  obtain ⟨v0, vs0, d0, ds0, p0, q0, hargs, rfl, rfl, h0, r0⟩ := trodAll_cons hA
  obtain ⟨v1, vs1, d1, ds1, p1, q1, rfl, rfl, rfl, h1, r1⟩ := trodAll_cons r0
  obtain ⟨rfl, rfl, rfl⟩ := trodAll_nil r1
  obtain rfl : args = #[v0, v1] := by cases args; simp_all
  obtain ⟨rfl, rfl⟩ := trodVars_none hV
  have hlt := fun x hx => hW'.lt x hx
  have t0 := h0
  obtain ⟨A0, c0, x0, rfl, e0, s0, f0⟩ := open_wants (hval 0 22 v0 rfl rfl) h0
  have t1 := h1
  obtain ⟨A1, c1, x1, rfl, e1, s1, f1⟩ := open_wants (hval 1 22 v1 rfl rfl) h1
  clear hA0 hval0
  refine (walk A0 c0 x0 A1 c1 x1 W e0 s0 f0 e1 s1 f1).mono fun e W' ⟨he, hg⟩ => ?_
  subst he
  exact ⟨_, rfl, law_post (pv := []) hW' (fun _ _ _ => (trodAll_cons_mk (shut_bool Try.underlying4 _) trodAll_mk0)) (fun sp hsp => (trodAll_cons_mk (arg_stays (by decide) t0 hg (by simp +contextual) hlt hsp laid) (trodAll_cons_mk (arg_stays (by decide) t1 hg (by simp +contextual) hlt hsp laid) trodAll_mk0))) (fun _ _ => rfl) (by simp)
    hg (ok_one (by kernel_rfl) rfl (okWide_bool_mk Try.underlying4 _))⟩

theorem over : Rows.planClashesRow.holds Try.pinned (OpenSpec.ofChange Rows.planClashesSpec) :=
  OpenClaim.holds_of_wide 7 Try.f7 rfl rfl rfl rfl rfl rfl rfl ⟨rfl, rfl, rfl, rfl, rfl⟩ rfl rfl rfl rfl rfl (by kernel_rfl) Try.func7 (by kernel_rfl)
    (of_decide_eq_true (by kernel_rfl)) (by unfold Func.isWrapper; first | (rw [if_pos (by decide +kernel)]; kernel_rfl) | (rw [if_neg (by decide +kernel)]; exact ⟨rfl, rfl⟩))
    (fun os started H enc _ => lifted os started H enc)

/-- The statement. -/
theorem proved : Rows.PlanClashesSaid :=
  over
end Go.Proofs.Ytlplbpilpkmoaaa.planClashes
