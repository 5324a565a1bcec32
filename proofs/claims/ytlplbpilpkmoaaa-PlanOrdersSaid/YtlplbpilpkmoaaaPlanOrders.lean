/- The order of any wants, and whether two rows bar each other, is as the document says, and the wants stay; for any two rows up to 100. -/
import Derived.Test.YtlplbpilpkmoaaaQz
import Derived.Deep.RegionWith
import Derived.Deep.QuietTactic
import Derived.BigQuiet
import Derived.Deep.CutRange
import Derived.Deep.CutBlock
import Derived.Deep.RegionHeld3
import Derived.ProofKit
import Derived.OpenShut
import Derived.Shelf.Abstract
namespace Go.Proofs.Ytlplbpilpkmoaaa.planOrders
open Go.ChangeShapes Go.WideShapes Go.ChangeAt Go.RowKit
open Go.Proofs.Ytlplbpilpkmoaaa.pl
set_option linter.unusedVariables false

theorem own : ownKnob Try.prog.godebug = none := by kernel_rfl
theorem laid : laidOutB Try.prog = true := by kernel_rfl

theorem same_own {w : World} {lo lo' E E' : Nat} {u v : Value} {l : List Wt} (h1 : OW w lo E u l) (h2 : OW w lo' E' v l) (l1 : l.length ≤ 10000) : Calls Try.prog 11 #[u, v] w (RetB w true) := by
  obtain ⟨A, c, rfl⟩ := h1.form
  obtain ⟨B, d, rfl⟩ := h2.form
  exact same_yes h1.wan h2.wan l1
theorem rclash_own {w : World} {lo lo' E E' : Nat} {u v : Value} {a b : List Wt} (h1 : OW w lo E u a) (h2 : OW w lo' E' v b) (l1 : a.length ≤ 10000) (l2 : b.length ≤ 10000) : Calls Try.prog 15 #[u, v] w (RetB w (bars a b)) := by
  obtain ⟨A, c, rfl⟩ := h1.form
  obtain ⟨B, d, rfl⟩ := h2.form
  exact rclash_any h1.wan h2.wan (by omega) (by omega)
theorem wan_some {w : World} {B : Nat} {A : Option Addr} {l : List Wt} (h : Wan w B A l) : (l = [] ) ∨ ∃ b off, A = some ⟨b, off, none⟩ ∧ b < B ∧ ∀ j u, (encW l)[j]? = some u → w.cell? ((⟨b, off, none⟩ : Addr).add j) = some u := by
  rcases Nat.eq_zero_or_pos l.length with h0 | h0
  · exact .inl (List.eq_nil_of_length_eq_zero h0)
  · obtain ⟨b, off, e, hb, _⟩ := h 0 h0
    refine .inr ⟨b, off, e, hb, fun j u hu => ?_⟩
    have hj : j < l.length * 3 := by rw [← encW_len]; exact (List.getElem?_eq_some_iff.1 hu).1
    obtain ⟨b2, off2, e2, _, c0, c1, c2⟩ := h (j / 3) (by omega)
    rw [e] at e2
    injection e2 with e2
    injection e2 with e3 e4
    subst e3 e4
    obtain ⟨a0, a1, a2⟩ := encW_get l (j / 3) (by omega)
    rw [Go.WideShapes.add_plain]
    rcases (by omega : j = j / 3 * 3 ∨ j = j / 3 * 3 + 1 ∨ j = j / 3 * 3 + 2) with e | e | e
    · rw [e] at hu ⊢; rw [show off + j / 3 * 3 = off + j / 3 * 3 from rfl, c0, ← a0]; exact hu
    · rw [e] at hu ⊢; rw [← Nat.add_assoc, c1, ← a1]; exact hu
    · rw [e] at hu ⊢; rw [← Nat.add_assoc, c2, ← a2]; exact hu
theorem wan_none {w : World} {B : Nat} {l : List Wt} (h : Wan w B none l) : l = [] := by
  rcases wan_some h with e | ⟨b, off, e, _⟩
  · exact e
  · cases e
theorem wan_news {w w' : World} {B : Nat} {ad : Addr} {l : List Wt} (h : Wan w B (some ad) l) (hb : Below B w w') : ∀ j u, (encW l)[j]? = some u → w'.cell? (ad.add j) = some u := fun j u hu => by
  rcases wan_some h with e | ⟨b, off, e, hB, hn⟩
  · subst e; simp [encW] at hu
  · injection e with e
    subst e
    have := hn j u hu
    rw [Go.WideShapes.add_plain] at this ⊢
    exact (hb.cell (p := ⟨b, off + j, none⟩) hB).trans this
set_option maxRecDepth 100000 in
set_option maxHeartbeats 4000000 in
theorem walk (A1 : Option Addr) (c1 : Nat) (a : List Wt) (A2 : Option Addr) (c2 : Nat) (b : List Wt) (w : World) (hc1 : a.length ≤ c1 ∧ c1 ≤ maxLen) (h1 : Wan w w.heap.size A1 a) (f1 : ∀ x ∈ a, sc.Wf x.n) (hc2 : b.length ≤ c2 ∧ c2 ≤ maxLen) (h2 : Wan w w.heap.size A2 b) (f2 : ∀ x ∈ b, sc.Wf x.n) :
    Calls Try.prog 3 #[.slice A1 a.length c1, .slice A2 b.length c2] w (RetB w true) := by
  have HAW := Lib.hid (awake_any w)
  have H1 := Lib.hid h1
  have H2 := Lib.hid h2
  have F1 := Lib.hid f1
  have F2 := Lib.hid f2
  obtain ⟨n, hn⟩ : ∃ n, a.length = n := ⟨_, rfl⟩
  obtain ⟨m, hm⟩ : ∃ m, b.length = m := ⟨_, rfl⟩
  rw [hn] at hc1 ⊢
  rw [hm] at hc2 ⊢
  have HN := Lib.hid hn
  have HM := Lib.hid hm
  have hnx : n ≤ 9223372036854775807 := by have := hc1.1; have := hc1.2; unfold maxLen at this; omega
  have hmx : m ≤ 9223372036854775807 := by have := hc2.1; have := hc2.2; unfold maxLen at this; omega
  obtain ⟨i0, hi, hz0, hz1, hz2⟩ := info_parts info_want
  have HI := Lib.hid hi
  have HZ := Lib.hid (show i0.zero = some (Wv ⟨0, 0, false⟩) ∧ i0.size = 3 ∧ i0.bytes = 24 from ⟨hz0, hz1, hz2⟩)
  clear h1 h2 f1 f2 hn hm hc1 hc2 hi hz0 hz1 hz2
  unfold RetB at HAW ⊢
  go_enter Try.func3, Try.ntmps3
  go_wp2_with fail
  refine HAW.out.mono ?_
  rintro _ w1 ⟨rfl, hb1⟩
  have HB1 := Lib.hid hb1
  clear hb1 HAW
  by_cases g1 : 100 < n
  · have g1' : (100 : Int) < (n : Int) := by omega
    go_wp2_with fail
    go_ret
    exact ⟨rfl, HB1.out⟩
  by_cases g2 : 100 < m
  · have g1' : ¬ (100 : Int) < (n : Int) := by omega
    have g2' : (100 : Int) < (m : Int) := by omega
    go_wp2_with fail
    go_ret
    exact ⟨rfl, HB1.out⟩
  have g1' : ¬ (100 : Int) < (n : Int) := by omega
  have g2' : ¬ (100 : Int) < (m : Int) := by omega
  have g3 : n ≤ 100 := by omega
  have HC := Lib.hid (fun (W : World) (hb : Below w.heap.size w W) => (show Calls Try.prog 14 #[.slice A1 n c1, .slice A2 m c2] W (RetB W (bars a b)) from by rw [← HN.out, ← HM.out]; exact clash_any ((H1.out.below hb).le hb.size) ((H2.out.below hb).le hb.size) F1.out F2.out (by rw [HN.out]; omega) (by rw [HM.out]; omega)))
  have HW1 := Lib.hid (fun (W : World) (hb : Below w.heap.size w W) => (show Calls Try.prog 13 #[.slice A1 n c1] W (OwnE W a) from by rw [← HN.out]; exact own_any ((H1.out.below hb).le hb.size) (by rw [HN.out]; omega)))
  have HW2 := Lib.hid (fun (W : World) (hb : Below w.heap.size w W) => (show Calls Try.prog 13 #[.slice A2 m c2] W (OwnE W b) from by rw [← HM.out]; exact own_any ((H2.out.below hb).le hb.size) (by rw [HM.out]; omega)))
  have HLA := Lib.hid (show a.length ≤ 100 from by rw [HN.out]; omega)
  have HLB := Lib.hid (show b.length ≤ 100 from by rw [HM.out]; omega)
  have HS1 := Lib.hid HB1.out.size
  have HOWE := Lib.hid (show w1.ownsRow w.heap.size 22 1 (.slice none 0 0) 0 [] from World.ownsRow_nil _ _ _ _)
  unfold OwnE at HW1 HW2
  unfold RetB at HC
  clear g1 g2
  go_upto_region 5 with fail
  go_cut [5] (fun v wx => Hid (OW wx w.heap.size 39 v a) ∧ Hid (Below w.heap.size w wx))
  case first =>
    cases A1 with
    | none =>
      have e := wan_none H1.out
      subst e
      obtain rfl : n = 0 := HN.out.symm
      go_wp2_with fail
      go_meet
      case rel => exact ⟨Lib.hid (World.ownsRow_lit w1 #[] 0 HS1.out (by unfold maxLen; omega) rfl), Lib.hid (HB1.out.alloc HS1.out _)⟩
    | some ad =>
      have HNW := Lib.hid (wan_news H1.out (HB1.out.alloc HS1.out (.cells #[] 39)))
      go_wp2_with (at_builtin; go_loud (refine wpList_append_own_at _ rfl (.tmp 17) (.tmp 18) 22 rfl w.heap.size 39 i0 _ 3 24 Try.underlying22 HI.out HZ.out.1 HZ.out.2.1 HZ.out.2.2 rfl (by decide) (.slice (some ⟨w1.heap.size, 0, none⟩) 0 0) 0 [] rfl (World.ownsRow_lit w1 #[] 0 HS1.out (by unfold maxLen; omega) rfl) ad n c1 (encW a) rfl (by rw [encW_len, HN.out]) HNW.out (encW_one _) (by unfold maxLen; omega) (by omega) (by have := HS1.out; simp; omega) ?_; intro v1 w5 hown1 hgrow1 _ hat1))
      have HOW1 := Lib.hid (show OW w5 w.heap.size 39 v1 a from by
        unfold OW
        rw [Nat.zero_add, List.nil_append] at hown1
        rw [HN.out]; exact hown1)
      have HB5 := Lib.hid ((HB1.out.alloc HS1.out _).grown hgrow1 (by rw [World.size_alloc]; have := HS1.out; omega) (fun g e => by simp [Value.ownBlock] at e; have := HS1.out; omega))
      clear hown1 hgrow1 hat1
      go_meet
      case rel => exact ⟨HOW1, HB5⟩
  case rest =>
    obtain ⟨HX, HBX⟩ := hcut
    have HO := Lib.hid (order_own HX.out F1.out (by have := HLA.out; omega))
    unfold OrdE at HO
    go_wp2_with fail
    refine HO.out.mono ?_
    rintro _ w3 ⟨v6, o, rfl, hord, how, hb⟩
    have HD := Lib.hid hord
    have HL3 := Lib.hid how
    have HX3 := Lib.hid (HX.out.keep (w' := w3) fun g e => hb.block g (HX.out.olt e).2)
    have HB3 := Lib.hid (hp.below_step HBX.out hb)
    clear hord how hb HO HX HBX
    go_wp2_with fail
    refine (HW1.out _ HB3.out).mono ?_
    rintro _ w4 ⟨v24, rfl, how, hb⟩
    have HR := Lib.hid (rorder_own how (by have := HLA.out; omega))
    unfold ROrdE at HR
    have HL4 := Lib.hid (HL3.out.keep (w' := w4) fun g e => hb.block g (HL3.out.olt e).2)
    have HX4 := Lib.hid (HX3.out.keep (w' := w4) fun g e => hb.block g (HX3.out.olt e).2)
    have HB4 := Lib.hid (hp.below_step HB3.out hb)
    clear how hb HL3 HX3 HB3
    go_wp2_with fail
    refine HR.out.mono ?_
    rintro _ w5 ⟨v25, o2, rfl, hord, how, hb⟩
    obtain rfl := hord.uniq HD.out
    have HSM := Lib.hid (same_own (HL4.out.keep (w' := w5) fun g e => hb.block g (HL4.out.olt e).2) how (Nat.le_trans HD.out.len (by have := HLA.out; omega)))
    unfold RetB at HSM
    have HX5 := Lib.hid (HX4.out.keep (w' := w5) fun g e => hb.block g (HX4.out.olt e).2)
    have HB5 := Lib.hid (hp.below_step HB4.out hb)
    clear hord how hb HR HL4 HX4 HB4
    go_wp2_with fail
    refine HSM.out.mono ?_
    rintro _ w6 ⟨rfl, hb⟩
    have HX6 := Lib.hid (HX5.out.keep (w' := w6) fun g e => hb.block g (HX5.out.olt e).2)
    have HB6 := Lib.hid (hp.below_step HB5.out hb)
    clear hb HSM HX5 HB5
    go_wp2_with fail
    refine (HC.out _ HB6.out).mono ?_
    rintro _ w7 ⟨rfl, hb⟩
    have HX7 := Lib.hid (HX6.out.keep (w' := w7) fun g e => hb.block g (HX6.out.olt e).2)
    have HB7 := Lib.hid (hp.below_step HB6.out hb)
    clear hb HC HX6 HB6
    go_wp2_with fail
    refine (HW1.out _ HB7.out).mono ?_
    rintro _ w8 ⟨v32, rfl, how, hb⟩
    have HA8 := Lib.hid how
    have HX8 := Lib.hid (HX7.out.keep (w' := w8) fun g e => hb.block g (HX7.out.olt e).2)
    have HB8 := Lib.hid (hp.below_step HB7.out hb)
    clear how hb HX7 HB7
    go_wp2_with fail
    refine (HW2.out _ HB8.out).mono ?_
    rintro _ w9 ⟨v34, rfl, how, hb⟩
    have HRC := Lib.hid (rclash_own (HA8.out.keep (w' := w9) fun g e => hb.block g (HA8.out.olt e).2) how (by have := HLA.out; omega) (by have := HLB.out; omega))
    unfold RetB at HRC
    have HX9 := Lib.hid (HX8.out.keep (w' := w9) fun g e => hb.block g (HX8.out.olt e).2)
    have HB9 := Lib.hid (hp.below_step HB8.out hb)
    generalize bars a b = bb at *
    clear how hb HX8 HB8 HW2
    go_wp2_with fail
    refine HRC.out.mono ?_
    rintro _ w10 ⟨rfl, hb⟩
    have HX10 := Lib.hid (HX9.out.keep (w' := w10) fun g e => hb.block g (HX9.out.olt e).2)
    have HB10 := Lib.hid (hp.below_step HB9.out hb)
    clear hb HRC HX9 HB9
    go_wp2_with fail
    refine (HW1.out _ HB10.out).mono ?_
    rintro _ w11 ⟨v41, rfl, how, hb⟩
    have HSM := Lib.hid (same_own (HX10.out.keep (w' := w11) fun g e => hb.block g (HX10.out.olt e).2) how (by have := HLA.out; omega))
    unfold RetB at HSM
    have HB11 := Lib.hid (hp.below_step HB10.out hb)
    clear how hb HX10 HB10 HW1
    go_wp2_with fail
    refine HSM.out.mono ?_
    rintro _ w12 ⟨rfl, hb⟩
    have HB12 := Lib.hid (hp.below_step HB11.out hb)
    clear hb HSM
    go_wp2_with fail
    go_ret
    exact ⟨rfl, HB12.out⟩

set_option maxRecDepth 100000 in
theorem lifted (os : Os) (started : os.Started) (H : Type) (enc : TypeId × Value → H) :
    ReturnsInHanded {} Try.checked os 3 .any (Rows.planOrdersSpec.pre6 enc Try.prog Try.f3 Rows.planOrdersRow.domain false) (Rows.planOrdersSpec.post enc Try.prog Try.f3 false true false false) := by
  refine returnsInHanded_of_change (C := Try.checked) own started (by kernel_rfl) Try.func3
    (ChangeSpec.witness6 (enc := enc) (C := Try.checked) false ⟨#[], #[.slice none 0 0, .slice none 0 0], []⟩ 8 (by kernel_rfl) (by kernel_rfl) (by kernel_rfl) (by kernel_rfl)) ?_
  intro W base args ds gs before hval0 hW hcnd _
  have hval : ∀ (j : Nat) t v, Try.f3.params[j]? = some t → args[j]? = some v → Value.okWide Try.prog W .any base t v := hval0
  have hW' := hW
  obtain ⟨p, q, hA0, hV, rfl, hfz, hnd⟩ := hW
  have hA : DataW.TrodAll enc Try.prog W 0 (fun _ => true) true Try.f3.params.toList args.toList ds p := hA0
  rw [Try.params3] at hA hval
  obtain ⟨v0, vs0, d0, ds0, p0, q0, hargs, rfl, rfl, h0, r0⟩ := trodAll_cons hA
  obtain ⟨v1, vs1, d1, ds1, p1, q1, rfl, rfl, rfl, h1, r1⟩ := trodAll_cons r0
  obtain ⟨rfl, rfl, rfl⟩ := trodAll_nil r1
  obtain rfl : args = #[v0, v1] := by cases args; simp_all
  obtain ⟨rfl, rfl⟩ := trodVars_none hV
  have hlt := fun x hx => hW'.lt x hx
  have t0 := h0
  obtain ⟨A0, c0, x0, rfl, e0, s0, f0⟩ := open_wants (hval 0 22 v0 rfl rfl) h0
  have t1 := h1
  obtain ⟨A1, c1, x1, rfl, e1, s1, f1⟩ := open_wants (hval 1 22 v1 rfl rfl) h1
  clear hA0 hval0
  refine (walk A0 c0 x0 A1 c1 x1 W e0 s0 f0 e1 s1 f1).mono fun e W' ⟨he, hg⟩ => ?_
  subst he
  exact ⟨_, rfl, law_post (pv := []) hW' (fun _ _ _ => (trodAll_cons_mk (shut_bool Try.underlying4 _) trodAll_mk0)) (fun sp hsp => (trodAll_cons_mk (arg_stays (by decide) t0 hg (by simp +contextual) hlt hsp laid) (trodAll_cons_mk (arg_stays (by decide) t1 hg (by simp +contextual) hlt hsp laid) trodAll_mk0))) (fun _ _ => rfl) (by simp)
    hg (ok_one (by kernel_rfl) rfl (okWide_bool_mk Try.underlying4 _))⟩

theorem over : Rows.planOrdersRow.holds Try.pinned (OpenSpec.ofChange Rows.planOrdersSpec) :=
  OpenClaim.holds_of_wide 3 Try.f3 rfl rfl rfl rfl rfl rfl rfl ⟨rfl, rfl, rfl, rfl, rfl⟩ rfl rfl rfl rfl rfl (by kernel_rfl) Try.func3 (by kernel_rfl)
    (of_decide_eq_true (by kernel_rfl)) (by unfold Func.isWrapper; first | (rw [if_pos (by decide +kernel)]; kernel_rfl) | (rw [if_neg (by decide +kernel)]; exact ⟨rfl, rfl⟩))
    (fun os started H enc _ => lifted os started H enc)

/-- The statement. -/
theorem proved : Rows.PlanOrdersSaid :=
  over
end Go.Proofs.Ytlplbpilpkmoaaa.planOrders
