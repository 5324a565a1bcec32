/- For any two rows of lines, of any content: the awake calls hold; if one row is too large, nothing is asked; else the code's answer to whether they are the same is the document's, the same both ways round, true of a row and itself, and where it is true the texts are one. No condition. -/
import Derived.Test.YtnnaoldpacbagaaGreatRows
import Derived.Test.YtnnaoldpacbagaaGreatZ32
import Derived.Deep.RegionWith
import Derived.Deep.LoopGhost
import Derived.StillTailTactics
import Derived.Deep.QuietTactic
import Derived.BigQuiet
import Derived.ProofKit
import Derived.OpenShut
import Derived.ShutString
import Derived.SizedLaws
namespace Go.Proofs.YtnnaoldpacbagaaGreat.flatSame
open Go.ChangeShapes Go.WideShapes Go.ChangeAt Go.RowKit
open Go.ChangeMaps (open_string shut_string)
open Go.Proofs.YtnnaoldpacbagaaGreat.fl
open Go.Proofs.YtnnaoldpacbagaaGreat.cb (RetW RetI BrX)
open Go.Proofs.YtnnaoldpacbagaaGreat.br (BS fresh)
open Go.Proofs.YtnnaoldpacbagaaGreat.bl (Pq)
set_option linter.unusedVariables false
set_option linter.unusedSimpArgs false

theorem own : ownKnob Tryz.prog.godebug = none := by kernel_rfl
theorem laid : laidOutB Tryz.prog = true := by kernel_rfl

theorem text_ok {l : List Ln} (h1 : l.length ≤ 301) (h2 : sumS l ≤ 131072) : (textB l).length ≤ 9000000 := by rw [text_size]; omega
set_option maxRecDepth 100000 in
set_option maxHeartbeats 4000000 in
theorem walk (A0 : Option Addr) (c0 : Nat) (l : List Ln) (A1 : Option Addr) (c1 : Nat) (k : List Ln) (w : World) (hl0 : l.length ≤ c0 ∧ c0 ≤ maxLen) (hr0 : LR w w.heap.size A0 l) (hz0 : ∀ x ∈ l, x.path.size ≤ maxLen ∧ x.data.size ≤ maxLen)
    (hl1 : k.length ≤ c1 ∧ c1 ≤ maxLen) (hr1 : LR w w.heap.size A1 k) (hz1 : ∀ x ∈ k, x.path.size ≤ maxLen ∧ x.data.size ≤ maxLen) :
    Calls Tryz.prog 5 #[.slice A0 l.length c0, .slice A1 k.length c1] w (fun e w' => e = .returned (.bool true) ∧ Below w.heap.size w w') := by
  have HA := Lib.hid (awake_any w)
  have m0 : l.length ≤ maxLen := Nat.le_trans hl0.1 hl0.2
  have m1 : k.length ≤ maxLen := Nat.le_trans hl1.1 hl1.2
  have R0 := Lib.hid (fun W (hb : Below w.heap.size w W) => hr0.below (Nat.le_refl _) hb)
  have R1 := Lib.hid (fun W (hb : Below w.heap.size w W) => hr1.below (Nat.le_refl _) hb)
  have HL0 := Lib.hid (fun W (hb : Below w.heap.size w W) => large_any (c := c0) (R0.out W hb) hb.size m0 hz0)
  have HL1 := Lib.hid (fun W (hb : Below w.heap.size w W) => large_any (c := c1) (R1.out W hb) hb.size m1 hz1)
  have HS01 := Lib.hid (fun W (hb : Below w.heap.size w W) => same_any (c := c0) (c' := c1) (R0.out W hb) (R1.out W hb) hb.size m0 m1)
  have HR01 := Lib.hid (fun W (hb : Below w.heap.size w W) => rsame_any (c := c0) (c' := c1) (R0.out W hb) (R1.out W hb) hb.size m0 m1)
  have HS10 := Lib.hid (fun W (hb : Below w.heap.size w W) => same_any (c := c1) (c' := c0) (R1.out W hb) (R0.out W hb) hb.size m1 m0)
  have HS00 := Lib.hid (fun W (hb : Below w.heap.size w W) => same_any (c := c0) (c' := c0) (R0.out W hb) (R0.out W hb) hb.size m0 m0)
  have HSY := Lib.hid (show sameLs k l = sameLs l k by
    cases h : sameLs l k with
    | true => rw [sameLs_iff.1 h]; exact sameLs_iff.2 rfl
    | false =>
      rw [Bool.eq_false_iff]
      intro e
      rw [sameLs_iff.1 e, sameLs_iff.2 rfl] at h
      cases h)
  rw [HSY.out] at HS10
  rw [sameLs_iff.2 rfl] at HS00
  have HT0 := Lib.hid (fun W (hb : Below w.heap.size w W) (hs : (textB l).length ≤ 9000000) => text_any (c := c0) (R0.out W hb) hb.size m0 hs)
  have HT1 := Lib.hid (fun W (hb : Below w.heap.size w W) (hs : (textB k).length ≤ 9000000) => text_any (c := c1) (R1.out W hb) hb.size m1 hs)
  have HEQ := Lib.hid (show sameLs l k = true → l = k from sameLs_iff.1)
  have HOK := Lib.hid (@text_ok l)
  have HOK1 := Lib.hid (@text_ok k)
  unfold AwakeE at HA
  unfold LargeE at HL0 HL1
  unfold RetW at HS01 HR01 HS10 HS00 HT0 HT1
  obtain ⟨r, hr⟩ : ∃ r, sameLs l k = r := ⟨_, rfl⟩
  rw [hr] at HS01 HR01 HS10 HEQ
  have HLK := Lib.hid (show r = true → textV k = textV l from fun e => by rw [HEQ.out e])
  obtain ⟨n0, hn0⟩ : ∃ n, l.length = n := ⟨_, rfl⟩
  obtain ⟨n1, hn1⟩ : ∃ n, k.length = n := ⟨_, rfl⟩
  rw [hn0] at HL0 HS01 HR01 HS10 HS00 HT0 HOK ⊢
  rw [hn1] at HL1 HS01 HR01 HS10 HT1 HOK1 ⊢
  generalize textV l = t0 at *
  generalize textV k = t1 at *
  clear hl0 hr0 hz0 hl1 hr1 hz1 m0 m1 HSY hr R0 R1 hn0 hn1
  go_enter Tryz.func5, Tryz.ntmps5
  go_wp2_with fail
  refine HA.out.mono ?_
  rintro _ w1 ⟨rfl, hb1⟩
  have HB1 := Lib.hid hb1
  clear hb1 HA
  have HP := Lib.hid (HL0.out w1 HB1.out)
  go_wp2_with fail
  refine HP.out.mono ?_
  rintro _ w2 ⟨q0, rfl, hb2, h0⟩
  have HB2 := Lib.hid (HB1.out.trans (hb2.mono HB1.out.size))
  have H0 := Lib.hid h0
  clear hb2 h0 HP HL0
  cases q0 with
  | true =>
    go_wp2_with fail
    go_ret
    exact ⟨rfl, HB2.out⟩
  | false =>
    have HP := Lib.hid (HL1.out w2 HB2.out)
    go_wp2_with fail
    refine HP.out.mono ?_
    rintro _ w3 ⟨q1, rfl, hb3, h1⟩
    have HB3 := Lib.hid (HB2.out.trans (hb3.mono HB2.out.size))
    have H1 := Lib.hid h1
    clear hb3 h1 HP HL1
    cases q1 with
    | true =>
      go_wp2_with fail
      go_ret
      exact ⟨rfl, HB3.out⟩
    | false =>
      have HZ0 := Lib.hid (HOK.out (H0.out (by first | rfl | trivial)).1 (H0.out (by first | rfl | trivial)).2)
      have HZ1 := Lib.hid (HOK1.out (H1.out (by first | rfl | trivial)).1 (H1.out (by first | rfl | trivial)).2)
      clear HOK HOK1 H0 H1
      have HP := Lib.hid (HS01.out w3 HB3.out)
      go_wp2_with fail
      refine HP.out.mono ?_
      rintro _ w4 ⟨rfl, hb4⟩
      have HB4 := Lib.hid (HB3.out.trans (hb4.mono HB3.out.size))
      clear hb4 HP HS01
      have HP := Lib.hid (HR01.out w4 HB4.out)
      go_wp2_with fail
      refine HP.out.mono ?_
      rintro _ w5 ⟨rfl, hb5⟩
      have HB5 := Lib.hid (HB4.out.trans (hb5.mono HB4.out.size))
      clear hb5 HP HR01
      have HP := Lib.hid (HS10.out w5 HB5.out)
      have hrr : (r != r) = false := by cases r <;> rfl
      go_wp2_with fail
      refine HP.out.mono ?_
      rintro _ w6 ⟨rfl, hb6⟩
      have HB6 := Lib.hid (HB5.out.trans (hb6.mono HB5.out.size))
      clear hb6 HP HS10
      have HP := Lib.hid (HS00.out w6 HB6.out)
      go_wp2_with fail
      refine HP.out.mono ?_
      rintro _ w7 ⟨rfl, hb7⟩
      have HB7 := Lib.hid (HB6.out.trans (hb7.mono HB6.out.size))
      clear hb7 HP HS00 hrr
      cases r with
      | false =>
        go_wp2_with fail
        go_ret
        exact ⟨rfl, HB7.out⟩
      | true =>
        have HTT := Lib.hid (HLK.out (by first | rfl | trivial))
        have HP := Lib.hid (HT0.out w7 HB7.out HZ0.out)
        go_wp2_with fail
        refine HP.out.mono ?_
        rintro _ w8 ⟨rfl, hb8⟩
        have HB8 := Lib.hid (HB7.out.trans (hb8.mono HB7.out.size))
        clear hb8 HP HT0
        have HP := Lib.hid (HT1.out w8 HB8.out HZ1.out)
        rw [HTT.out] at HP
        go_wp2_with fail
        refine HP.out.mono ?_
        rintro _ w9 ⟨rfl, hb9⟩
        have HB9 := Lib.hid (HB8.out.trans (hb9.mono HB8.out.size))
        clear hb9 HP HT1
        go_wp2_with fail
        go_ret
        exact ⟨rfl, HB9.out⟩

set_option maxRecDepth 100000 in
theorem lifted (os : Os) (started : os.Started) (H : Type) (enc : TypeId × Value → H) :
    ReturnsInHanded {} Tryz.checked os 5 .any (Rows.flatSameSpec.pre6 enc Tryz.prog Tryz.f5 Rows.flatSameRow.domain false) (Rows.flatSameSpec.post enc Tryz.prog Tryz.f5 false true false false) := by
  refine returnsInHanded_of_change_sized (C := Tryz.checked) own started (by kernel_rfl) Tryz.func5
    (ChangeSpec.witness6 (enc := enc) (C := Tryz.checked) false ⟨#[], #[.slice none 0 0, .slice none 0 0], []⟩ 8 (by kernel_rfl) (by kernel_rfl) (by kernel_rfl) (by kernel_rfl)) ?_
  intro W base args ds gs before hval0 hW hcnd hsz _
  have hval : ∀ (j : Nat) t v, Tryz.f5.params[j]? = some t → args[j]? = some v → Value.okWide Tryz.prog W .any base t v := hval0
  have hW' := hW
  obtain ⟨p, q, hA0, hV, rfl, hfz, hnd⟩ := hW
  have hA : DataW.TrodAll enc Tryz.prog W 0 (fun _ => true) true Tryz.f5.params.toList args.toList ds p := hA0
  rw [Tryz.params5] at hA hval
  obtain ⟨v0, vs0, d0, ds0, p0, q0, hargs, rfl, rfl, h0, r0⟩ := trodAll_cons hA
  obtain ⟨v1, vs1, d1, ds1, p1, q1, rfl, rfl, rfl, h1, r1⟩ := trodAll_cons r0
  obtain ⟨rfl, rfl, rfl⟩ := trodAll_nil r1
  obtain rfl : args = #[v0, v1] := by cases args; simp_all
  obtain ⟨rfl, rfl⟩ := trodVars_none hV
  have hlt := fun x hx => hW'.lt x hx
  have t0 := h0
  obtain ⟨A0, c0, l0, rfl, e0, s0, z0⟩ := fl.open_lines (hval 0 70 v0 rfl rfl) h0
  have t1 := h1
  obtain ⟨A1, c1, l1, rfl, e1, s1, z1⟩ := fl.open_lines (hval 1 70 v1 rfl rfl) h1
  clear hA0 hval0
  refine (walk A0 c0 l0 A1 c1 l1 W e0 s0 z0 e1 s1 z1).mono fun e W' ⟨he, hg⟩ => ?_
  subst he
  exact ⟨_, rfl, cb.law_post (pv := []) hW' (fun _ _ _ => (trodAll_cons_mk (shut_bool Tryz.underlying4 _) trodAll_mk0)) (fun sp hsp => (trodAll_cons_mk (fl.lines_stay t0 hg (by simp +contextual) hlt hsp laid) (trodAll_cons_mk (fl.lines_stay t1 hg (by simp +contextual) hlt hsp laid) trodAll_mk0))) (fun _ _ => rfl) (by simp)
    hg (ok_one (by kernel_rfl) rfl (okWide_bool_mk Tryz.underlying4 _))⟩

theorem over : Rows.flatSameRow.holds Tryz.pinned (OpenSpec.ofChange Rows.flatSameSpec) :=
  OpenClaim.holds_of_wide 5 Tryz.f5 rfl rfl rfl rfl rfl rfl rfl ⟨rfl, rfl, rfl, rfl, rfl⟩ rfl rfl rfl rfl rfl (by kernel_rfl) Tryz.func5 (by kernel_rfl)
    (of_decide_eq_true (by kernel_rfl)) (by unfold Func.isWrapper; first | (rw [if_pos (by decide +kernel)]; kernel_rfl) | (rw [if_neg (by decide +kernel)]; exact ⟨rfl, rfl⟩))
    (fun os started H enc _ => lifted os started H enc)

/-- The statement. -/
theorem proved : Rows.FlatSameSaid :=
  over
end Go.Proofs.YtnnaoldpacbagaaGreat.flatSame
