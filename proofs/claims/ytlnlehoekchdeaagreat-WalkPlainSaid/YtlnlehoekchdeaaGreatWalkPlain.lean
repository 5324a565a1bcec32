/- For every list of acts and every text the law WalkPlain returns true, and what is handed in reads as it did; there are no conditions. -/
import Derived.Test.YtlnlehoekchdeaaGreatZ45
import Derived.Deep.RegionWith
import Derived.Deep.QuietTactic
import Derived.BigQuiet
import Derived.ProofKit
import Derived.OpenShut
import Derived.ShutString
import Derived.SizedLaws
namespace Go.Proofs.YtlnlehoekchdeaaGreat.walkPlain
open Go.ChangeShapes Go.WideShapes Go.ChangeAt Go.RowKit
open Go.ChangeMaps (open_string shut_string)
open Go.Proofs.YtlnlehoekchdeaaGreat.cb
set_option linter.unusedVariables false

theorem own : ownKnob Tryz.prog.godebug = none := by kernel_rfl
theorem laid : laidOutB Tryz.prog = true := by kernel_rfl

open Go.Deep
open Go.Proofs.YtlnlehoekchdeaaGreat.br
open Go.Proofs.YtlnlehoekchdeaaGreat.bl (Pq)
theorem plain_at (S : BS) (s : ByteArray) : ((atR S s false).2 = 0 ∧ S.kindOf (atR S s false).1.2.2 = 3) ∨ atR S s true = atR S s false := by
  unfold atR
  by_cases h : wk.pe s ≠ 0
  · rw [if_pos h, if_pos h]; exact .inr rfl
  · rw [if_neg h, if_neg h]
    exact wk.walk_plain (trS S) 40 1 (wk.pn s) (wk.pd s)
set_option maxHeartbeats 4000000 in
set_option maxRecDepth 100000 in
theorem walk (A : Option Addr) (n c : Nat) (F : Nat → Act6) (s : ByteArray) (w : World) (k1 : n ≤ c ∧ c ≤ maxLen) (hF : Acts w w.heap.size A n F) (ws : s.size ≤ 140737488351232) :
    Calls Tryz.prog 8 #[.slice A n c, .string s] w (AwakeE w) := by
  have hnm : n ≤ maxLen := Nat.le_trans k1.1 k1.2
  have HBD := Lib.hid (fun w1 (hb : Below w.heap.size w w1) => bld_any A n c F w w1 hnm hF hb)
  clear k1 hF hnm
  go_enter Tryz.func8, Tryz.ntmps8
  go_wp2_with fail
  refine (awake_any _).mono ?_
  rintro _ w1 ⟨rfl, hb1⟩
  have HB1 := Lib.hid (HBD.out _ hb1)
  clear hb1 HBD
  go_wp2_with fail
  refine HB1.out.mono ?_
  rintro _ w2 ⟨ok, P, D, S, rfl, h2⟩
  have H2 := Lib.hid h2
  clear h2 HB1
  cases ok with
  | false =>
    go_wp2_with fail
    go_ret
    exact ⟨rfl, H2.out.bel⟩
  | true =>
    have A1 := Lib.hid (atw_any H2.out.ctr s false)
    have A2 := Lib.hid (fun W (h : Ctr W P S) => atw_any h s true)
    have PL := Lib.hid (plain_at S s)
    obtain ⟨R1, hR1⟩ : ∃ R, atR S s false = R := ⟨_, rfl⟩
    obtain ⟨R2, hR2⟩ : ∃ R, atR S s true = R := ⟨_, rfl⟩
    rw [hR1] at A1 PL
    rw [hR2] at A2 PL
    clear hR1 hR2
    obtain ⟨⟨xa, xn, xi⟩, xe⟩ := R1
    obtain ⟨⟨ya, yn, yi⟩, ye⟩ := R2
    unfold TopE FoundV at A1 A2
    dsimp only at A1 A2 PL
    have hg := guard32
    have hq := fun W => run_eql32 (xa, xn, xi) (xa, xn, xi) W
    rw [decide_eq_true rfl] at hq
    try dsimp only at hq
    go_wp2_with fail
    refine A1.out.mono ?_
    rintro _ w3 ⟨rfl, hb3⟩
    have H3 := Lib.hid (H2.out.below hb3)
    have F1 := Lib.hid (Fb.new w3 (xa, xn, xi))
    obtain ⟨G1, hG1⟩ : ∃ G, w3.heap.size = G := ⟨_, rfl⟩
    rw [hG1] at F1
    dsimp only at F1
    clear hb3 H2 A1
    go_wp2_with fail
    refine (A2.out _ (H3.out.below (dn.below_alloc _ _)).ctr).mono ?_
    rintro _ w4 ⟨rfl, hb4⟩
    have H4 := Lib.hid (fun ob => (H3.out.below (dn.below_alloc _ _)).below (dn.below_step hb4 (dn.below_alloc w4 ob)))
    have F14 := Lib.hid (F1.out.below hb4)
    clear hG1
    have F2 := Lib.hid (Fb.new w4 (ya, yn, yi))
    obtain ⟨G2, hG2⟩ : ∃ G, w4.heap.size = G := ⟨_, rfl⟩
    rw [hG2] at F2
    dsimp only at F2
    clear hb4 H3 A2 F1
    have p0 : ∀ ob, (w4.alloc ob).cell? ⟨G1, 0, none⟩ = some (.int .i64 xa) := fun ob => ((F14.out).below (dn.below_alloc w4 ob)).1
    have p1 : ∀ ob, (w4.alloc ob).cell? ⟨G1, 1, none⟩ = some (.string xn) := fun ob => ((F14.out).below (dn.below_alloc w4 ob)).2.1
    have p2 : ∀ ob, (w4.alloc ob).cell? ⟨G1, 2, none⟩ = some (.int .i64 xi) := fun ob => ((F14.out).below (dn.below_alloc w4 ob)).2.2
    by_cases hx : xe = 0
    · subst hx
      have HK := Lib.hid (fun ob => x_kind (H4.out ob) xi)
      unfold RetI at HK
      by_cases h3 : S.kindOf xi = 3
      · rw [h3] at HK
        go_wp2_with fail
        refine (HK.out _).mono ?_
        rintro _ w5 ⟨rfl, hb5⟩
        have HF := Lib.hid (((H4.out _).below hb5).bel)
        clear hb5
        go_wp2_with fail
        go_ret
        exact ⟨rfl, HF.out⟩
      · have hr : ((ya, yn, yi), ye) = ((xa, xn, xi), (0 : Int)) := by
          rcases PL.out with ⟨_, e⟩ | e
          · exact absurd e h3
          · exact e
        simp only [Prod.mk.injEq] at hr
        obtain ⟨⟨rfl, rfl, rfl⟩, rfl⟩ := hr
        have q3 : (S.kindOf yi == 3) = false := by simpa using h3
        generalize S.kindOf yi = kk at *
        clear h3 PL
        go_wp2_with fail
        refine (HK.out _).mono ?_
        rintro _ w5 ⟨rfl, hb5⟩
        have L1 := (F14.out.below (dn.below_alloc w4 _)).below hb5
        have L2 := F2.out.below hb5
        have HF := Lib.hid (((H4.out _).below hb5).bel)
        have c0 := (L1).1
        have c1 := (L1).2.1
        have c2 := (L1).2.2
        have d0 := (L2).1
        have d1 := (L2).2.1
        have d2 := (L2).2.2
        clear hb5 L1 L2 hG2
        dsimp only at c0 c1 c2 d0 d1 d2
        go_wp2_with fail
        go_ret
        exact ⟨rfl, HF.out⟩
    · have hr : ((ya, yn, yi), ye) = ((xa, xn, xi), xe) := by
        rcases PL.out with ⟨e, _⟩ | e
        · exact absurd e hx
        · exact e
      simp only [Prod.mk.injEq] at hr
      obtain ⟨⟨rfl, rfl, rfl⟩, rfl⟩ := hr
      have qx : (ye == 0) = false := by simpa using hx
      have hqe : (ye == ye) = true := by simp
      clear hx PL
      go_wp2_with fail
      go_ret
      exact ⟨by simp, (H4.out _).bel⟩

set_option maxRecDepth 100000 in
theorem lifted (os : Os) (started : os.Started) (H : Type) (enc : TypeId × Value → H) :
    ReturnsInHanded {} Tryz.checked os 8 .any (Rows.walkPlainSpec.pre6 enc Tryz.prog Tryz.f8 Rows.walkPlainRow.domain false) (Rows.walkPlainSpec.post enc Tryz.prog Tryz.f8 false true false false) := by
  refine returnsInHanded_of_change_sized (C := Tryz.checked) own started (by kernel_rfl) Tryz.func8
    (ChangeSpec.witness6 (enc := enc) (C := Tryz.checked) false ⟨#[], #[.slice none 0 0, .string ByteArray.empty], []⟩ 8 (by kernel_rfl) (by kernel_rfl) (by kernel_rfl) (by kernel_rfl)) ?_
  intro W base args ds gs before hval0 hW hcnd hsz _
  have hval : ∀ (j : Nat) t v, Tryz.f8.params[j]? = some t → args[j]? = some v → Value.okWide Tryz.prog W .any base t v := hval0
  have hW' := hW
  obtain ⟨p, q, hA0, hV, rfl, hfz, hnd⟩ := hW
  have hA : DataW.TrodAll enc Tryz.prog W 0 (fun _ => true) true Tryz.f8.params.toList args.toList ds p := hA0
  rw [Tryz.params8] at hA hval
  obtain ⟨v0, vs0, d0, ds0, p0, q0, hargs, rfl, rfl, h0, r0⟩ := trodAll_cons hA
  obtain ⟨v1, vs1, d1, ds1, p1, q1, rfl, rfl, rfl, h1, r1⟩ := trodAll_cons r0
  obtain ⟨rfl, rfl, rfl⟩ := trodAll_nil r1
  obtain rfl : args = #[v0, v1] := by cases args; simp_all
  obtain ⟨rfl, rfl⟩ := trodVars_none hV
  have hlt := fun x hx => hW'.lt x hx
  have t0 := h0
  obtain ⟨A0, n0, c0, x0, rfl, e0, s0⟩ := open_acts (hval 0 22 v0 rfl rfl) h0
  obtain ⟨a1, rfl, rfl, rfl, w1⟩ := open_string Tryz.underlying9 (hval 1 9 v1 rfl rfl) h1
  have b1 : a1.size ≤ 140737488351232 := by
    have := sized_string hsz (j := 1) (t := 9) rfl rfl
    simpa [reachBytes] using this
  clear hA0 hval0
  refine (walk A0 n0 c0 x0 a1 W e0 s0 b1).mono fun e W' ⟨he, hg⟩ => ?_
  subst he
  exact ⟨_, rfl, law_post (pv := []) hW' (fun _ _ _ => (trodAll_cons_mk (shut_bool Tryz.underlying4 _) trodAll_mk0)) (fun sp hsp => (trodAll_cons_mk (arg_stays t0 hg (by simp +contextual) hlt hsp laid) (trodAll_cons_mk (shut_string Tryz.underlying9 w1) trodAll_mk0))) (fun _ _ => rfl) (by simp)
    hg (ok_one (by kernel_rfl) rfl (okWide_bool_mk Tryz.underlying4 _))⟩

theorem over : Rows.walkPlainRow.holds Tryz.pinned (OpenSpec.ofChange Rows.walkPlainSpec) :=
  OpenClaim.holds_of_wide 8 Tryz.f8 rfl rfl rfl rfl rfl rfl rfl ⟨rfl, rfl, rfl, rfl, rfl⟩ rfl rfl rfl rfl rfl (by kernel_rfl) Tryz.func8 (by kernel_rfl)
    (of_decide_eq_true (by kernel_rfl)) (by unfold Func.isWrapper; first | (rw [if_pos (by decide +kernel)]; kernel_rfl) | (rw [if_neg (by decide +kernel)]; exact ⟨rfl, rfl⟩))
    (fun os started H enc _ => lifted os started H enc)

/-- The statement. -/
theorem proved : Rows.WalkPlainSaid :=
  over
end Go.Proofs.YtlnlehoekchdeaaGreat.walkPlain
