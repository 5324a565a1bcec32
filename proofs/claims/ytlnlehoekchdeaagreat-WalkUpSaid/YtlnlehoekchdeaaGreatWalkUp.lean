/- For every list of acts and every two texts the law WalkUp returns true, and what is handed in reads as it did; there are no conditions. -/
import Derived.Test.YtlnlehoekchdeaaGreatZ46
import Derived.Deep.RegionWith
import Derived.Deep.QuietTactic
import Derived.BigQuiet
import Derived.ProofKit
import Derived.OpenShut
import Derived.ShutString
import Derived.SizedLaws
namespace Go.Proofs.YtlnlehoekchdeaaGreat.walkUp
open Go.ChangeShapes Go.WideShapes Go.ChangeAt Go.RowKit
open Go.ChangeMaps (open_string shut_string)
open Go.Proofs.YtlnlehoekchdeaaGreat.cb
set_option linter.unusedVariables false

theorem own : ownKnob Tryz.prog.godebug = none := by kernel_rfl
theorem laid : laidOutB Tryz.prog = true := by kernel_rfl

open Go.Deep
open Go.Proofs.YtlnlehoekchdeaaGreat.br
open Go.Proofs.YtlnlehoekchdeaaGreat.bl (Pq)
set_option maxHeartbeats 4000000 in
set_option maxRecDepth 100000 in
theorem walk (A : Option Addr) (n c : Nat) (F : Nat → Act6) (s nm : ByteArray) (w : World) (k1 : n ≤ c ∧ c ≤ maxLen) (hF : Acts w w.heap.size A n F) (ws : s.size ≤ 140737488351232) (wn : nm.size ≤ 140737488351232) :
    Calls Tryz.prog 6 #[.slice A n c, .string s, .string nm] w (AwakeE w) := by
  have hnm : n ≤ maxLen := Nat.le_trans k1.1 k1.2
  have HBD := Lib.hid (fun w1 (hb : Below w.heap.size w w1) => bld_any A n c F w w1 hnm hF hb)
  clear k1 hF hnm
  go_enter Tryz.func6, Tryz.ntmps6
  go_wp2_with fail
  refine (awake_any _).mono ?_
  rintro _ w1 ⟨rfl, hb1⟩
  have HB1 := Lib.hid (HBD.out _ hb1)
  clear hb1 HBD
  go_wp2_with fail
  refine HB1.out.mono ?_
  rintro _ w2 ⟨ok, P, D, S, rfl, h2⟩
  have H2 := Lib.hid h2
  clear h2 HB1
  cases ok with
  | false =>
    go_wp2_with fail
    go_ret
    exact ⟨rfl, H2.out.bel⟩
  | true =>
    have z1 : (⟨#[47, 46]⟩ : ByteArray).size = 2 := rfl
    have z2 : (⟨#[47]⟩ : ByteArray).size = 1 := rfl
    have z3 : (⟨#[47, 46, 46]⟩ : ByteArray).size = 3 := rfl
    have l1 : (s.size : Int) + 2 ≤ 9223372036854775807 := by omega
    have l2 : s.size + 2 + 1 ≤ 9223372036854775807 := by omega
    have l3 : (s ++ ⟨#[47, 46]⟩).size + 1 ≤ 9223372036854775807 := by rw [ByteArray.size_append, z1]; omega
    have m2 : s.size + 1 + 1 ≤ 9223372036854775807 := by omega
    have m3 : (s ++ ⟨#[47]⟩).size + 1 ≤ 9223372036854775807 := by rw [ByteArray.size_append, z2]; omega
    have m4 : (s ++ ⟨#[47]⟩).size + nm.size + 1 ≤ 9223372036854775807 := by rw [ByteArray.size_append, z2]; omega
    have m4' : s.size + 1 + nm.size + 1 ≤ 9223372036854775807 := by omega
    have m5 : (s ++ ⟨#[47]⟩ ++ nm).size + 1 ≤ 9223372036854775807 := by rw [ByteArray.size_append, ByteArray.size_append, z2]; omega
    have m6 : (s ++ ⟨#[47]⟩ ++ nm).size + 3 + 1 ≤ 9223372036854775807 := by rw [ByteArray.size_append, ByteArray.size_append, z2]; omega
    have m6' : s.size + 1 + nm.size + 3 + 1 ≤ 9223372036854775807 := by omega
    have m7 : (s ++ ⟨#[47]⟩ ++ nm ++ ⟨#[47, 46, 46]⟩).size + 1 ≤ 9223372036854775807 := by rw [ByteArray.size_append, ByteArray.size_append, ByteArray.size_append, z2, z3]; omega
    have A1 := Lib.hid (atw_any H2.out.ctr (s ++ ⟨#[47, 46]⟩) true)
    have A2 := Lib.hid (fun W (h : Ctr W P S) => atw_any h (s ++ ⟨#[47]⟩ ++ nm ++ ⟨#[47, 46, 46]⟩) true)
    have PL := Lib.hid (fun xi i => up_at H2.out.good s nm (xi := xi) (i := i))
    obtain ⟨R1, hR1⟩ : ∃ R, atR S (s ++ ⟨#[47, 46]⟩) true = R := ⟨_, rfl⟩
    obtain ⟨R2, hR2⟩ : ∃ R, atR S (s ++ ⟨#[47]⟩ ++ nm ++ ⟨#[47, 46, 46]⟩) true = R := ⟨_, rfl⟩
    rw [hR1] at A1 PL
    rw [hR2] at A2 PL
    clear hR1 hR2
    obtain ⟨⟨xa, xn, xi⟩, xe⟩ := R1
    obtain ⟨⟨ya, yn, yi⟩, ye⟩ := R2
    unfold TopE FoundV at A1 A2
    dsimp only at A1 A2 PL
    go_wp2_with fail
    refine A1.out.mono ?_
    rintro _ w3 ⟨rfl, hb3⟩
    have H3 := Lib.hid (fun ob => (H2.out.below hb3).below (dn.below_alloc w3 ob))
    have F1 := Lib.hid (Fb.new w3 (xa, xn, xi))
    obtain ⟨G1, hG1⟩ : ∃ G, w3.heap.size = G := ⟨_, rfl⟩
    rw [hG1] at F1
    dsimp only at F1
    clear hb3 H2 A1
    by_cases hx : xe = 0
    case neg =>
      have qx : (xe != 0) = true := by simpa using hx
      go_wp2_with fail
      go_ret
      exact ⟨rfl, (H3.out _).bel⟩
    subst hx
    have HGT := Lib.hid (fun ob => x_get (H3.out ob) xi nm)
    obtain ⟨gv, hgv⟩ : ∃ gv, S.get xi nm = gv := ⟨_, rfl⟩
    have HGV := Lib.hid hgv
    rw [hgv] at HGT
    clear hgv
    obtain ⟨i, f⟩ := gv
    unfold RetW at HGT
    dsimp only at HGT
    go_wp2_with fail
    refine (HGT.out _).mono ?_
    rintro _ w4 ⟨rfl, hb4⟩
    have H4 := Lib.hid ((H3.out _).below hb4)
    have F4 := Lib.hid (F1.out.below hb4)
    clear hb4 H3 F1 hG1
    by_cases hf : f = 0
    case neg =>
      have qf : (f != 0) = true := by simpa using hf
      go_wp2_with fail
      go_ret
      exact ⟨rfl, H4.out.bel⟩
    subst hf
    have HK := Lib.hid (x_kind H4.out i)
    unfold RetI at HK
    obtain ⟨kk, hkk⟩ : ∃ kk, S.kindOf i = kk := ⟨_, rfl⟩
    have HKK := Lib.hid hkk
    rw [hkk] at HK
    clear hkk
    by_cases hk : kk = 2
    case neg =>
      have qk : (kk != 2) = true := by simpa using hk
      go_wp2_with fail
      refine HK.out.mono ?_
      rintro _ w5 ⟨rfl, hb5⟩
      have HF := Lib.hid (H4.out.below hb5).bel
      clear hb5
      go_wp2_with fail
      go_ret
      exact ⟨rfl, HF.out⟩
    subst hk
    have hup := PL.out xi i trivial rfl HGV.out HKK.out
    have HUP := Lib.hid hup
    clear hup PL
    go_wp2_with fail
    refine HK.out.mono ?_
    rintro _ w5 ⟨rfl, hb5⟩
    have H5 := Lib.hid (H4.out.below hb5)
    have F5 := Lib.hid (F4.out.below hb5)
    clear hb5 H4 F4 HK
    go_wp2_with fail
    refine (A2.out _ H5.out.ctr).mono ?_
    rintro _ w6 ⟨rfl, hb6⟩
    have H6 := Lib.hid (fun ob => (H5.out.below hb6).below (dn.below_alloc w6 ob))
    have F6 := Lib.hid (F5.out.below hb6)
    have p0 : ∀ ob, (w6.alloc ob).cell? ⟨G1, 0, none⟩ = some (.int .i64 xa) := fun ob => ((F6.out).below (dn.below_alloc w6 ob)).1
    have p1 : ∀ ob, (w6.alloc ob).cell? ⟨G1, 1, none⟩ = some (.string xn) := fun ob => ((F6.out).below (dn.below_alloc w6 ob)).2.1
    have p2 : ∀ ob, (w6.alloc ob).cell? ⟨G1, 2, none⟩ = some (.int .i64 xi) := fun ob => ((F6.out).below (dn.below_alloc w6 ob)).2.2
    clear hb6 H5 F5 A2
    rcases HUP.out with rfl | h
    · go_wp2_with fail
      go_ret
      exact ⟨rfl, (H6.out _).bel⟩
    · simp only [Prod.mk.injEq] at h
      obtain ⟨⟨rfl, rfl, rfl⟩, rfl⟩ := h
      go_wp2_with fail
      go_ret
      exact ⟨by simp, (H6.out _).bel⟩

set_option maxRecDepth 100000 in
theorem lifted (os : Os) (started : os.Started) (H : Type) (enc : TypeId × Value → H) :
    ReturnsInHanded {} Tryz.checked os 6 .any (Rows.walkUpSpec.pre6 enc Tryz.prog Tryz.f6 Rows.walkUpRow.domain false) (Rows.walkUpSpec.post enc Tryz.prog Tryz.f6 false true false false) := by
  refine returnsInHanded_of_change_sized (C := Tryz.checked) own started (by kernel_rfl) Tryz.func6
    (ChangeSpec.witness6 (enc := enc) (C := Tryz.checked) false ⟨#[], #[.slice none 0 0, .string ByteArray.empty, .string ByteArray.empty], []⟩ 8 (by kernel_rfl) (by kernel_rfl) (by kernel_rfl) (by kernel_rfl)) ?_
  intro W base args ds gs before hval0 hW hcnd hsz _
  have hval : ∀ (j : Nat) t v, Tryz.f6.params[j]? = some t → args[j]? = some v → Value.okWide Tryz.prog W .any base t v := hval0
  have hW' := hW
  obtain ⟨p, q, hA0, hV, rfl, hfz, hnd⟩ := hW
  have hA : DataW.TrodAll enc Tryz.prog W 0 (fun _ => true) true Tryz.f6.params.toList args.toList ds p := hA0
  rw [Tryz.params6] at hA hval
  obtain ⟨v0, vs0, d0, ds0, p0, q0, hargs, rfl, rfl, h0, r0⟩ := trodAll_cons hA
  obtain ⟨v1, vs1, d1, ds1, p1, q1, rfl, rfl, rfl, h1, r1⟩ := trodAll_cons r0
  obtain ⟨v2, vs2, d2, ds2, p2, q2, rfl, rfl, rfl, h2, r2⟩ := trodAll_cons r1
  obtain ⟨rfl, rfl, rfl⟩ := trodAll_nil r2
  obtain rfl : args = #[v0, v1, v2] := by cases args; simp_all
  obtain ⟨rfl, rfl⟩ := trodVars_none hV
  have hlt := fun x hx => hW'.lt x hx
  have t0 := h0
  obtain ⟨A0, n0, c0, x0, rfl, e0, s0⟩ := open_acts (hval 0 22 v0 rfl rfl) h0
  obtain ⟨a1, rfl, rfl, rfl, w1⟩ := open_string Tryz.underlying9 (hval 1 9 v1 rfl rfl) h1
  have b1 : a1.size ≤ 140737488351232 := by
    have := sized_string hsz (j := 1) (t := 9) rfl rfl
    simpa [reachBytes] using this
  obtain ⟨a2, rfl, rfl, rfl, w2⟩ := open_string Tryz.underlying9 (hval 2 9 v2 rfl rfl) h2
  have b2 : a2.size ≤ 140737488351232 := by
    have := sized_string hsz (j := 2) (t := 9) rfl rfl
    simpa [reachBytes] using this
  clear hA0 hval0
  refine (walk A0 n0 c0 x0 a1 a2 W e0 s0 b1 b2).mono fun e W' ⟨he, hg⟩ => ?_
  subst he
  exact ⟨_, rfl, law_post (pv := []) hW' (fun _ _ _ => (trodAll_cons_mk (shut_bool Tryz.underlying4 _) trodAll_mk0)) (fun sp hsp => (trodAll_cons_mk (arg_stays t0 hg (by simp +contextual) hlt hsp laid) (trodAll_cons_mk (shut_string Tryz.underlying9 w1) (trodAll_cons_mk (shut_string Tryz.underlying9 w2) trodAll_mk0)))) (fun _ _ => rfl) (by simp)
    hg (ok_one (by kernel_rfl) rfl (okWide_bool_mk Tryz.underlying4 _))⟩

theorem over : Rows.walkUpRow.holds Tryz.pinned (OpenSpec.ofChange Rows.walkUpSpec) :=
  OpenClaim.holds_of_wide 6 Tryz.f6 rfl rfl rfl rfl rfl rfl rfl ⟨rfl, rfl, rfl, rfl, rfl⟩ rfl rfl rfl rfl rfl (by kernel_rfl) Tryz.func6 (by kernel_rfl)
    (of_decide_eq_true (by kernel_rfl)) (by unfold Func.isWrapper; first | (rw [if_pos (by decide +kernel)]; kernel_rfl) | (rw [if_neg (by decide +kernel)]; exact ⟨rfl, rfl⟩))
    (fun os started H enc _ => lifted os started H enc)

/-- The statement. -/
theorem proved : Rows.WalkUpSaid :=
  over
end Go.Proofs.YtlnlehoekchdeaaGreat.walkUp
