/- For every list of acts, every text and both ways of following the law WalkHas returns true, and what is handed in reads as it did; there are no conditions. -/
import Derived.Test.YtlnlehoekchdeaaGreatZ45
import Derived.Deep.RegionWith
import Derived.Deep.QuietTactic
import Derived.BigQuiet
import Derived.ProofKit
import Derived.OpenShut
import Derived.ShutString
import Derived.SizedLaws
namespace Go.Proofs.YtlnlehoekchdeaaGreat.walkHas
open Go.ChangeShapes Go.WideShapes Go.ChangeAt Go.RowKit
open Go.ChangeMaps (open_string shut_string)
open Go.Proofs.YtlnlehoekchdeaaGreat.cb
set_option linter.unusedVariables false

theorem own : ownKnob Tryz.prog.godebug = none := by kernel_rfl
theorem laid : laidOutB Tryz.prog = true := by kernel_rfl

open Go.Deep
open Go.Proofs.YtlnlehoekchdeaaGreat.br
open Go.Proofs.YtlnlehoekchdeaaGreat.bl (Pq)
theorem has_at {S : BS} {room : Nat} (hG : br.Good S room) (s : ByteArray) (fol : Bool) : wk.Fnd (trS S) fol (wk.pd s) (atR S s fol) := by
  have hL := live_of hG
  unfold atR
  by_cases hp : wk.pe s ≠ 0
  · rw [if_pos hp]; exact .inr (.inr (.inr ⟨hp, rfl⟩))
  · rw [if_neg hp]
    exact wk.walk_has (trS S) hL fol 40 1 (wk.pn s) (wk.pd s) hL.root.1 (fun _ => hL.root.2) (wk.pn_ne _)
set_option maxHeartbeats 4000000 in
set_option maxRecDepth 100000 in
theorem walk (A : Option Addr) (n c : Nat) (F : Nat → Act6) (s : ByteArray) (fol : Bool) (w : World) (k1 : n ≤ c ∧ c ≤ maxLen) (hF : Acts w w.heap.size A n F) (ws : s.size ≤ 140737488351232) :
    Calls Tryz.prog 4 #[.slice A n c, .string s, .bool fol] w (AwakeE w) := by
  have hnm : n ≤ maxLen := Nat.le_trans k1.1 k1.2
  have HBD := Lib.hid (fun w1 (hb : Below w.heap.size w w1) => bld_any A n c F w w1 hnm hF hb)
  clear k1 hF hnm
  go_enter Tryz.func4, Tryz.ntmps4
  go_wp2_with fail
  refine (awake_any _).mono ?_
  rintro _ w1 ⟨rfl, hb1⟩
  have HB1 := Lib.hid (HBD.out _ hb1)
  clear hb1 HBD
  go_wp2_with fail
  refine HB1.out.mono ?_
  rintro _ w2 ⟨ok, P, D, S, rfl, h2⟩
  have H2 := Lib.hid h2
  clear h2 HB1
  cases ok with
  | false =>
    go_wp2_with fail
    go_ret
    exact ⟨rfl, H2.out.bel⟩
  | true =>
    have A1 := Lib.hid (atw_any H2.out.ctr s fol)
    have PL := Lib.hid (has_at H2.out.good s fol)
    obtain ⟨R1, hR1⟩ : ∃ R, atR S s fol = R := ⟨_, rfl⟩
    rw [hR1] at A1 PL
    clear hR1
    obtain ⟨⟨xa, xn, xi⟩, xe⟩ := R1
    unfold TopE FoundV at A1
    unfold wk.Fnd at PL
    dsimp only at A1 PL
    have hg := guard32
    have he0 : ∀ W, (binOp .eql 32 (.agg #[.int .i64 0, .string ⟨#[]⟩, .int .i64 0]) (.agg #[.int .i64 0, .string ⟨#[]⟩, .int .i64 0])).run Tryz.prog W = .ok (.bool true) W := fun W => run_eql32 (0, ⟨#[]⟩, 0) (0, ⟨#[]⟩, 0) W
    go_wp2_with fail
    refine A1.out.mono ?_
    rintro _ w3 ⟨rfl, hb3⟩
    have H3 := Lib.hid (fun ob => (H2.out.below hb3).below (dn.below_alloc w3 ob))
    have F1 := Lib.hid (Fb.new w3 (xa, xn, xi))
    obtain ⟨G1, hG1⟩ : ∃ G, w3.heap.size = G := ⟨_, rfl⟩
    rw [hG1] at F1
    dsimp only at F1
    clear hb3 H2 A1
    rcases PL.out with ⟨rfl, hn, rfl, hk⟩ | ⟨rfl, hn, hget, hd, hf⟩ | ⟨rfl, hn, hget, rfl⟩ | ⟨hne, hr⟩
    · have hn' : xn = ⟨#[]⟩ := hn
      subst hn'
      have HK := Lib.hid (fun ob => x_kind (H3.out ob) xa)
      unfold RetI at HK
      rw [show S.kindOf xa = 2 from hk] at HK
      clear PL hn hk
      go_wp2_with fail
      refine (HK.out _).mono ?_
      rintro _ w5 ⟨rfl, hb5⟩
      have HF := Lib.hid (((H3.out _).below hb5).bel)
      clear hb5
      go_wp2_with fail
      go_ret
      exact ⟨rfl, HF.out⟩
    · have hxn : (xn.toList == []) = false := by
        rw [show ([] : List UInt8) = (⟨#[]⟩ : ByteArray).toList from by rw [Lib.toList_data], dn.beq_names]; exact decide_eq_false hn
      have hxn2 : (xn.toList != []) = true := by simp [bne, hxn]
      have hget' : S.get xa xn = (xi, 0) := hget
      have HGT := Lib.hid (fun ob => x_get (H3.out ob) xa xn)
      rw [hget'] at HGT
      unfold RetW at HGT
      have HP := Lib.hid (fun W => pa.parse_any s W)
      unfold pa.ParseE at HP
      have HPD := Lib.hid (show pa.pdirE s.data.toList = wk.pd s from rfl)
      obtain ⟨dd, hdd⟩ : ∃ dd, wk.pd s = dd := ⟨_, rfl⟩
      rw [HPD.out, hdd] at HP
      rw [hdd] at hd
      have HDD := Lib.hid hd
      have HFF := Lib.hid hf
      have HKK := Lib.hid (fun W (h : BrX w W P No S 9 60) => x_kind h xi)
      unfold RetI at HKK
      obtain ⟨kk, hkk⟩ : ∃ kk, S.kindOf xi = kk := ⟨_, rfl⟩
      have hd2 : dd = true → kk = 2 := fun e => by rw [← hkk]; exact hd e
      have hf2 : fol = true → kk ≠ 3 := fun e => by rw [← hkk]; exact hf e
      rw [hkk] at HKK
      generalize pa.perr s.data.toList = pe at *
      generalize (pa.pnames s.data.toList) = pns at *
      obtain ⟨pl, hpl⟩ : ∃ pl, pns.length = pl := ⟨_, rfl⟩
      rw [hpl] at HP
      clear PL hn hget hget' hd hf hkk hdd HDD HFF hpl
      go_wp2_with fail
      refine (HGT.out _).mono ?_
      rintro _ w5 ⟨rfl, hb5⟩
      have H5 := Lib.hid ((H3.out _).below hb5)
      have F5 := Lib.hid (F1.out.below hb5)
      clear hb5 hG1
      go_wp2_with fail
      refine (HP.out _).mono ?_
      rintro _ w6 ⟨A6, c6, rfl, -, hb6⟩
      have H6 := Lib.hid (fun ob => (H5.out.below hb6).below (dn.below_alloc w6 ob))
      have F6 := Lib.hid (F5.out.below hb6)
      have p0 : ∀ ob, (w6.alloc ob).cell? ⟨G1, 0, none⟩ = some (.int .i64 xa) := fun ob => ((F6.out).below (dn.below_alloc w6 ob)).1
      have p1 : ∀ ob, (w6.alloc ob).cell? ⟨G1, 1, none⟩ = some (.string xn) := fun ob => ((F6.out).below (dn.below_alloc w6 ob)).2.1
      have p2 : ∀ ob, (w6.alloc ob).cell? ⟨G1, 2, none⟩ = some (.int .i64 xi) := fun ob => ((F6.out).below (dn.below_alloc w6 ob)).2.2
      have h7 : BrX w (w6.alloc (.cells #[.slice A6 pl c6, .bool dd] 25)) P No S 9 60 := H6.out _
      have u1 : (w6.alloc (.cells #[.slice A6 pl c6, .bool dd] 25)).cell? ⟨w6.heap.size, 1, none⟩ = some (.bool dd) := by simp
      have u2 : (w6.alloc (.cells #[.slice A6 pl c6, .bool dd] 25)).cell? ⟨G1, 2, none⟩ = some (.int .i64 xi) := p2 _
      go_upto_region 16 with fail
      generalize w6.alloc (.cells #[.slice A6 pl c6, .bool dd] 25) = w7 at *
      have H7 := Lib.hid h7
      clear h7
      clear hb6 H5 F5 F1 p0 p1 p2
      cases dd with
      | true =>
        obtain rfl := hd2 rfl
        cases fol with
        | true =>
          go_wp2_with fail
          refine (HKK.out _ H7.out).mono ?_
          rintro _ w8 ⟨rfl, hb8⟩
          have H8 := Lib.hid ((H7.out).below hb8)
          clear hb8
          go_wp2_with fail
          refine (HKK.out _ H8.out).mono ?_
          rintro _ w9 ⟨rfl, hb9⟩
          have H9 := Lib.hid ((H8.out).below hb9)
          clear hb9
          go_wp2_with fail
          go_ret
          exact ⟨by simp, (H9.out).bel⟩
        | false =>
          go_wp2_with fail
          refine (HKK.out _ H7.out).mono ?_
          rintro _ w8 ⟨rfl, hb8⟩
          have H8 := Lib.hid ((H7.out).below hb8)
          clear hb8
          go_wp2_with fail
          go_ret
          exact ⟨by simp, (H8.out).bel⟩
      | false =>
        cases fol with
        | true =>
          have hk3 := hf2 rfl
          have q3 : (kk != 3) = true := by simpa using hk3
          clear hk3
          go_wp2_with fail
          refine (HKK.out _ H7.out).mono ?_
          rintro _ w8 ⟨rfl, hb8⟩
          have H8 := Lib.hid ((H7.out).below hb8)
          clear hb8
          go_wp2_with fail
          go_ret
          exact ⟨by simp, (H8.out).bel⟩
        | false =>
          go_wp2_with fail
          go_ret
          exact ⟨by simp, (H7.out).bel⟩
    · have hxn : (xn.toList == []) = false := by
        rw [show ([] : List UInt8) = (⟨#[]⟩ : ByteArray).toList from by rw [Lib.toList_data], dn.beq_names]; exact decide_eq_false hn
      have hxn2 : (xn.toList != []) = true := by simp [bne, hxn]
      have HGT := Lib.hid (fun ob => x_get (H3.out ob) xa xn)
      rw [show (S.get xa xn).2 = 2 from hget] at HGT
      generalize (S.get xa xn).1 = gi at HGT
      unfold RetW at HGT
      clear PL hn hget
      go_wp2_with fail
      refine (HGT.out _).mono ?_
      rintro _ w5 ⟨rfl, hb5⟩
      have L1 := F1.out.below hb5
      have HF := Lib.hid (((H3.out _).below hb5).bel)
      have c0 := (L1).1
      have c1 := (L1).2.1
      have c2 := (L1).2.2
      dsimp only at c0 c1 c2
      clear hb5 L1 hG1
      go_wp2_with fail
      go_ret
      exact ⟨by simp, HF.out⟩
    · unfold wk.r0 wk.e0 at hr
      simp only [Prod.mk.injEq] at hr
      obtain ⟨rfl, rfl, rfl⟩ := hr
      have qn : (xe != 0) = true := by simpa using hne
      have q2 : (xe == 2) = true ∨ (xe == 2) = false := by cases (xe == 2) <;> simp
      clear PL hne
      rcases q2 with q2 | q2
      all_goals
        go_wp2_with fail
        go_ret
        exact ⟨rfl, (H3.out _).bel⟩

set_option maxRecDepth 100000 in
theorem lifted (os : Os) (started : os.Started) (H : Type) (enc : TypeId × Value → H) :
    ReturnsInHanded {} Tryz.checked os 4 .any (Rows.walkHasSpec.pre6 enc Tryz.prog Tryz.f4 Rows.walkHasRow.domain false) (Rows.walkHasSpec.post enc Tryz.prog Tryz.f4 false true false false) := by
  refine returnsInHanded_of_change_sized (C := Tryz.checked) own started (by kernel_rfl) Tryz.func4
    (ChangeSpec.witness6 (enc := enc) (C := Tryz.checked) false ⟨#[], #[.slice none 0 0, .string ByteArray.empty, .bool false], []⟩ 8 (by kernel_rfl) (by kernel_rfl) (by kernel_rfl) (by kernel_rfl)) ?_
  intro W base args ds gs before hval0 hW hcnd hsz _
  have hval : ∀ (j : Nat) t v, Tryz.f4.params[j]? = some t → args[j]? = some v → Value.okWide Tryz.prog W .any base t v := hval0
  have hW' := hW
  obtain ⟨p, q, hA0, hV, rfl, hfz, hnd⟩ := hW
  have hA : DataW.TrodAll enc Tryz.prog W 0 (fun _ => true) true Tryz.f4.params.toList args.toList ds p := hA0
  rw [Tryz.params4] at hA hval
  obtain ⟨v0, vs0, d0, ds0, p0, q0, hargs, rfl, rfl, h0, r0⟩ := trodAll_cons hA
  obtain ⟨v1, vs1, d1, ds1, p1, q1, rfl, rfl, rfl, h1, r1⟩ := trodAll_cons r0
  obtain ⟨v2, vs2, d2, ds2, p2, q2, rfl, rfl, rfl, h2, r2⟩ := trodAll_cons r1
  obtain ⟨rfl, rfl, rfl⟩ := trodAll_nil r2
  obtain rfl : args = #[v0, v1, v2] := by cases args; simp_all
  obtain ⟨rfl, rfl⟩ := trodVars_none hV
  have hlt := fun x hx => hW'.lt x hx
  have t0 := h0
  obtain ⟨A0, n0, c0, x0, rfl, e0, s0⟩ := open_acts (hval 0 22 v0 rfl rfl) h0
  obtain ⟨a1, rfl, rfl, rfl, w1⟩ := open_string Tryz.underlying9 (hval 1 9 v1 rfl rfl) h1
  have b1 : a1.size ≤ 140737488351232 := by
    have := sized_string hsz (j := 1) (t := 9) rfl rfl
    simpa [reachBytes] using this
  obtain ⟨a2, rfl, rfl, rfl⟩ := open_bool Tryz.underlying4 (hval 2 4 v2 rfl rfl) h2
  clear hA0 hval0
  refine (walk A0 n0 c0 x0 a1 a2 W e0 s0 b1).mono fun e W' ⟨he, hg⟩ => ?_
  subst he
  exact ⟨_, rfl, law_post (pv := []) hW' (fun _ _ _ => (trodAll_cons_mk (shut_bool Tryz.underlying4 _) trodAll_mk0)) (fun sp hsp => (trodAll_cons_mk (arg_stays t0 hg (by simp +contextual) hlt hsp laid) (trodAll_cons_mk (shut_string Tryz.underlying9 w1) (trodAll_cons_mk (shut_bool Tryz.underlying4 _) trodAll_mk0)))) (fun _ _ => rfl) (by simp)
    hg (ok_one (by kernel_rfl) rfl (okWide_bool_mk Tryz.underlying4 _))⟩

theorem over : Rows.walkHasRow.holds Tryz.pinned (OpenSpec.ofChange Rows.walkHasSpec) :=
  OpenClaim.holds_of_wide 4 Tryz.f4 rfl rfl rfl rfl rfl rfl rfl ⟨rfl, rfl, rfl, rfl, rfl⟩ rfl rfl rfl rfl rfl (by kernel_rfl) Tryz.func4 (by kernel_rfl)
    (of_decide_eq_true (by kernel_rfl)) (by unfold Func.isWrapper; first | (rw [if_pos (by decide +kernel)]; kernel_rfl) | (rw [if_neg (by decide +kernel)]; exact ⟨rfl, rfl⟩))
    (fun os started H enc _ => lifted os started H enc)

/-- The statement. -/
theorem proved : Rows.WalkHasSaid :=
  over
end Go.Proofs.YtlnlehoekchdeaaGreat.walkHas
