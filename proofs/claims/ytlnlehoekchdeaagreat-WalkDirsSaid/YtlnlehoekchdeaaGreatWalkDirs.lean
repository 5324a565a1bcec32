/- For every list of acts, every text and both ways of following the law WalkDirs returns true, and what is handed in reads as it did; there are no conditions. -/
import Derived.Test.YtlnlehoekchdeaaGreatZ45
import Derived.Deep.RegionWith
import Derived.Deep.QuietTactic
import Derived.BigQuiet
import Derived.ProofKit
import Derived.OpenShut
import Derived.ShutString
import Derived.SizedLaws
namespace Go.Proofs.YtlnlehoekchdeaaGreat.walkDirs
open Go.ChangeShapes Go.WideShapes Go.ChangeAt Go.RowKit
open Go.ChangeMaps (open_string shut_string)
open Go.Proofs.YtlnlehoekchdeaaGreat.cb
set_option linter.unusedVariables false

theorem own : ownKnob Tryz.prog.godebug = none := by kernel_rfl
theorem laid : laidOutB Tryz.prog = true := by kernel_rfl

open Go.Deep
open Go.Proofs.YtlnlehoekchdeaaGreat.br
open Go.Proofs.YtlnlehoekchdeaaGreat.bl (Pq)
theorem toL (s t : ByteArray) : (s ++ t).data.toList = s.data.toList ++ t.data.toList := by simp
theorem pe_back {s : ByteArray} (h : wk.pe (s ++ ⟨#[47]⟩) = 0) (hs : s.data.toList ≠ []) : wk.pe s = 0 := by
  unfold wk.pe at h ⊢
  rw [toL] at h
  exact wk.perr_back h hs
theorem pn_back {s : ByteArray} (h : wk.pe (s ++ ⟨#[47]⟩) = 0) (hs : s.data.toList ≠ []) : wk.pn (s ++ ⟨#[47]⟩) = wk.pn s := by
  have h2 := pe_back h hs
  unfold wk.pe at h h2
  rw [toL] at h
  unfold wk.pn
  rw [toL, pa.pnames_ok h, pa.pnames_ok h2]
  rw [show (⟨#[47]⟩ : ByteArray).data.toList = [47] from rfl, wk.nms_back]
theorem pd_back {s : ByteArray} (h : wk.pe (s ++ ⟨#[47]⟩) = 0) : wk.pd (s ++ ⟨#[47]⟩) = true := by
  unfold wk.pe at h
  rw [toL] at h
  unfold wk.pd
  rw [toL, pa.pdirE_ok h]
  exact wk.pdir_back _
theorem dirs_at {S : BS} {room : Nat} (hG : br.Good S room) (s : ByteArray) (fol : Bool) (h : (atR S (s ++ ⟨#[47]⟩) fol).2 = 0) :
    S.kindOf (atR S (s ++ ⟨#[47]⟩) fol).1.2.2 = 2 ∧ (s.data.toList ≠ [] → (atR S s true).2 = 0 ∧ (atR S s true).1.2.2 = (atR S (s ++ ⟨#[47]⟩) fol).1.2.2) := by
  have hL := live_of hG
  by_cases hp : wk.pe (s ++ ⟨#[47]⟩) = 0
  case neg => unfold atR at h; rw [if_pos hp] at h; exact absurd h hp
  have he : atR S (s ++ ⟨#[47]⟩) fol = wk.walkT (trS S) fol 40 1 (wk.pn (s ++ ⟨#[47]⟩)) true := by unfold atR; rw [if_neg (wk.nn hp), pd_back hp]
  rw [he] at h ⊢
  refine ⟨?_, fun hs => ?_⟩
  · have hf := wk.walk_has (trS S) hL fol 40 1 (wk.pn (s ++ ⟨#[47]⟩)) true hL.root.1 (fun _ => hL.root.2) (wk.pn_ne _)
    rcases hf with ⟨_, _, _, k⟩ | ⟨_, _, _, k, _⟩ | ⟨k, _⟩ | ⟨k, _⟩
    · exact k
    · exact k rfl
    · rw [h] at k; cases k
    · exact absurd h k
  · have e2 : atR S s true = wk.walkT (trS S) true 40 1 (wk.pn s) (wk.pd s) := by unfold atR; rw [if_neg (wk.nn (pe_back hp hs))]
    rw [pn_back hp hs] at h ⊢
    have := wk.walk_dirs (trS S) fol 40 1 (wk.pn s) (wk.pd s) h
    rw [e2, this]
    exact ⟨h, rfl⟩
set_option maxHeartbeats 4000000 in
set_option maxRecDepth 100000 in
theorem walk (A : Option Addr) (n c : Nat) (F : Nat → Act6) (s : ByteArray) (fol : Bool) (w : World) (k1 : n ≤ c ∧ c ≤ maxLen) (hF : Acts w w.heap.size A n F) (ws : s.size ≤ 140737488351232) :
    Calls Tryz.prog 10 #[.slice A n c, .string s, .bool fol] w (AwakeE w) := by
  have hnm : n ≤ maxLen := Nat.le_trans k1.1 k1.2
  have HBD := Lib.hid (fun w1 (hb : Below w.heap.size w w1) => bld_any A n c F w w1 hnm hF hb)
  clear k1 hF hnm
  go_enter Tryz.func10, Tryz.ntmps10
  go_wp2_with fail
  refine (awake_any _).mono ?_
  rintro _ w1 ⟨rfl, hb1⟩
  have HB1 := Lib.hid (HBD.out _ hb1)
  clear hb1 HBD
  go_wp2_with fail
  refine HB1.out.mono ?_
  rintro _ w2 ⟨ok, P, D, S, rfl, h2⟩
  have H2 := Lib.hid h2
  clear h2 HB1
  cases ok with
  | false =>
    go_wp2_with fail
    go_ret
    exact ⟨rfl, H2.out.bel⟩
  | true =>
    have hl1 : (s.size : Int) + 1 ≤ 9223372036854775807 := by omega
    have hl2 : s.size + 1 ≤ 9223372036854775807 := by omega
    have hl3 : (s ++ ⟨#[47]⟩).size + 1 ≤ 9223372036854775807 := by rw [ByteArray.size_append]; show s.size + 1 + 1 ≤ _; omega
    have A1 := Lib.hid (atw_any H2.out.ctr (s ++ ⟨#[47]⟩) fol)
    have A2 := Lib.hid (fun W (h : Ctr W P S) => atw_any h s true)
    have PL := Lib.hid (dirs_at H2.out.good s fol)
    obtain ⟨R1, hR1⟩ : ∃ R, atR S (s ++ ⟨#[47]⟩) fol = R := ⟨_, rfl⟩
    obtain ⟨R2, hR2⟩ : ∃ R, atR S s true = R := ⟨_, rfl⟩
    rw [hR1] at A1 PL
    rw [hR2] at A2 PL
    clear hR1 hR2
    obtain ⟨⟨xa, xn, xi⟩, xe⟩ := R1
    obtain ⟨⟨ya, yn, yi⟩, ye⟩ := R2
    unfold TopE FoundV at A1 A2
    dsimp only at A1 A2 PL
    go_wp2_with fail
    refine A1.out.mono ?_
    rintro _ w3 ⟨rfl, hb3⟩
    have H3 := Lib.hid (H2.out.below hb3)
    have F1 := Lib.hid (Fb.new w3 (xa, xn, xi))
    obtain ⟨G1, hG1⟩ : ∃ G, w3.heap.size = G := ⟨_, rfl⟩
    rw [hG1] at F1
    dsimp only at F1
    have HB3 := Lib.hid (fun ob => (H3.out.below (dn.below_alloc w3 ob)).bel)
    clear hb3 H2 A1
    by_cases hx : xe = 0
    case neg =>
      have qx : (xe != 0) = true := by simpa using hx
      go_wp2_with fail
      go_ret
      exact ⟨rfl, HB3.out _⟩
    subst hx
    obtain ⟨hk2, hyy⟩ := PL.out rfl
    have HYY := Lib.hid hyy
    go_wp2_with fail
    refine (A2.out _ (H3.out.below (dn.below_alloc _ _)).ctr).mono ?_
    rintro _ w4 ⟨rfl, hb4⟩
    have H4 := Lib.hid (fun ob => (H3.out.below (dn.below_alloc _ _)).below (dn.below_step hb4 (dn.below_alloc w4 ob)))
    have F14 := Lib.hid (F1.out.below hb4)
    clear hG1
    have F2 := Lib.hid (Fb.new w4 (ya, yn, yi))
    obtain ⟨G2, hG2⟩ : ∃ G, w4.heap.size = G := ⟨_, rfl⟩
    rw [hG2] at F2
    dsimp only at F2
    clear hb4 H3 A2 F1 PL hyy
    have HK := Lib.hid (fun ob => x_kind (H4.out ob) xi)
    unfold RetI at HK
    rw [hk2] at HK
    have p0 : ∀ ob, (w4.alloc ob).cell? ⟨G1, 0, none⟩ = some (.int .i64 xa) := fun ob => ((F14.out).below (dn.below_alloc w4 ob)).1
    have p1 : ∀ ob, (w4.alloc ob).cell? ⟨G1, 1, none⟩ = some (.string xn) := fun ob => ((F14.out).below (dn.below_alloc w4 ob)).2.1
    have p2 : ∀ ob, (w4.alloc ob).cell? ⟨G1, 2, none⟩ = some (.int .i64 xi) := fun ob => ((F14.out).below (dn.below_alloc w4 ob)).2.2
    go_wp2_with fail
    refine (HK.out _).mono ?_
    rintro _ w5 ⟨rfl, hb5⟩
    have L1 := (F14.out.below (dn.below_alloc w4 _)).below hb5
    have L2 := F2.out.below hb5
    have HF := Lib.hid (((H4.out _).below hb5).bel)
    have c0 := (L1).1
    have c1 := (L1).2.1
    have c2 := (L1).2.2
    have d0 := (L2).1
    have d1 := (L2).2.1
    have d2 := (L2).2.2
    clear hb5 L1 L2 hG2
    dsimp only at c0 c1 c2 d0 d1 d2
    by_cases hs : s.data.toList = []
    · have qs : (s.toList == []) = true := by rw [Lib.toList_data, hs]; rfl
      go_wp2_with fail
      go_ret
      exact ⟨rfl, HF.out⟩
    · obtain ⟨rfl, rfl⟩ := HYY.out hs
      have qs : (s.toList == []) = false := by rw [Lib.toList_data]; simpa using hs
      go_wp2_with fail
      go_ret
      exact ⟨by simp, HF.out⟩

set_option maxRecDepth 100000 in
theorem lifted (os : Os) (started : os.Started) (H : Type) (enc : TypeId × Value → H) :
    ReturnsInHanded {} Tryz.checked os 10 .any (Rows.walkDirsSpec.pre6 enc Tryz.prog Tryz.f10 Rows.walkDirsRow.domain false) (Rows.walkDirsSpec.post enc Tryz.prog Tryz.f10 false true false false) := by
  refine returnsInHanded_of_change_sized (C := Tryz.checked) own started (by kernel_rfl) Tryz.func10
    (ChangeSpec.witness6 (enc := enc) (C := Tryz.checked) false ⟨#[], #[.slice none 0 0, .string ByteArray.empty, .bool false], []⟩ 8 (by kernel_rfl) (by kernel_rfl) (by kernel_rfl) (by kernel_rfl)) ?_
  intro W base args ds gs before hval0 hW hcnd hsz _
  have hval : ∀ (j : Nat) t v, Tryz.f10.params[j]? = some t → args[j]? = some v → Value.okWide Tryz.prog W .any base t v := hval0
  have hW' := hW
  obtain ⟨p, q, hA0, hV, rfl, hfz, hnd⟩ := hW
  have hA : DataW.TrodAll enc Tryz.prog W 0 (fun _ => true) true Tryz.f10.params.toList args.toList ds p := hA0
  rw [Tryz.params10] at hA hval
  obtain ⟨v0, vs0, d0, ds0, p0, q0, hargs, rfl, rfl, h0, r0⟩ := trodAll_cons hA
  obtain ⟨v1, vs1, d1, ds1, p1, q1, rfl, rfl, rfl, h1, r1⟩ := trodAll_cons r0
  obtain ⟨v2, vs2, d2, ds2, p2, q2, rfl, rfl, rfl, h2, r2⟩ := trodAll_cons r1
  obtain ⟨rfl, rfl, rfl⟩ := trodAll_nil r2
  obtain rfl : args = #[v0, v1, v2] := by cases args; simp_all
  obtain ⟨rfl, rfl⟩ := trodVars_none hV
  have hlt := fun x hx => hW'.lt x hx
  have t0 := h0
  obtain ⟨A0, n0, c0, x0, rfl, e0, s0⟩ := open_acts (hval 0 22 v0 rfl rfl) h0
  obtain ⟨a1, rfl, rfl, rfl, w1⟩ := open_string Tryz.underlying9 (hval 1 9 v1 rfl rfl) h1
  have b1 : a1.size ≤ 140737488351232 := by
    have := sized_string hsz (j := 1) (t := 9) rfl rfl
    simpa [reachBytes] using this
  obtain ⟨a2, rfl, rfl, rfl⟩ := open_bool Tryz.underlying4 (hval 2 4 v2 rfl rfl) h2
  clear hA0 hval0
  refine (walk A0 n0 c0 x0 a1 a2 W e0 s0 b1).mono fun e W' ⟨he, hg⟩ => ?_
  subst he
  exact ⟨_, rfl, law_post (pv := []) hW' (fun _ _ _ => (trodAll_cons_mk (shut_bool Tryz.underlying4 _) trodAll_mk0)) (fun sp hsp => (trodAll_cons_mk (arg_stays t0 hg (by simp +contextual) hlt hsp laid) (trodAll_cons_mk (shut_string Tryz.underlying9 w1) (trodAll_cons_mk (shut_bool Tryz.underlying4 _) trodAll_mk0)))) (fun _ _ => rfl) (by simp)
    hg (ok_one (by kernel_rfl) rfl (okWide_bool_mk Tryz.underlying4 _))⟩

theorem over : Rows.walkDirsRow.holds Tryz.pinned (OpenSpec.ofChange Rows.walkDirsSpec) :=
  OpenClaim.holds_of_wide 10 Tryz.f10 rfl rfl rfl rfl rfl rfl rfl ⟨rfl, rfl, rfl, rfl, rfl⟩ rfl rfl rfl rfl rfl (by kernel_rfl) Tryz.func10 (by kernel_rfl)
    (of_decide_eq_true (by kernel_rfl)) (by unfold Func.isWrapper; first | (rw [if_pos (by decide +kernel)]; kernel_rfl) | (rw [if_neg (by decide +kernel)]; exact ⟨rfl, rfl⟩))
    (fun os started H enc _ => lifted os started H enc)

/-- The statement. -/
theorem proved : Rows.WalkDirsSaid :=
  over
end Go.Proofs.YtlnlehoekchdeaaGreat.walkDirs
