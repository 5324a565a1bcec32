/- For every list of names the law DentsTurned returns true, and what is handed in reads as it did; there are no conditions. -/
import Derived.Test.YtchjidijgdkhoaaTwo
import Derived.Deep.RegionWith
import Derived.ProofKit
import Derived.OpenShut
import Derived.ShutString
namespace Go.Proofs.Ytchjidijgdkhoaa.dentsTurned
open Go.ChangeShapes Go.WideShapes Go.ChangeAt Go.RowKit
open Go.ChangeMaps (open_string shut_string)
set_option linter.unusedVariables false

theorem own : ownKnob Try.prog.godebug = none := by kernel_rfl
theorem laid : laidOutB Try.prog = true := by kernel_rfl

open Go.Shelf

def Apart (F : Nat → ByteArray) (k : Nat) : Prop := ∀ i j, i < j → j < k → F i ≠ F j
theorem Apart.next {F : Nat → ByteArray} {k : Nat} {f : ByteArray → Bool} (h : Apart F k) (hf : ∀ a, f a = true ↔ ∃ j, j < k ∧ F j = a) (hk : f (F k) = false) : Apart F (k + 1) := fun i j hij hj e => by
  by_cases hjk : j = k
  · subst hjk
    have := (hf (F j)).2 ⟨i, hij, e⟩
    rw [this] at hk; cases hk
  · exact h i j hij (by omega) e
theorem seen_next {F : Nat → ByteArray} {k : Nat} {f : ByteArray → Bool} (hf : ∀ a, f a = true ↔ ∃ j, j < k ∧ F j = a) : ∀ a, (decide (a = F k) || f a) = true ↔ ∃ j, j < k + 1 ∧ F j = a := fun a => by
  rw [Bool.or_eq_true, hf a, decide_eq_true_eq]
  constructor
  · rintro (h | ⟨j, h1, h2⟩)
    · exact ⟨k, by omega, h.symm⟩
    · exact ⟨j, by omega, h2⟩
  · rintro ⟨j, h1, h2⟩
    by_cases hjk : j = k
    · subst hjk; exact .inl h2.symm
    · exact .inr ⟨j, by omega, h2⟩

set_option maxHeartbeats 4000000 in
set_option maxRecDepth 100000 in
theorem walk (A : Option Addr) (n c : Nat) (F : Nat → ByteArray) (w : World) (k1 : n ≤ c ∧ c ≤ maxLen) (hF : Names w w.heap.size A n F) :
    Calls Try.prog 6 #[.slice A n c] w (AwakeE w) := by
  have hnm : n ≤ 9223372036854775807 := Nat.le_trans k1.1 k1.2
  have HF := Lib.hid hF
  have hmm := @run_makeMap Try.prog
  obtain ⟨m, hm, hmn, hm1⟩ : ∃ m : Nat, min (n : Int) 100 = (m : Int) ∧ m ≤ n ∧ m ≤ 100 := ⟨min n 100, by omega, by omega, by omega⟩
  clear k1 hF
  go_enter Try.func6, Try.ntmps6
  go_wp2_with fail
  refine (awake_any _).mono ?_
  rintro e w1 ⟨rfl, hb1⟩
  go_wp2_with fail
  refine (new_any w1 w.heap.size hb1.size).mono ?_
  rintro e w2 ⟨rfl, h2, hb2⟩
  go_wp2_with fail
  refine (new_any w2 w.heap.size (Nat.le_trans hb1.size hb2.size)).mono ?_
  rintro e w3 ⟨rfl, h3, hb3⟩
  have HT0 := Lib.hid (two_new hb1 h2 hb2 h3 hb3)
  generalize w1.heap.size = D at *
  generalize w2.heap.size = E at *
  clear h2 h3 hb1 hb2 hb3
  have HM0 := Lib.hid (MapS.made w3)
  have HB0 := Lib.hid (below_alloc w3 (.map #[] 0))
  go_wp2_with fail
  clear hm hmm
  go_loopg [7] m (fun g s7 wr => ∃ (k : Nat) (f : ByteArray → Bool), g + k = m ∧ s7 = .int .i64 k ∧ Hid (MapS wr w3.heap.size k f) ∧ Hid (∀ a, f a = true ↔ ∃ j, j < k ∧ F j = a) ∧ Hid (Apart F k) ∧ Hid (Below w3.heap.size w3 wr))
  case atStart => exact ⟨0, fun _ => false, by omega, rfl, HM0, Lib.hid (fun a => ⟨fun h => (by cases h), fun ⟨j, h, _⟩ => absurd h (Nat.not_lt_zero _)⟩), Lib.hid (fun i j _ h => absurd h (Nat.not_lt_zero _)), HB0⟩
  case round =>
    clear HM0 HB0
    obtain ⟨k, f, hgk, rfl, HM, HS, HA, HB⟩ := hrel
    have H1 := Lib.hid (HT0.out.below HB.out)
    by_cases hkm : k < m
    · obtain ⟨b, off, rfl, hbl, f0, hz⟩ := (HF.out.below H1.out.bel) k (by omega)
      have hkn : k < n := by omega
      have hlook := HM.out.look (F k) hz
      obtain ⟨w', hrun, hM', hg'⟩ := HM.out.put (by omega) (F k) hz
      have HM' := Lib.hid hM'
      have HG' := Lib.hid hg'
      have HSN := Lib.hid (seen_next HS.out)
      have HAN := Lib.hid (fun h => HA.out.next HS.out h)
      generalize hs : F k = s at *
      cases hfk : f s
      · have HAN2 := Lib.hid (HAN.out hfk)
        rw [hfk] at hlook
        clear hz hM' hg' hs hfk HAN
        go_wp2_with fail
        go_roundg (gk - 1)
        case measure => omega
        case rel => exact ⟨k + 1, _, by omega, by go_num, HM', HSN, HAN2, Lib.hid (below_grown_far HB.out HG'.out (Nat.le_refl _))⟩
      · rw [hfk] at hlook
        clear hz hM' hg' hs hfk HAN hrun HM' HG' HSN
        go_wp2_with fail
        go_ret
        exact ⟨rfl, H1.out.bel⟩
    · have hkm2 : k = m := by omega
      have HAP := Lib.hid (show Apart F m by rw [← hkm2]; exact HA.out)
      have hjn : ¬ ((k : Int) < (m : Int)) := by omega
      clear HM HS HA HB hkm hkm2
      go_wp2_with fail
      go_loopg [8] m (fun g s8 wy => ∃ (k : Nat) (L K : List En), g + k = m ∧ s8 = .int .i64 k ∧ L.length ≤ k ∧ K.length ≤ k ∧ Hid (TwoX w wy D E L K) ∧ Hid (InS F (fun j => j < k) L) ∧ Hid (InS F (fun j => m - k ≤ j ∧ j < m) K))
      case atStart => exact ⟨0, [], [], by omega, rfl, Nat.le_refl _, Nat.le_refl _, H1, Lib.hid ((InS.nil F).congr fun j => ⟨fun h => h.elim, fun h => absurd h (Nat.not_lt_zero _)⟩), Lib.hid ((InS.nil F).congr fun j => ⟨fun h => h.elim, fun h => by omega⟩)⟩
      case round =>
        clear H1
        obtain ⟨k, L, K, hgk, rfl, hLl, hKl, HT, HL, HK⟩ := hrel
        by_cases hkm : k < m
        · obtain ⟨j, hj⟩ : ∃ j, j + k + 1 = m := ⟨m - k - 1, by omega⟩
          obtain ⟨b, off, rfl, hbl, f0, hz⟩ := (HF.out.below HT.out.bel) k (by omega)
          have hkn : k < n := by omega
          have hblw : b < w.heap.size := hbl
          have HF2 := Lib.hid (fun (W : World) (hb : Below w.heap.size w W) => (HF.out.below hb) j (by omega))
          have hz' : (F k).size ≤ 9223372036854775807 := hz
          have hzj : (F j).size ≤ 9223372036854775807 := by obtain ⟨_, _, _, _, _, h⟩ := HF.out j (by omega); exact h
          have HS1 := Lib.hid (two_set HT.out (by omega) (F k) ((k : Int) + 1) hz')
          have HS2 := Lib.hid (fun W (h : TwoX w W D E (lsetE (F k) ((k : Int) + 1) L) K) => (two_set h.symm (by omega) (F j) ((j : Int) + 1) hzj))
          have HL2 := Lib.hid ((HL.out.set (k := k) HT.out.sorted (fun i hi => HAP.out i k hi (by omega))).congr (fun i => ⟨fun h => by omega, fun h => by omega⟩) : InS F (fun i => i < k + 1) (lsetE (F k) ((k : Int) + 1) L))
          have HK2 := Lib.hid ((HK.out.set (k := j) HT.out.symm.sorted (fun i hi => (HAP.out j i (by omega) (by omega)).symm)).congr (fun i => ⟨fun h => by omega, fun h => by omega⟩) : InS F (fun i => m - (k + 1) ≤ i ∧ i < m) (lsetE (F j) ((j : Int) + 1) K))
          have hl1 := lsetE_length (F k) ((k : Int) + 1) L
          have hl2 := lsetE_length (F j) ((j : Int) + 1) K
          generalize lsetE (F k) ((k : Int) + 1) L = L2 at *
          generalize lsetE (F j) ((j : Int) + 1) K = K2 at *
          generalize serr (F k) ((k : Int) + 1) = r1 at *
          generalize serr (F j) ((j : Int) + 1) = r2 at *
          generalize F k = sk at *
          have hji : (m : Int) - 1 - (k : Int) = (j : Int) := by omega
          have hvk : (m : Int) - (k : Int) = (j : Int) + 1 := by omega
          have hjn2 : j < n := by omega
          have hjm : m - 1 - k = j := by omega
          have HJ := Lib.hid hj
          clear hz hz' hzj hj
          go_wp2_with fail
          refine HS1.out.mono ?_
          rintro e w5 ⟨rfl, ht5⟩
          obtain ⟨b2, off2, hbe, hbl2, g0, -⟩ := HF2.out w5 ht5.bel
          obtain ⟨rfl, rfl⟩ : b = b2 ∧ off = off2 := by injection hbe with h; injection h with h1 h2; exact ⟨h1, h2⟩
          have HT5 := Lib.hid (HS2.out w5 ht5)
          clear hbe ht5 HS1 HS2 f0 HF2
          generalize F j = sj at *
          go_wp2_with fail
          refine HT5.out.mono ?_
          rintro e w6 ⟨rfl, ht6⟩
          have HT6 := Lib.hid ht6.symm
          clear ht6 HT5 g0
          go_wp2_with fail
          go_roundg (gk - 1)
          case measure => omega
          case rel => exact ⟨k + 1, L2, K2, by omega, by go_num, by omega, by omega, HT6, HL2, HK2⟩
        · have hkm2 : k = m := by omega
          have hLK : L = K := HL.out.one (HK.out.congr fun j => ⟨fun h => by omega, fun h => by omega⟩) HT.out.sorted HT.out.symm.sorted
          subst hLK
          have hjn : ¬ ((k : Int) < (m : Int)) := by omega
          have K1 := Lib.hid (x_all HT.out.left (by omega))
          have hl100 : L.length ≤ 100 := by omega
          clear hkm hkm2 HL HK HAP
          go_wp2_with fail
          refine K1.out.mono ?_
          rintro e w5 ⟨o5, c5, rfl, -, -, hsl5, hb5⟩
          have HT5 := Lib.hid (HT.out.below hb5)
          have K2 := Lib.hid (x_all HT5.out.symm.left (by omega))
          have HR5 := Lib.hid (Reads.of_sl hsl5)
          generalize Ao o5 = A5 at *
          clear hsl5 hb5 K1
          go_wp2_with fail
          refine K2.out.mono ?_
          rintro e w6 ⟨o6, c6, rfl, -, -, hsl6, hb6⟩
          have HT6 := Lib.hid (HT5.out.below hb6)
          have HR6 := Lib.hid (Reads.of_sl hsl6)
          have K3 := Lib.hid (same_any A5 (Ao o6) L.length L.length c5 c6 L L w6 rfl rfl (by omega) (by omega) (HR5.out.step hb6) HR6.out)
          rw [decide_eq_true rfl] at K3
          generalize Ao o6 = A6 at *
          generalize hnl : L.length = nl at *
          have HNL := Lib.hid hnl
          clear hsl6 hb6 K2 hnl
          go_wp2_with fail
          refine K3.out.mono ?_
          rintro e w7 ⟨rfl, hb7⟩
          have HT7 := Lib.hid (HT6.out.below hb7)
          have K4 := Lib.hid (x_len HT7.out.left)
          have K5 := Lib.hid (x_len HT7.out.symm.left)
          rw [HNL.out] at K4 K5
          clear hb7 K3
          go_wp2_with fail
          refine K4.out.mono ?_
          rintro e w8 ⟨rfl, hw8⟩
          subst hw8
          go_wp2_with fail
          refine K5.out.mono ?_
          rintro e w8 ⟨rfl, hw8⟩
          subst hw8
          go_wp2_with fail
          go_ret
          exact ⟨rfl, HT7.out.bel⟩

set_option maxRecDepth 100000 in
theorem lifted (os : Os) (started : os.Started) (H : Type) (enc : TypeId × Value → H) :
    ReturnsInHanded {} Try.checked os 6 .any (Rows.dentsTurnedSpec.pre6 enc Try.prog Try.f6 Rows.dentsTurnedRow.domain false) (Rows.dentsTurnedSpec.post enc Try.prog Try.f6 false true false false) := by
  refine returnsInHanded_of_change (C := Try.checked) own started (by kernel_rfl) Try.func6
    (ChangeSpec.witness6 (enc := enc) (C := Try.checked) false ⟨#[], #[.slice none 0 0], []⟩ 8 (by kernel_rfl) (by kernel_rfl) (by kernel_rfl) (by kernel_rfl)) ?_
  intro W base args ds gs before hval0 hW hcnd _
  have hval : ∀ (j : Nat) t v, Try.f6.params[j]? = some t → args[j]? = some v → Value.okWide Try.prog W .any base t v := hval0
  have hW' := hW
  obtain ⟨p, q, hA0, hV, rfl, hfz, hnd⟩ := hW
  have hA : DataW.TrodAll enc Try.prog W 0 (fun _ => true) true Try.f6.params.toList args.toList ds p := hA0
  rw [Try.params6] at hA hval
  obtain ⟨v0, vs0, d0, ds0, p0, q0, hargs, rfl, rfl, h0, r0⟩ := trodAll_cons hA
  obtain ⟨rfl, rfl, rfl⟩ := trodAll_nil r0
  obtain rfl : args = #[v0] := by cases args; simp_all
  obtain ⟨rfl, rfl⟩ := trodVars_none hV
  have hlt := fun x hx => hW'.lt x hx
  have t0 := h0
  obtain ⟨A0, n0, c0, x0, rfl, e0, s0⟩ := open_names (hval 0 49 v0 rfl rfl) h0
  clear hA0 hval0
  refine (walk A0 n0 c0 x0 W e0 s0).mono fun e W' ⟨he, hg⟩ => ?_
  subst he
  exact ⟨_, rfl, law_post (pv := []) hW' (fun _ _ _ => (trodAll_cons_mk (shut_bool Try.underlying4 _) trodAll_mk0)) (fun sp hsp => (trodAll_cons_mk (arg_stays (by decide) t0 hg (by simp +contextual) hlt hsp laid) trodAll_mk0)) (fun _ _ => rfl) (by simp)
    hg (ok_one (by kernel_rfl) rfl (okWide_bool_mk Try.underlying4 _))⟩

theorem over : Rows.dentsTurnedRow.holds Try.pinned (OpenSpec.ofChange Rows.dentsTurnedSpec) :=
  OpenClaim.holds_of_wide 6 Try.f6 rfl rfl rfl rfl rfl rfl rfl ⟨rfl, rfl, rfl, rfl, rfl⟩ rfl rfl rfl rfl rfl (by kernel_rfl) Try.func6 (by kernel_rfl)
    (of_decide_eq_true (by kernel_rfl)) (by unfold Func.isWrapper; first | (rw [if_pos (by decide +kernel)]; kernel_rfl) | (rw [if_neg (by decide +kernel)]; exact ⟨rfl, rfl⟩))
    (fun os started H enc _ => lifted os started H enc)

/-- The statement. -/
theorem proved : Rows.DentsTurnedSaid :=
  over
end Go.Proofs.Ytchjidijgdkhoaa.dentsTurned
