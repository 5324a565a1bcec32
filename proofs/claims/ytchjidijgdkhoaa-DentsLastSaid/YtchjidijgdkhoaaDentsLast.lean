/- For every list of acts, every two names and every number the law DentsLast returns true, and what is handed in reads as it did; there are no conditions. -/
import Derived.Test.YtchjidijgdkhoaaPlay
import Derived.Deep.RegionWith
import Derived.ProofKit
import Derived.OpenShut
import Derived.ShutString
namespace Go.Proofs.Ytchjidijgdkhoaa.dentsLast
open Go.ChangeShapes Go.WideShapes Go.ChangeAt Go.RowKit
open Go.ChangeMaps (open_string shut_string)
set_option linter.unusedVariables false

theorem own : ownKnob Try.prog.godebug = none := by kernel_rfl
theorem laid : laidOutB Try.prog = true := by kernel_rfl

open Go.Shelf

def gv (s : ByteArray) (L : List En) : Int := (lget s L).getD 0
def ge (s : ByteArray) (L : List En) : Int := if (lget s L).isSome then 0 else 2
theorem getV_eq (s : ByteArray) (L : List En) : getV s L = .tuple #[.int .i64 (gv s L), .int .i64 (ge s L)] := by
  unfold getV gv ge
  cases lget s L <;> rfl
theorem lget_set {s : ByteArray} {v : Int} {L : List En} (h : Sorted L) (h0 : serr s v = 0) : lget s (lsetE s v L) = some v := by
  unfold lsetE
  rw [if_pos h0, lget_some (lset_sorted h), lset_mem h]
  exact .inl rfl
theorem lget_ext {s : ByteArray} {L K : List En} (hL : Sorted L) (hK : Sorted K) (h : ∀ v, (s, v) ∈ L ↔ (s, v) ∈ K) : lget s L = lget s K := by
  cases e : lget s K with
  | some v => rw [lget_some hL, h, ← lget_some hK]; exact e
  | none =>
    rw [lget_none] at e ⊢
    intro x hx hs
    obtain ⟨xs, xv⟩ := x
    dsimp only at hs
    subst hs
    exact e _ ((h xv).1 hx) rfl
theorem lget_set_other {s t : ByteArray} {v : Int} {L : List En} (h : Sorted L) (hne : s ≠ t) : lget t (lsetE s v L) = lget t L := by
  unfold lsetE
  split
  · refine lget_ext (lset_sorted h) h fun u => ?_
    rw [lset_mem h]
    constructor
    · rintro (e | ⟨hm, _⟩)
      · exact absurd (congrArg Prod.fst e).symm hne
      · exact hm
    · exact fun hm => .inr ⟨hm, fun e => hne e.symm⟩
  · rfl
theorem lget_del (s : ByteArray) (L : List En) : lget s (ldel s L) = none := by
  rw [lget_none]
  exact fun e he => ((ldel_mem e).1 he).2
theorem lget_del_other {s t : ByteArray} {L : List En} (h : Sorted L) (hne : s ≠ t) : lget t (ldel s L) = lget t L :=
  lget_ext (ldel_sorted h) h fun u => by rw [ldel_mem]; exact ⟨fun e => e.1, fun e => ⟨e, fun e' => hne e'.symm⟩⟩

set_option maxHeartbeats 4000000 in
set_option maxRecDepth 100000 in
theorem walk (A : Option Addr) (n c : Nat) (F : Nat → Act3) (a b : ByteArray) (v : Int) (w : World) (k1 : n ≤ c ∧ c ≤ maxLen) (hF : Acts w w.heap.size A n F) (wa : a.size ≤ maxLen) (wb : b.size ≤ maxLen) :
    Calls Try.prog 5 #[.slice A n c, .string a, .string b, .int .i64 v] w (AwakeE w) := by
  have hnm : n ≤ maxLen := Nat.le_trans k1.1 k1.2
  have ha : a.size ≤ 9223372036854775807 := wa
  have HP := Lib.hid (fun w1 hb => play_any A n c F w w1 hnm hF hb)
  have hLl : (playL F (min n 100)).length ≤ 100 := Nat.le_trans (playL_length _ _) (by omega)
  generalize playL F (min n 100) = L at *
  obtain ⟨f, hf⟩ : ∃ f, serr a v = f := ⟨_, rfl⟩
  have hKl := lsetE_length a v L
  have HK1 := Lib.hid (fun (hs : Sorted L) (h : a ≠ b) => lget_set_other (v := v) hs h)
  have HK2 := Lib.hid (fun (hs : Sorted L) (h : f = 0) => lget_set (s := a) (v := v) hs (hf.trans h))
  have HFS := Lib.hid (fun (hs : Fine L) => hs.set a v)
  have HF := Lib.hid hf
  have HSET := Lib.hid (fun D W (h : DirX w W D No L) => x_set h (by omega) a v ha)
  rw [hf] at HSET
  generalize lsetE a v L = K at *
  have hMl := ldel_length a K
  have HM1 := Lib.hid (lget_del a K)
  have HM2 := Lib.hid (fun (hs : Sorted K) (h : a ≠ b) => lget_del_other (s := a) (t := b) hs h)
  have HDEL := Lib.hid (fun D W (h : DirX w W D No K) => x_del h (by omega) a)
  generalize ldel a K = M at *
  have HGL := Lib.hid (fun D W (h : DirX w W D No L) s => x_get h (by omega) s)
  have HGK := Lib.hid (fun D W (h : DirX w W D No K) s => x_get h (by omega) s)
  have HGM := Lib.hid (fun D W (h : DirX w W D No M) s => x_get h (by omega) s)
  obtain ⟨was, hwas⟩ : ∃ x, gv b L = x := ⟨_, rfl⟩
  obtain ⟨e0, he0⟩ : ∃ x, ge b L = x := ⟨_, rfl⟩
  obtain ⟨got, hgot⟩ : ∃ x, gv a K = x := ⟨_, rfl⟩
  obtain ⟨g0, hg0⟩ : ∃ x, ge a K = x := ⟨_, rfl⟩
  obtain ⟨now, hnow⟩ : ∃ x, gv b K = x := ⟨_, rfl⟩
  obtain ⟨h0, hh0⟩ : ∃ x, ge b K = x := ⟨_, rfl⟩
  obtain ⟨now2, hnow2⟩ : ∃ x, gv b M = x := ⟨_, rfl⟩
  obtain ⟨h2, hh2⟩ : ∃ x, ge b M = x := ⟨_, rfl⟩
  have hgM : getV a M = .tuple #[.int .i64 0, .int .i64 2] := by rw [getV_eq]; unfold gv ge; rw [HM1.out]; rfl
  have hVL : getV b L = .tuple #[.int .i64 was, .int .i64 e0] := by rw [getV_eq, hwas, he0]
  have hVKa : getV a K = .tuple #[.int .i64 got, .int .i64 g0] := by rw [getV_eq, hgot, hg0]
  have hVKb : getV b K = .tuple #[.int .i64 now, .int .i64 h0] := by rw [getV_eq, hnow, hh0]
  have hVMb : getV b M = .tuple #[.int .i64 now2, .int .i64 h2] := by rw [getV_eq, hnow2, hh2]
  have C1 := Lib.hid (fun D W (h : DirX w W D No L) => (hVL ▸ HGL.out D W h b : Calls Try.prog 14 #[Pq D, .string b] W (RetV W (.tuple #[.int .i64 was, .int .i64 e0]))))
  have C2 := Lib.hid (fun D W (h : DirX w W D No K) => (hVKa ▸ HGK.out D W h a : Calls Try.prog 14 #[Pq D, .string a] W (RetV W (.tuple #[.int .i64 got, .int .i64 g0]))))
  have C3 := Lib.hid (fun D W (h : DirX w W D No K) => (hVKb ▸ HGK.out D W h b : Calls Try.prog 14 #[Pq D, .string b] W (RetV W (.tuple #[.int .i64 now, .int .i64 h0]))))
  have C4 := Lib.hid (fun D W (h : DirX w W D No M) => (hgM ▸ HGM.out D W h a : Calls Try.prog 14 #[Pq D, .string a] W (RetV W (.tuple #[.int .i64 0, .int .i64 2]))))
  have C5 := Lib.hid (fun D W (h : DirX w W D No M) => (hVMb ▸ HGM.out D W h b : Calls Try.prog 14 #[Pq D, .string b] W (RetV W (.tuple #[.int .i64 now2, .int .i64 h2]))))
  rw [hVKa] at HDEL
  have hcase : Fine L → (((a.toList == b.toList) = false ∧ now = was ∧ h0 = e0 ∧ now2 = was ∧ h2 = e0) ∨ (a.toList == b.toList) = true) ∧ ((f = 0 ∧ got = v ∧ g0 = 0) ∨ (f == 0) = false) := by
    intro hfine
    constructor
    · by_cases hab : a = b
      · right; rw [beq_names]; exact decide_eq_true hab
      · left
        have l1 := HK1.out hfine.sorted hab
        have l2 := (HM2.out (HFS.out hfine).sorted hab).trans l1
        refine ⟨by rw [beq_names]; exact decide_eq_false hab, ?_, ?_, ?_, ?_⟩
        · rw [← hnow, ← hwas]; unfold gv; rw [l1]
        · rw [← hh0, ← he0]; unfold ge; rw [l1]
        · rw [← hnow2, ← hwas]; unfold gv; rw [l2]
        · rw [← hh2, ← he0]; unfold ge; rw [l2]
    · by_cases hf0 : f = 0
      · left
        have l1 := HK2.out hfine.sorted hf0
        refine ⟨hf0, ?_, ?_⟩
        · rw [← hgot]; unfold gv; rw [l1]; rfl
        · rw [← hg0]; unfold ge; rw [l1]; rfl
      · right; simpa using hf0
  have HC := Lib.hid hcase
  clear hcase hgM hVL hVKa hVKb hVMb hwas he0 hgot hg0 hnow hh0 hnow2 hh2 HGL HGK HGM HM1 HM2 HK1 HK2 HFS HF hf k1 wa wb hF hnm hMl hKl hLl
  go_enter Try.func5, Try.ntmps5
  go_wp2_with fail
  refine (awake_any _).mono ?_
  rintro e w1 ⟨rfl, hb1⟩
  have HP1 := Lib.hid (HP.out w1 hb1)
  clear hb1 HP
  go_wp2_with fail
  refine HP1.out.mono ?_
  rintro e w2 ⟨D, rfl, hd2⟩
  have HCC := Lib.hid (HC.out hd2.fine)
  have H2 := Lib.hid hd2
  have K1 := Lib.hid (C1.out D w2 hd2)
  clear hd2 HP1 HC C1
  go_wp2_with fail
  refine K1.out.mono ?_
  rintro e w3 ⟨rfl, hb3⟩
  have H3 := Lib.hid (H2.out.below hb3)
  have K2 := Lib.hid (HSET.out D w3 H3.out)
  clear hb3 K1 HSET
  go_wp2_with fail
  refine K2.out.mono ?_
  rintro e w4 ⟨rfl, hd4, -⟩
  have H4 := Lib.hid hd4
  have K3 := Lib.hid (C2.out D w4 hd4)
  clear hd4 K2 C2
  go_wp2_with fail
  refine K3.out.mono ?_
  rintro e w5 ⟨rfl, hb5⟩
  have H5 := Lib.hid (H4.out.below hb5)
  have K4 := Lib.hid (C3.out D w5 H5.out)
  clear hb5 K3 C3
  obtain ⟨q1, q2⟩ := HCC.out
  have Q2 := Lib.hid q2
  clear HCC q2
  rcases q1 with ⟨q1, rfl, rfl, rfl, rfl⟩ | q1
  all_goals
    obtain q2 := Q2.out
    clear Q2
    rcases q2 with ⟨rfl, rfl, rfl⟩ | q2
    all_goals
      go_wp2_with fail
      refine K4.out.mono ?_
      rintro e w6 ⟨rfl, hb6⟩
      have H6 := Lib.hid (H5.out.below hb6)
      have K5 := Lib.hid (HDEL.out D w6 H6.out)
      clear hb6 K4 HDEL
      go_wp2_with fail
      refine K5.out.mono ?_
      rintro e w7 ⟨rfl, hd7, -⟩
      have H7 := Lib.hid hd7
      have K6 := Lib.hid (C4.out D w7 hd7)
      clear hd7 K5 C4
      go_wp2_with fail
      refine K6.out.mono ?_
      rintro e w8 ⟨rfl, hb8⟩
      have H8 := Lib.hid (H7.out.below hb8)
      have K7 := Lib.hid (C5.out D w8 H8.out)
      clear hb8 K6 C5
      go_wp2_with fail
      refine K7.out.mono ?_
      rintro e w9 ⟨rfl, hb9⟩
      have H9 := Lib.hid (H8.out.below hb9)
      clear hb9 K7
      go_wp2_with fail
      go_ret
      exact ⟨rfl, H9.out.bel⟩

set_option maxRecDepth 100000 in
theorem lifted (os : Os) (started : os.Started) (H : Type) (enc : TypeId × Value → H) :
    ReturnsInHanded {} Try.checked os 5 .any (Rows.dentsLastSpec.pre6 enc Try.prog Try.f5 Rows.dentsLastRow.domain false) (Rows.dentsLastSpec.post enc Try.prog Try.f5 false true false false) := by
  refine returnsInHanded_of_change (C := Try.checked) own started (by kernel_rfl) Try.func5
    (ChangeSpec.witness6 (enc := enc) (C := Try.checked) false ⟨#[], #[.slice none 0 0, .string ByteArray.empty, .string ByteArray.empty, .int .i64 0], []⟩ 8 (by kernel_rfl) (by kernel_rfl) (by kernel_rfl) (by kernel_rfl)) ?_
  intro W base args ds gs before hval0 hW hcnd _
  have hval : ∀ (j : Nat) t v, Try.f5.params[j]? = some t → args[j]? = some v → Value.okWide Try.prog W .any base t v := hval0
  have hW' := hW
  obtain ⟨p, q, hA0, hV, rfl, hfz, hnd⟩ := hW
  have hA : DataW.TrodAll enc Try.prog W 0 (fun _ => true) true Try.f5.params.toList args.toList ds p := hA0
  rw [Try.params5] at hA hval
  obtain ⟨v0, vs0, d0, ds0, p0, q0, hargs, rfl, rfl, h0, r0⟩ := trodAll_cons hA
  obtain ⟨v1, vs1, d1, ds1, p1, q1, rfl, rfl, rfl, h1, r1⟩ := trodAll_cons r0
  obtain ⟨v2, vs2, d2, ds2, p2, q2, rfl, rfl, rfl, h2, r2⟩ := trodAll_cons r1
  obtain ⟨v3, vs3, d3, ds3, p3, q3, rfl, rfl, rfl, h3, r3⟩ := trodAll_cons r2
  obtain ⟨rfl, rfl, rfl⟩ := trodAll_nil r3
  obtain rfl : args = #[v0, v1, v2, v3] := by cases args; simp_all
  obtain ⟨rfl, rfl⟩ := trodVars_none hV
  have hlt := fun x hx => hW'.lt x hx
  have t0 := h0
  obtain ⟨A0, n0, c0, x0, rfl, e0, s0⟩ := open_acts (hval 0 22 v0 rfl rfl) h0
  obtain ⟨a1, rfl, rfl, rfl, w1⟩ := open_string Try.underlying9 (hval 1 9 v1 rfl rfl) h1
  obtain ⟨a2, rfl, rfl, rfl, w2⟩ := open_string Try.underlying9 (hval 2 9 v2 rfl rfl) h2
  obtain ⟨a3, rfl, rfl, rfl, w3⟩ := open_int Try.underlying3 (hval 3 3 v3 rfl rfl) h3
  clear hA0 hval0
  refine (walk A0 n0 c0 x0 a1 a2 a3 W e0 s0 w1 w2).mono fun e W' ⟨he, hg⟩ => ?_
  subst he
  exact ⟨_, rfl, law_post (pv := []) hW' (fun _ _ _ => (trodAll_cons_mk (shut_bool Try.underlying4 _) trodAll_mk0)) (fun sp hsp => (trodAll_cons_mk (arg_stays (by decide) t0 hg (by simp +contextual) hlt hsp laid) (trodAll_cons_mk (shut_string Try.underlying9 w1) (trodAll_cons_mk (shut_string Try.underlying9 w2) (trodAll_cons_mk (shut_int Try.underlying3 w3) trodAll_mk0))))) (fun _ _ => rfl) (by simp)
    hg (ok_one (by kernel_rfl) rfl (okWide_bool_mk Try.underlying4 _))⟩

theorem over : Rows.dentsLastRow.holds Try.pinned (OpenSpec.ofChange Rows.dentsLastSpec) :=
  OpenClaim.holds_of_wide 5 Try.f5 rfl rfl rfl rfl rfl rfl rfl ⟨rfl, rfl, rfl, rfl, rfl⟩ rfl rfl rfl rfl rfl (by kernel_rfl) Try.func5 (by kernel_rfl)
    (of_decide_eq_true (by kernel_rfl)) (by unfold Func.isWrapper; first | (rw [if_pos (by decide +kernel)]; kernel_rfl) | (rw [if_neg (by decide +kernel)]; exact ⟨rfl, rfl⟩))
    (fun os started H enc _ => lifted os started H enc)

/-- The statement. -/
theorem proved : Rows.DentsLastSaid :=
  over
end Go.Proofs.Ytchjidijgdkhoaa.dentsLast
