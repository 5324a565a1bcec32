/- For every list of acts and every text the law DentsNexts returns true, and what is handed in reads as it did; there are no conditions. -/
import Derived.Test.YtchjidijgdkhoaaPlay
import Derived.Test.YtchjidijgdkhoaaSame
import Derived.Deep.RegionWith
import Derived.ProofKit
import Derived.OpenShut
import Derived.ShutString
namespace Go.Proofs.Ytchjidijgdkhoaa.dentsNexts
open Go.ChangeShapes Go.WideShapes Go.ChangeAt Go.RowKit
open Go.ChangeMaps (open_string shut_string)
set_option linter.unusedVariables false

theorem own : ownKnob Try.prog.godebug = none := by kernel_rfl
theorem laid : laidOutB Try.prog = true := by kernel_rfl

open Go.Shelf

theorem lnext_some {s : ByteArray} {L : List En} {x : En} (h : lnext s L = some x) : x ∈ L ∧ lessB s x.1 = true := by
  unfold lnext at h
  exact ⟨List.mem_of_find?_eq_some h, by simpa using List.find?_some h⟩
theorem lnext_none {s : ByteArray} {L : List En} (h : lnext s L = none) : ∀ x ∈ L, lessB s x.1 = false := by
  unfold lnext at h
  rw [List.find?_eq_none] at h
  intro x hx
  simpa using h x hx
/-- Whoever is above the text isn't ahead of the next one. -/
theorem lnext_first {s : ByteArray} {L : List En} {x y : En} (hs : Sorted L) (h : lnext s L = some x) (hy : y ∈ L) (hl : lessB s y.1 = true) : lessB y.1 x.1 = false := by
  induction L with
  | nil => cases hy
  | cons z l ih =>
    obtain ⟨h1, h2⟩ := hs.cons
    unfold lnext at h
    rw [List.find?_cons] at h
    by_cases hz : lessB s z.1 = true
    · rw [hz] at h
      injection h with h
      subst h
      rcases List.mem_cons.1 hy with rfl | hy
      · exact less_irrefl _
      · exact less_asymm (h2 y hy)
    · rw [show lessB s z.1 = false by simpa using hz] at h
      rcases List.mem_cons.1 hy with rfl | hy
      · exact absurd hl hz
      · exact ih h1 h hy

set_option maxHeartbeats 4000000 in
set_option maxRecDepth 100000 in
theorem walk (A : Option Addr) (n c : Nat) (F : Nat → Act3) (s : ByteArray) (w : World) (k1 : n ≤ c ∧ c ≤ maxLen) (hF : Acts w w.heap.size A n F) (ws : s.size ≤ maxLen) :
    Calls Try.prog 7 #[.slice A n c, .string s] w (AwakeE w) := by
  have hnm : n ≤ maxLen := Nat.le_trans k1.1 k1.2
  have HP := Lib.hid (fun w1 hb => play_any A n c F w w1 hnm hF hb)
  have hLl : (playL F (min n 100)).length ≤ 100 := Nat.le_trans (playL_length _ _) (by omega)
  generalize playL F (min n 100) = L at *
  have C1 := Lib.hid (fun D W (h : DirX w W D No L) => x_next h (by omega) s)
  have C2 := Lib.hid (fun D W (h : DirX w W D No L) => x_all h (by omega))
  have C3 := Lib.hid (fun D W (h : DirX w W D No L) t => x_get h (by omega) t)
  clear k1 ws hF hnm
  go_enter Try.func7, Try.ntmps7
  go_wp2_with fail
  refine (awake_any _).mono ?_
  rintro e w1 ⟨rfl, hb1⟩
  have HP1 := Lib.hid (HP.out w1 hb1)
  clear hb1 HP
  go_wp2_with fail
  refine HP1.out.mono ?_
  rintro e w2 ⟨D, rfl, hd2⟩
  have hfine := hd2.fine
  have H2 := Lib.hid hd2
  have K1 := Lib.hid (C1.out D w2 hd2)
  have HFI := Lib.hid hfine
  clear hd2 HP1 C1 hfine
  cases hx : lnext s L with
  | none =>
    have HX := Lib.hid hx
    rw [show nextV s L = .tuple #[Ev (⟨#[]⟩, 0), .bool false] by unfold nextV; rw [hx]] at K1
    clear hx
    go_wp2_with fail
    refine K1.out.mono ?_
    rintro e w3 ⟨rfl, hb3⟩
    have H3 := Lib.hid (H2.out.below hb3)
    have H4 := Lib.hid (H3.out.below (below_alloc w3 (.cells #[.string ⟨#[]⟩, .int .i64 0] 37)))
    have K2 := Lib.hid (C2.out D _ H4.out)
    clear hb3 K1
    go_wp2_with fail
    refine K2.out.mono ?_
    rintro e w4 ⟨o4, c4, rfl, hlc, hcm, hsl, hb4⟩
    have HR := Lib.hid (Reads.of_sl hsl)
    have hnl : L.length ≤ 1000000 := by omega
    have H5 := Lib.hid (H4.out.below hb4)
    have hz3 : w3.heap.size < w4.heap.size := by have := hb4.size; simp at this; omega
    have b0 := (hb4.cell (p := ⟨w3.heap.size, 0, none⟩) (by simp)).trans (show _ = some (.string ⟨#[]⟩) by simp)
    have b1 := (hb4.cell (p := ⟨w3.heap.size, 1, none⟩) (by simp)).trans (show _ = some (.int .i64 0) by simp)
    have heq : ∀ W, (binOp .eql 37 (Ev (⟨#[]⟩, 0)) (Ev (⟨#[]⟩, 0))).run Try.prog W = .ok (.bool true) W := fun W => by rw [run_eql37, decide_eq_true rfl]
    dsimp only [Ev] at heq
    have hgd := guard37
    generalize w3.heap.size = E at *
    generalize Ao o4 = A4 at *
    generalize hn4 : L.length = n4 at *
    have HN4 := Lib.hid hn4
    clear hsl hb4 K2 H4 H3 hn4 hlc hcm hLl C2 C3
    go_wp2_with fail
    go_loopg [26] n4 (fun g s26 wr => ∃ k : Nat, g + k = n4 ∧ s26 = .int .i64 k ∧ Hid (Below w4.heap.size w4 wr))
    case atStart => exact ⟨0, by omega, rfl, Lib.hid (Below.refl _ _)⟩
    case round =>
      obtain ⟨k, hgk, rfl, HB⟩ := hrel
      have c0 := (HB.out.cell (p := ⟨E, 0, none⟩) hz3).trans b0
      have c1 := (HB.out.cell (p := ⟨E, 1, none⟩) hz3).trans b1
      by_cases hkn : k < n4
      · have hy : L[k]? = some (L[k]'(by rw [HN4.out]; exact hkn)) := List.getElem?_eq_getElem _
        obtain ⟨G, rfl, hG, f0, f1⟩ := (HR.out.below HB.out) k _ hy
        have hless := lnext_none HX.out _ (List.mem_of_getElem? hy)
        generalize L[k]'(by rw [HN4.out]; exact hkn) = y at *
        obtain ⟨ys, yv⟩ := y
        dsimp only at f0 f1 hless
        have hC : ∀ W, Calls Try.prog 23 #[.string s, .string ys] W fun e w' => e = .returned (.bool false) ∧ w' = W := fun W => hless ▸ less_any s ys W
        clear hy hless b0 b1
        go_wp2_with fail
        go_quiet ((go_at_call 23; with_reducible exact Calls.quiet_of_same (hC _)))
        go_wp2_with fail
        go_roundg (gk - 1)
        case measure => omega
        case rel => exact ⟨k + 1, by omega, by go_num, Lib.hid (below_drewN HB.out _)⟩
      · have hjn : ¬ ((k : Int) < (n4 : Int)) := by omega
        clear hkn b0 b1
        go_wp2_with fail
        go_ret
        exact ⟨rfl, below_step H5.out.bel HB.out⟩
  | some x =>
    obtain ⟨hxm, hxl⟩ := lnext_some hx
    have HX := Lib.hid hx
    have hgv : getV x.1 L = .tuple #[.int .i64 x.2, .int .i64 0] := by
      unfold getV; rw [(lget_some HFI.out.sorted).2 hxm]
    have HFST := Lib.hid (fun y hy hl => lnext_first (y := y) HFI.out.sorted hx hy hl)
    rw [show nextV s L = .tuple #[Ev x, .bool true] by unfold nextV; rw [hx]] at K1
    have C3x := Lib.hid (fun D W h => (hgv ▸ C3.out D W h x.1 : Calls Try.prog 14 #[Pq D, .string x.1] W (RetV W (.tuple #[.int .i64 x.2, .int .i64 0]))))
    clear hx hxm hgv
    obtain ⟨xs, xv⟩ := x
    dsimp only [Ev] at K1 hxl C3x HFST
    go_wp2_with fail
    refine K1.out.mono ?_
    rintro e w3 ⟨rfl, hb3⟩
    have H3 := Lib.hid (H2.out.below hb3)
    have H4 := Lib.hid (H3.out.below (below_alloc w3 (.cells #[.string xs, .int .i64 xv] 37)))
    have K2 := Lib.hid (C2.out D _ H4.out)
    clear hb3 K1
    go_wp2_with fail
    refine K2.out.mono ?_
    rintro e w4 ⟨o4, c4, rfl, hlc, hcm, hsl, hb4⟩
    have HR := Lib.hid (Reads.of_sl hsl)
    have hnl : L.length ≤ 1000000 := by omega
    have H5 := Lib.hid (H4.out.below hb4)
    have hz3 : w3.heap.size < w4.heap.size := by have := hb4.size; simp at this; omega
    have b0 := (hb4.cell (p := ⟨w3.heap.size, 0, none⟩) (by simp)).trans (show _ = some (.string xs) by simp)
    have b1 := (hb4.cell (p := ⟨w3.heap.size, 1, none⟩) (by simp)).trans (show _ = some (.int .i64 xv) by simp)
    have hCx : ∀ W, Calls Try.prog 23 #[.string s, .string xs] W fun e w' => e = .returned (.bool true) ∧ w' = W := fun W => hxl ▸ less_any s xs W
    generalize w3.heap.size = E at *
    generalize Ao o4 = A4 at *
    generalize hn4 : L.length = n4 at *
    have HN4 := Lib.hid hn4
    have HCX := Lib.hid hCx
    clear hsl hb4 K2 H4 H3 hn4 hlc hcm hLl C2 C3 hxl hCx
    go_wp2_with fail
    go_loopg [26] n4 (fun g s26 wr => ∃ k : Nat, g + k = n4 ∧ s26 = .int .i64 k ∧ Hid (Below w4.heap.size w4 wr))
    case atStart => exact ⟨0, by omega, rfl, Lib.hid (Below.refl _ _)⟩
    case round =>
      obtain ⟨k, hgk, rfl, HB⟩ := hrel
      have c0 := (HB.out.cell (p := ⟨E, 0, none⟩) hz3).trans b0
      have c1 := (HB.out.cell (p := ⟨E, 1, none⟩) hz3).trans b1
      by_cases hkn : k < n4
      · have hy : L[k]? = some (L[k]'(by rw [HN4.out]; exact hkn)) := List.getElem?_eq_getElem _
        obtain ⟨G, rfl, hG, f0, f1⟩ := (HR.out.below HB.out) k _ hy
        have hm := List.mem_of_getElem? hy
        generalize L[k]'(by rw [HN4.out]; exact hkn) = y at *
        obtain ⟨ys, yv⟩ := y
        dsimp only at f0 f1
        have HYX := Lib.hid (fun h => HFST.out (ys, yv) hm h)
        obtain ⟨q, hq⟩ : ∃ q, lessB s ys = q := ⟨_, rfl⟩
        have hC1 : ∀ W, Calls Try.prog 23 #[.string s, .string ys] W fun e w' => e = .returned (.bool q) ∧ w' = W := fun W => hq ▸ less_any s ys W
        have HQ := Lib.hid hq
        clear hy hm b0 b1 hq
        cases q
        · go_wp2_with fail
          go_quiet ((go_at_call 23; with_reducible exact Calls.quiet_of_same (hC1 _)))
          go_wp2_with fail
          go_roundg (gk - 1)
          case measure => omega
          case rel => exact ⟨k + 1, by omega, by go_num, Lib.hid (below_drewN HB.out _)⟩
        · have hyx : lessB ys xs = false := HYX.out HQ.out
          have hC2 : ∀ W, Calls Try.prog 23 #[.string ys, .string xs] W fun e w' => e = .returned (.bool false) ∧ w' = W := fun W => hyx ▸ less_any ys xs W
          clear hyx
          go_wp2_with fail
          go_quiet ((first | (go_at_call 23; with_reducible exact Calls.quiet_of_same (hC1 _)) | (go_at_call 23; with_reducible exact Calls.quiet_of_same (hC2 _))))
          go_wp2_with fail
          go_roundg (gk - 1)
          case measure => omega
          case rel => exact ⟨k + 1, by omega, by go_num, Lib.hid (below_drewN HB.out _)⟩
      · have hjn : ¬ ((k : Int) < (n4 : Int)) := by omega
        have H6 := Lib.hid (H5.out.below HB.out)
        have K3 := Lib.hid (C3x.out D wr H6.out)
        have hEr : E < wr.heap.size := Nat.lt_of_lt_of_le hz3 HB.out.size
        clear hkn b0 b1
        go_wp2_with fail
        refine K3.out.mono ?_
        rintro e w5 ⟨rfl, hb5⟩
        have d0 := (hb5.cell (p := ⟨E, 0, none⟩) hEr).trans c0
        have d1 := (hb5.cell (p := ⟨E, 1, none⟩) hEr).trans c1
        have H7 := Lib.hid (H6.out.below hb5)
        have K4 := Lib.hid (HCX.out w5)
        clear hb5 K3 c0 c1
        go_wp2_with fail
        refine K4.out.mono ?_
        rintro e w6 ⟨rfl, hw6⟩
        subst hw6
        go_wp2_with fail
        go_ret
        exact ⟨rfl, H7.out.bel⟩

set_option maxRecDepth 100000 in
theorem lifted (os : Os) (started : os.Started) (H : Type) (enc : TypeId × Value → H) :
    ReturnsInHanded {} Try.checked os 7 .any (Rows.dentsNextsSpec.pre6 enc Try.prog Try.f7 Rows.dentsNextsRow.domain false) (Rows.dentsNextsSpec.post enc Try.prog Try.f7 false true false false) := by
  refine returnsInHanded_of_change (C := Try.checked) own started (by kernel_rfl) Try.func7
    (ChangeSpec.witness6 (enc := enc) (C := Try.checked) false ⟨#[], #[.slice none 0 0, .string ByteArray.empty], []⟩ 8 (by kernel_rfl) (by kernel_rfl) (by kernel_rfl) (by kernel_rfl)) ?_
  intro W base args ds gs before hval0 hW hcnd _
  have hval : ∀ (j : Nat) t v, Try.f7.params[j]? = some t → args[j]? = some v → Value.okWide Try.prog W .any base t v := hval0
  have hW' := hW
  obtain ⟨p, q, hA0, hV, rfl, hfz, hnd⟩ := hW
  have hA : DataW.TrodAll enc Try.prog W 0 (fun _ => true) true Try.f7.params.toList args.toList ds p := hA0
  rw [Try.params7] at hA hval
  obtain ⟨v0, vs0, d0, ds0, p0, q0, hargs, rfl, rfl, h0, r0⟩ := trodAll_cons hA
  obtain ⟨v1, vs1, d1, ds1, p1, q1, rfl, rfl, rfl, h1, r1⟩ := trodAll_cons r0
  obtain ⟨rfl, rfl, rfl⟩ := trodAll_nil r1
  obtain rfl : args = #[v0, v1] := by cases args; simp_all
  obtain ⟨rfl, rfl⟩ := trodVars_none hV
  have hlt := fun x hx => hW'.lt x hx
  have t0 := h0
  obtain ⟨A0, n0, c0, x0, rfl, e0, s0⟩ := open_acts (hval 0 22 v0 rfl rfl) h0
  obtain ⟨a1, rfl, rfl, rfl, w1⟩ := open_string Try.underlying9 (hval 1 9 v1 rfl rfl) h1
  clear hA0 hval0
  refine (walk A0 n0 c0 x0 a1 W e0 s0 w1).mono fun e W' ⟨he, hg⟩ => ?_
  subst he
  exact ⟨_, rfl, law_post (pv := []) hW' (fun _ _ _ => (trodAll_cons_mk (shut_bool Try.underlying4 _) trodAll_mk0)) (fun sp hsp => (trodAll_cons_mk (arg_stays (by decide) t0 hg (by simp +contextual) hlt hsp laid) (trodAll_cons_mk (shut_string Try.underlying9 w1) trodAll_mk0))) (fun _ _ => rfl) (by simp)
    hg (ok_one (by kernel_rfl) rfl (okWide_bool_mk Try.underlying4 _))⟩

theorem over : Rows.dentsNextsRow.holds Try.pinned (OpenSpec.ofChange Rows.dentsNextsSpec) :=
  OpenClaim.holds_of_wide 7 Try.f7 rfl rfl rfl rfl rfl rfl rfl ⟨rfl, rfl, rfl, rfl, rfl⟩ rfl rfl rfl rfl rfl (by kernel_rfl) Try.func7 (by kernel_rfl)
    (of_decide_eq_true (by kernel_rfl)) (by unfold Func.isWrapper; first | (rw [if_pos (by decide +kernel)]; kernel_rfl) | (rw [if_neg (by decide +kernel)]; exact ⟨rfl, rfl⟩))
    (fun os started H enc _ => lifted os started H enc)

/-- The statement. -/
theorem proved : Rows.DentsNextsSaid :=
  over
end Go.Proofs.Ytchjidijgdkhoaa.dentsNexts
