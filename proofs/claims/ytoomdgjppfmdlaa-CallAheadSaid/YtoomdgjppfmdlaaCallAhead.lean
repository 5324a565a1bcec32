/- For every list of calls and every list of bytes the law CallAhead returns true, and what is handed in reads as it did; there are no conditions. -/
import Derived.Test.YtoomdgjppfmdlaaCp
import Derived.Deep.RegionWith
import Derived.Deep.QuietTactic
import Derived.BigQuiet
import Derived.ProofKit
import Derived.OpenShut
import Derived.ShutString
namespace Go.Proofs.Ytoomdgjppfmdlaa.callAhead
open Go.ChangeShapes Go.WideShapes Go.ChangeAt Go.RowKit
open Go.ChangeMaps (open_string shut_string)
open Go.Proofs.Ytoomdgjppfmdlaa
set_option linter.unusedVariables false

theorem own : ownKnob Try.prog.godebug = none := by kernel_rfl
theorem laid : laidOutB Try.prog = true := by kernel_rfl

theorem ok_split (L : List C) : (okS L = true ∧ scrB L = encs L ∧ errS L = 0 ∧ decs (encs L) 200 0 = L ∧ (encs L).length ≤ 27000) ∨ (okS L = false ∧ scrB L = [] ∧ errS L = 22) := by
  cases h : okS L with
  | true =>
    obtain ⟨h1, h2⟩ := (okS_iff L).1 h
    refine .inl ⟨rfl, scrB_yes h1 h2, errS_yes h1 h2, decs_back L 200 h2 h1, ?_⟩
    have := encs_len L h2
    omega
  | false => exact .inr ⟨rfl, if_neg (by rw [h]; decide), if_neg (by rw [h]; decide)⟩
theorem lit_bo (w : World) : Bo (w.alloc (.cells #[] 5)) w.heap.size (some ⟨w.heap.size, 0, none⟩) 0 0 [] := World.ownsRow_lit w #[] 0 (Nat.le_refl _) (by unfold maxLen; omega) rfl
theorem co_cap {w : World} {B n c : Nat} {A : Option Addr} {L : List C} (h : Co w B A n c L) : n ≤ c ∧ c ≤ maxLen := by
  rcases h.2 with ⟨e, h0⟩ | ⟨g, cap, cur, hv, hb, hg, h1, h2, _⟩
  · injection e with _ e2 e3
    subst e2; subst e3
    exact ⟨Nat.le_refl _, by unfold maxLen; omega⟩
  · injection hv with _ _ e3
    subst e3
    exact ⟨h1, h2⟩
theorem size24 (W : World) : (sizeOf (Try.prog.elem 24)).run Try.prog W = .ok 7 W := by kernel_rfl
theorem add_none (A : Option Addr) : A.map (fun x => x.add (0 * 7)) = A := by cases A <;> simp [Addr.add]
theorem run_head (A : Option Addr) (n k c : Nat) (hk : k ≤ c) (W : World) : (Instr.slice 24 (.slice A n c) none (some (.int .i64 k)) none).run Try.prog W = .ok (.slice A k c) W := by
  rw [run_slice_h (P := Try.prog) W 24 _ _ _ (by kernel_rfl) .i64 k (by omega) (by omega), size24]
  simp only [Result.andThen, sliced, add_none, Int.toNat_natCast, Nat.sub_zero]
  split <;> rfl
theorem run_tail (A : Option Addr) (n k c : Nat) (hk : k ≤ n) (W : World) : (Instr.slice 24 (.slice A n c) (some (.int .i64 k)) none none).run Try.prog W = .ok (.slice (if c = k then A else A.map (fun x => x.add (k * 7))) (n - k) (c - k)) W := by
  rw [run_slice_l (P := Try.prog) W 24 _ _ _ (by kernel_rfl) .i64 k (by omega) (by omega), size24]
  simp only [Result.andThen, sliced, Int.toNat_natCast]
theorem cls_head {w : World} {B k : Nat} {A : Option Addr} {L : List C} (h : Cls w B A L) : Cls w B A (L.take k) := fun i c hc => by
  refine h i c ?_
  rw [List.getElem?_take] at hc
  split at hc
  · exact hc
  · cases hc
theorem cls_tail {w : World} {B k n c : Nat} {A : Option Addr} {L : List C} (h : Cls w B A L) (hn : n = L.length) (hc : n ≤ c) : Cls w B (if c = k then A else A.map (fun x => x.add (k * 7))) (L.drop k) := fun i d hd => by
  have hi := (List.getElem?_eq_some_iff.1 hd).1
  rw [List.length_drop] at hi
  rw [List.getElem?_drop] at hd
  obtain ⟨G, off, e, hG, hcell⟩ := h (k + i) d hd
  rw [if_neg (by omega), e]
  refine ⟨G, off + k * 7, by simp only [Option.map_some, Go.WideShapes.add_plain], hG, fun j v hv => ?_⟩
  have := hcell j v hv
  rw [show off + k * 7 + i * 7 + j = off + (k + i) * 7 + j from by omega]
  exact this
set_option maxHeartbeats 4000000 in
set_option maxRecDepth 100000 in
theorem walk (A0 : Option Addr) (n0 d0 : Nat) (L : List C) (A1 : Option Addr) (n1 d1 : Nat) (l : Bs) (w : World) (e0 : n0 = List.length L) (m0 : n0 ≤ d0 ∧ d0 ≤ maxLen) (s0 : Cls w w.heap.size A0 L) (l0 : Lens L) (e1 : n1 = List.length l) (m1 : n1 ≤ d1 ∧ d1 ≤ maxLen) (s1 : Byt w w.heap.size A1 l) :
    Calls Try.prog 8 #[.slice A0 n0 d0, .slice A1 n1 d1] w (AwakeE w) := by
  have hnm : n0 ≤ 9223372036854775807 := by have := m0.1; have := m0.2; unfold maxLen at this; omega
  have hnm1 : n1 ≤ 9223372036854775807 := by have := m1.1; have := m1.2; unfold maxLen at this; omega
  have HN := Lib.hid e0
  have HC := Lib.hid s0
  have HL := Lib.hid l0
  have HM := Lib.hid e1
  have HB := Lib.hid s1
  clear e0 m0 s0 l0 e1 m1 s1
  by_cases hbig : 150 < n0
  · have hi : decide ((150 : Int) < (n0 : Int)) = true := by simp; omega
    go_enter Try.func8, Try.ntmps8
    go_wp2_with fail
    refine (awake_any _).mono ?_
    rintro e w1 ⟨rfl, hb1⟩
    go_wp2_with fail
    go_ret
    exact ⟨rfl, hb1⟩
  have hi : decide ((150 : Int) < (n0 : Int)) = false := by simp; omega
  by_cases hbig2 : 16384 < n1
  · have hi2 : decide ((16384 : Int) < (n1 : Int)) = true := by simp; omega
    go_enter Try.func8, Try.ntmps8
    go_wp2_with fail
    refine (awake_any _).mono ?_
    rintro e w1 ⟨rfl, hb1⟩
    go_wp2_with fail
    go_ret
    exact ⟨rfl, hb1⟩
  have hi2 : decide ((16384 : Int) < (n1 : Int)) = false := by simp; omega
  have hn0 : n0 ≤ 150 := by omega
  have hn1 : n1 ≤ 16384 := by omega
  clear hbig hbig2
  go_enter Try.func8, Try.ntmps8
  go_wp2_with fail
  refine (awake_any _).mono ?_
  rintro e w1 ⟨rfl, hb1⟩
  have HB1 := Lib.hid hb1
  have HS1 := Lib.hid (scr_any A0 n0 d0 L w1 HN.out (by omega) HL.out ((HC.out.below hb1).more hb1.size))
  clear hb1
  go_wp2_with fail
  refine HS1.out.mono ?_
  rintro e w2 ⟨A2, n2, d2, rfl, o2, b2⟩
  have HB2 := Lib.hid (below_step HB1.out b2)
  rcases ok_split L with ⟨hok, hsc, her, hdec, hlen⟩ | ⟨hok, hsc, her⟩
  · rw [hsc] at o2
    rw [her]
    have h2 : n2 ≤ 27000 := by have := o2.len; omega
    have HN2 := Lib.hid o2.len
    have HO2 := Lib.hid o2
    have hah := decs_ahead L l 200 ((okS_iff L).1 hok).2 (by rw [← HN.out]; omega)
    rw [← HN.out] at hah
    have HAH := Lib.hid hah
    have HO4 := Lib.hid (lit_bo w2)
    have HX4 := Lib.hid (fun ob => (o2.keep (below_alloc w2 ob)).byt)
    have HY4 := Lib.hid (fun ob W (hW : Below w2.heap.size (w2.alloc ob) W) => (HB.out.below HB2.out).below (((below_alloc w2 ob).trans hW).mono HB2.out.size))
    have HV4 := Lib.hid (fun ob W (hW : Below w2.heap.size (w2.alloc ob) W) => (show Below w.heap.size w W ∧ w2.heap.size ≤ W.heap.size from ⟨below_step HB2.out ((below_alloc w2 ob).trans hW), by have := hW.size; rw [World.size_alloc] at this; omega⟩))
    clear hok hsc her hdec hlen o2 b2 HS1 hah
    go_wp2_with (first
      | (at_builtin; refine wpList_app _ rfl (.tmp 26) (.tmp 27) rfl w2.heap.size _ 0 n2 0 d2 (some ⟨w2.heap.size, 0, none⟩) A2 [] _ (by rfl) (by rfl) HO4.out HN2.out (HX4.out _) (by omega) (by simp) ?_; intro A4 c4 w4 o4 b4; rw [Nat.zero_add, List.nil_append] at o4; have HB4 := Lib.hid b4; have HO5 := Lib.hid o4; clear o4 b4)
      | (at_builtin; refine wpList_app _ rfl (.tmp 28) (.tmp 29) rfl w2.heap.size w.heap.size n2 n1 c4 d1 A4 A1 _ l (by rfl) (by rfl) HO5.out HM.out (HY4.out _ _ HB4.out) (by omega) (HV4.out _ _ HB4.out).2 ?_; intro A5 c5 w5 o5 b5; have HB5 := Lib.hid (HV4.out _ _ (HB4.out.trans b5)).1; have HO6 := Lib.hid o5; clear o5 b5))
    have HD6 := Lib.hid (HAH.out ▸ dec_any A5 (n2 + n1) c5 _ w5 HO6.out.len (by omega) HO6.out.byt)
    refine HD6.out.mono ?_
    rintro e w6 ⟨A6, n6, d6, rfl, o6, b6⟩
    have HB6 := Lib.hid (below_step HB5.out b6)
    have HC6 := Lib.hid o6
    have HD7 := Lib.hid (dec_any A1 n1 d1 l w6 HM.out (by omega) ((HB.out.below HB6.out).more HB6.out.size))
    have hl6 := o6.len
    rw [List.length_append, ← HN.out] at hl6
    have HCC := Lib.hid (co_cap o6)
    have HL6 := Lib.hid hl6
    clear o6 b6 HD6 hl6
    go_wp2_with fail
    refine HD7.out.mono ?_
    rintro e w7 ⟨A7, n7, d7, rfl, o7, b7⟩
    have HB7 := Lib.hid (below_step HB6.out b7)
    have HC7 := Lib.hid (HC6.out.keep b7)
    have HE7 := Lib.hid o7
    have hc7 := co_cap o7
    have hl7 := o7.len
    have h200 := decs_len l 200 0
    rw [← hl7] at h200
    have hc6 := HCC.out
    have htk := decs_take l (200 - n0) 200 0 (by omega)
    have htl := decs_len l (200 - n0) 0
    clear o7 b7 HD7
    generalize decs l (200 - n0) 0 = T at *
    generalize decs l 200 0 = N at *
    have hl6 := HL6.out
    have hm6 : n6 ≤ 9223372036854775807 := by have := hc6.1; have := hc6.2; unfold maxLen at this; omega
    have ha := run_head A6 n6 n0 d6 (by omega)
    have hb := run_tail A6 n6 n0 d6 (by omega)
    have hlt : decide ((n6 : Int) < (n0 : Int)) = false := by simp; omega
    have h6 : n0 ≤ n6 := by omega
    have h6b : n6 ≤ 200 := by omega
    have HHD := Lib.hid (cls_head (k := n0) HC7.out.cls)
    have HTL := Lib.hid (cls_tail (k := n0) (n := n6) (c := d6) HC7.out.cls (by rw [List.length_append, ← HN.out]; exact hl6) hc6.1)
    rw [List.take_left' HN.out.symm] at HHD
    rw [List.drop_left' HN.out.symm] at HTL
    obtain ⟨AT, hAT⟩ : ∃ AT, (if d6 = n0 then A6 else A6.map (fun x => x.add (n0 * 7))) = AT := ⟨_, rfl⟩
    rw [hAT] at hb HTL
    have HS8 := Lib.hid (leq_self L ▸ same_any A6 A0 n0 n0 d6 d0 _ _ L L w7 HN.out HN.out (by omega) (by omega) (Nat.le_refl _) HB7.out.size HHD.out (HC.out.below HB7.out))
    have HL7 := Lib.hid hl7
    have HTK := Lib.hid htk
    clear hl6 hl7 htk hc6 hAT HHD
    go_wp2_with fail
    refine HS8.out.mono ?_
    rintro e w8 ⟨rfl, b8⟩
    have HB8 := Lib.hid (below_step HB7.out b8)
    have HTL8 := Lib.hid (HTL.out.below b8)
    have HE8 := Lib.hid (HE7.out.keep b8)
    have HZ8 := Lib.hid b8.size
    clear b8 HS8 ha
    obtain ⟨k, hk⟩ : ∃ k, min n7 (200 - n0) = k := ⟨_, rfl⟩
    have hif : (if 200 - (n0 : Int) < (n7 : Int) then 200 - (n0 : Int) else (n7 : Int)) = (k : Int) := by split <;> omega
    have hh := fun W => run_head A7 n7 k d7 (by omega) W
    rw [← hif] at hh
    have hTk : N.take k = T := by
      rw [← HTK.out, ← hk]
      rcases Nat.le_total n7 (200 - n0) with h | h
      · rw [Nat.min_eq_left h, List.take_of_length_le (by rw [← HL7.out]; exact Nat.le_refl _), List.take_of_length_le (by rw [← HL7.out]; exact h)]
      · rw [Nat.min_eq_right h]
    have HK8 := Lib.hid (hTk ▸ cls_head (k := k) HE8.out.cls)
    have hkt : k = T.length := by rw [← hTk, List.length_take, ← HL7.out]; omega
    have hk200 : k ≤ 200 := by omega
    have HS9 := Lib.hid (leq_self T ▸ same_any AT A7 (n6 - n0) k (d6 - n0) d7 _ _ T T w8.drew (by have := HL6.out; omega) hkt (by omega) (by omega) (by exact HZ8.out) (Nat.le_refl _) HTL8.out HK8.out)
    have HT8 := Lib.hid (show Below w.heap.size w w8.drew from below_drewN HB8.out 1)
    have hwr : IntKind.i64.wrap (200 - (n0 : Int)) = 200 - (n0 : Int) := IntWalk.i64_in _ (by omega)
    clear hif hk hkt hTk
    go_wp2_with fail
    go_still_tail 12, (by kernel_rfl)
    change wpList _ _ _ _ _ (World.drew _)
    clear hwr hh hb
    go_wp2_with fail
    all_goals
      refine HS9.out.mono ?_
      rintro e w9 ⟨rfl, b9⟩
      have HB9 := Lib.hid (below_step HT8.out b9)
      clear b9 HS9
      go_wp2_with fail
      go_ret
      exact ⟨rfl, HB9.out⟩
  · rw [her]
    clear hok hsc her o2 b2
    go_wp2_with fail
    go_ret
    exact ⟨rfl, HB2.out⟩

set_option maxRecDepth 100000 in
theorem lifted (os : Os) (started : os.Started) (H : Type) (enc : TypeId × Value → H) :
    ReturnsInHanded {} Try.checked os 8 .any (Rows.callAheadSpec.pre6 enc Try.prog Try.f8 Rows.callAheadRow.domain false) (Rows.callAheadSpec.post enc Try.prog Try.f8 false true false false) := by
  refine returnsInHanded_of_change (C := Try.checked) own started (by kernel_rfl) Try.func8
    (ChangeSpec.witness6 (enc := enc) (C := Try.checked) false ⟨#[], #[.slice none 0 0, .slice none 0 0], []⟩ 8 (by kernel_rfl) (by kernel_rfl) (by kernel_rfl) (by kernel_rfl)) ?_
  intro W base args ds gs before hval0 hW hcnd _
  have hval : ∀ (j : Nat) t v, Try.f8.params[j]? = some t → args[j]? = some v → Value.okWide Try.prog W .any base t v := hval0
  have hW' := hW
  obtain ⟨p, q, hA0, hV, rfl, hfz, hnd⟩ := hW
  have hA : DataW.TrodAll enc Try.prog W 0 (fun _ => true) true Try.f8.params.toList args.toList ds p := hA0
  rw [Try.params8] at hA hval
  obtain ⟨v0, vs0, d0, ds0, p0, q0, hargs, rfl, rfl, h0, r0⟩ := trodAll_cons hA
  obtain ⟨v1, vs1, d1, ds1, p1, q1, rfl, rfl, rfl, h1, r1⟩ := trodAll_cons r0
  obtain ⟨rfl, rfl, rfl⟩ := trodAll_nil r1
  obtain rfl : args = #[v0, v1] := by cases args; simp_all
  obtain ⟨rfl, rfl⟩ := trodVars_none hV
  have hlt := fun x hx => hW'.lt x hx
  have t0 := h0
  obtain ⟨A0, n0, c0, x0, rfl, e0, m0, s0, l0⟩ := open_calls (hval 0 24 v0 rfl rfl) h0
  have t1 := h1
  obtain ⟨A1, n1, c1, x1, rfl, e1, m1, s1⟩ := open_bytes (hval 1 22 v1 rfl rfl) h1
  clear hA0 hval0
  refine (walk A0 n0 c0 x0 A1 n1 c1 x1 W e0 m0 s0 l0 e1 m1 s1).mono fun e W' ⟨he, hg⟩ => ?_
  subst he
  exact ⟨_, rfl, law_post (pv := []) hW' (fun _ _ _ => (trodAll_cons_mk (shut_bool Try.underlying4 _) trodAll_mk0)) (fun sp hsp => (trodAll_cons_mk (arg_stays (by decide) t0 hg (by simp +contextual) hlt hsp laid) (trodAll_cons_mk (arg_stays (by decide) t1 hg (by simp +contextual) hlt hsp laid) trodAll_mk0))) (fun _ _ => rfl) (by simp)
    hg (ok_one (by kernel_rfl) rfl (okWide_bool_mk Try.underlying4 _))⟩

theorem over : Rows.callAheadRow.holds Try.pinned (OpenSpec.ofChange Rows.callAheadSpec) :=
  OpenClaim.holds_of_wide 8 Try.f8 rfl rfl rfl rfl rfl rfl rfl ⟨rfl, rfl, rfl, rfl, rfl⟩ rfl rfl rfl rfl rfl (by kernel_rfl) Try.func8 (by kernel_rfl)
    (of_decide_eq_true (by kernel_rfl)) (by unfold Func.isWrapper; first | (rw [if_pos (by decide +kernel)]; kernel_rfl) | (rw [if_neg (by decide +kernel)]; exact ⟨rfl, rfl⟩))
    (fun os started H enc _ => lifted os started H enc)

/-- The statement. -/
theorem proved : Rows.CallAheadSaid :=
  over
end Go.Proofs.Ytoomdgjppfmdlaa.callAhead
