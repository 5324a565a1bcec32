/- For every two lists of calls the law CallJoins returns true, and what is handed in reads as it did; there are no conditions. -/
import Derived.Test.YtoomdgjppfmdlaaCp
import Derived.Deep.RegionWith
import Derived.Deep.QuietTactic
import Derived.BigQuiet
import Derived.ProofKit
import Derived.OpenShut
import Derived.ShutString
namespace Go.Proofs.Ytoomdgjppfmdlaa.callJoins
open Go.ChangeShapes Go.WideShapes Go.ChangeAt Go.RowKit
open Go.ChangeMaps (open_string shut_string)
open Go.Proofs.Ytoomdgjppfmdlaa
set_option linter.unusedVariables false

theorem own : ownKnob Try.prog.godebug = none := by kernel_rfl
theorem laid : laidOutB Try.prog = true := by kernel_rfl

theorem ok_split (L : List C) : (okS L = true ∧ scrB L = encs L ∧ errS L = 0 ∧ decs (encs L) 200 0 = L ∧ (encs L).length ≤ 27000) ∨ (okS L = false ∧ scrB L = [] ∧ errS L = 22) := by
  cases h : okS L with
  | true =>
    obtain ⟨h1, h2⟩ := (okS_iff L).1 h
    refine .inl ⟨rfl, scrB_yes h1 h2, errS_yes h1 h2, decs_back L 200 h2 h1, ?_⟩
    have := encs_len L h2
    omega
  | false => exact .inr ⟨rfl, if_neg (by rw [h]; decide), if_neg (by rw [h]; decide)⟩
theorem joined (L M : List C) (h1 : okS L = true) (h2 : okS M = true) (h3 : L.length ≤ 100) (h4 : M.length ≤ 100) : decs (encs L ++ encs M) 200 0 = L ++ M := by
  rw [← encs_app]
  refine decs_back (L ++ M) 200 (fun c hc => ?_) (by rw [List.length_append]; omega)
  rcases List.mem_append.1 hc with hc | hc
  · exact ((okS_iff L).1 h1).2 c hc
  · exact ((okS_iff M).1 h2).2 c hc
theorem lit_co (w : World) : Co (w.alloc (.cells #[] 32)) w.heap.size (some ⟨w.heap.size, 0, none⟩) 0 0 [] := World.ownsRow_lit w #[] 0 (Nat.le_refl _) (by unfold maxLen; omega) rfl
theorem lit_bo (w : World) : Bo (w.alloc (.cells #[] 5)) w.heap.size (some ⟨w.heap.size, 0, none⟩) 0 0 [] := World.ownsRow_lit w #[] 0 (Nat.le_refl _) (by unfold maxLen; omega) rfl
set_option maxHeartbeats 4000000 in
set_option maxRecDepth 100000 in
theorem walk (A0 : Option Addr) (n0 d0 : Nat) (L : List C) (A1 : Option Addr) (n1 d1 : Nat) (M : List C) (w : World) (e0 : n0 = List.length L) (m0 : n0 ≤ d0 ∧ d0 ≤ maxLen) (s0 : Cls w w.heap.size A0 L) (l0 : Lens L) (e1 : n1 = List.length M) (m1 : n1 ≤ d1 ∧ d1 ≤ maxLen) (s1 : Cls w w.heap.size A1 M) (l1 : Lens M) :
    Calls Try.prog 7 #[.slice A0 n0 d0, .slice A1 n1 d1] w (AwakeE w) := by
  have hnm : n0 ≤ 9223372036854775807 := by have := m0.1; have := m0.2; unfold maxLen at this; omega
  have hnm1 : n1 ≤ 9223372036854775807 := by have := m1.1; have := m1.2; unfold maxLen at this; omega
  have HN := Lib.hid e0
  have HC := Lib.hid s0
  have HL := Lib.hid l0
  have HM := Lib.hid e1
  have HD := Lib.hid s1
  have HK := Lib.hid l1
  clear e0 m0 s0 l0 e1 m1 s1 l1
  by_cases hbig : 100 < n0
  · have hi : decide ((100 : Int) < (n0 : Int)) = true := by simp; omega
    go_enter Try.func7, Try.ntmps7
    go_wp2_with fail
    refine (awake_any _).mono ?_
    rintro e w1 ⟨rfl, hb1⟩
    go_wp2_with fail
    go_ret
    exact ⟨rfl, hb1⟩
  have hi : decide ((100 : Int) < (n0 : Int)) = false := by simp; omega
  by_cases hbig2 : 100 < n1
  · have hi2 : decide ((100 : Int) < (n1 : Int)) = true := by simp; omega
    go_enter Try.func7, Try.ntmps7
    go_wp2_with fail
    refine (awake_any _).mono ?_
    rintro e w1 ⟨rfl, hb1⟩
    go_wp2_with fail
    go_ret
    exact ⟨rfl, hb1⟩
  have hi2 : decide ((100 : Int) < (n1 : Int)) = false := by simp; omega
  have hn0 : n0 ≤ 100 := by omega
  have hn1 : n1 ≤ 100 := by omega
  clear hbig hbig2
  go_enter Try.func7, Try.ntmps7
  go_wp2_with fail
  refine (awake_any _).mono ?_
  rintro e w1 ⟨rfl, hb1⟩
  have HB1 := Lib.hid hb1
  have HS1 := Lib.hid (scr_any A0 n0 d0 L w1 HN.out (by omega) HL.out ((HC.out.below hb1).more hb1.size))
  clear hb1
  go_wp2_with fail
  refine HS1.out.mono ?_
  rintro e w2 ⟨A2, n2, d2, rfl, o2, b2⟩
  have HB2 := Lib.hid (below_step HB1.out b2)
  have HS2 := Lib.hid (scr_any A1 n1 d1 M w2 HM.out (by omega) HK.out ((HD.out.below HB2.out).more HB2.out.size))
  have HO2 := Lib.hid o2
  clear o2 b2 HS1
  go_wp2_with fail
  refine HS2.out.mono ?_
  rintro e w3 ⟨A3, n3, d3, rfl, o3, b3⟩
  have HB3 := Lib.hid (below_step HB2.out b3)
  have HO3 := Lib.hid o3
  have HP3 := Lib.hid (HO2.out.keep b3)
  clear o3 b3 HS2
  rcases ok_split L with ⟨hok, hsc, her, hdec, hlen⟩ | ⟨hok, hsc, her⟩
  · rcases ok_split M with ⟨hok2, hsc2, her2, hdec2, hlen2⟩ | ⟨hok2, hsc2, her2⟩
    · rw [hsc] at HP3
      rw [hsc2] at HO3
      rw [her, her2]
      have h2 : n2 ≤ 27000 := by have := HP3.out.len; omega
      have h3 : n3 ≤ 27000 := by have := HO3.out.len; omega
      have HJ := Lib.hid (joined L M hok hok2 (by rw [← HN.out]; omega) (by rw [← HM.out]; omega))
      have HO4 := Lib.hid (lit_bo w3)
      have HX4 := Lib.hid (fun ob => (HP3.out.keep (below_alloc w3 ob)).byt)
      have HY4 := Lib.hid (fun ob W (hW : Below w3.heap.size (w3.alloc ob) W) => (HO3.out.byt.below ((below_alloc w3 ob).trans hW)))
      have HV4 := Lib.hid (fun ob W (hW : Below w3.heap.size (w3.alloc ob) W) => (show Below w.heap.size w W ∧ w3.heap.size ≤ W.heap.size from ⟨below_step HB3.out ((below_alloc w3 ob).trans hW), by have := hW.size; rw [World.size_alloc] at this; omega⟩))
      have HN2 := Lib.hid HP3.out.len
      have HN3 := Lib.hid HO3.out.len
      clear hok hsc her hdec hlen hok2 hsc2 her2 hdec2 hlen2
      go_wp2_with (first
        | (at_builtin; refine wpList_app _ rfl (.tmp 35) (.tmp 36) rfl w3.heap.size _ 0 n2 0 d2 (some ⟨w3.heap.size, 0, none⟩) A2 [] _ (by rfl) (by rfl) HO4.out HN2.out (HX4.out _) (by omega) (by simp) ?_; intro A4 c4 w4 o4 b4; rw [Nat.zero_add, List.nil_append] at o4; have HB4 := Lib.hid b4; have HO5 := Lib.hid o4; clear o4 b4)
        | (at_builtin; refine wpList_app _ rfl (.tmp 37) (.tmp 38) rfl w3.heap.size _ n2 n3 c4 d3 A4 A3 _ _ (by rfl) (by rfl) HO5.out HN3.out (HY4.out _ _ HB4.out) (by omega) (HV4.out _ _ HB4.out).2 ?_; intro A5 c5 w5 o5 b5; have HB5 := Lib.hid (HV4.out _ _ (HB4.out.trans b5)).1; have HO6 := Lib.hid o5; clear o5 b5))
      have HD6 := Lib.hid (HJ.out ▸ dec_any A5 (n2 + n3) c5 _ w5 HO6.out.len (by omega) HO6.out.byt)
      refine HD6.out.mono ?_
      rintro e w6 ⟨A6, n6, d6, rfl, o6, b6⟩
      have HB6 := Lib.hid (below_step HB5.out b6)
      have HC6 := Lib.hid o6
      have HN6 := Lib.hid o6.len
      have h6 : n6 ≤ 200 := by have := o6.len; rw [List.length_append] at this; have := HN.out; have := HM.out; omega
      have HO7 := Lib.hid (lit_co w6)
      have HX7 := Lib.hid (fun ob => (HC.out.below HB6.out).below ((below_alloc w6 ob).mono HB6.out.size))
      have HY7 := Lib.hid (fun ob W (hW : Below w6.heap.size (w6.alloc ob) W) => (HD.out.below HB6.out).below (((below_alloc w6 ob).trans hW).mono HB6.out.size))
      have HV7 := Lib.hid (fun ob W (hW : Below w6.heap.size (w6.alloc ob) W) => (show Below w.heap.size w W ∧ w6.heap.size ≤ W.heap.size ∧ Cls W w6.heap.size A6 (L ++ M) from ⟨below_step HB6.out ((below_alloc w6 ob).trans hW), by have := hW.size; rw [World.size_alloc] at this; omega, HC6.out.cls.below ((below_alloc w6 ob).trans hW)⟩))
      clear o6 b6 HD6
      go_wp2_with (first
        | (at_builtin; refine wpList_appc _ rfl (.tmp 41) (.tmp 42) rfl w6.heap.size w.heap.size 0 n0 0 d0 (some ⟨w6.heap.size, 0, none⟩) A0 [] L (by rfl) (by rfl) HO7.out HN.out (HX7.out _) (by omega) (by simp) ?_; intro A7 c7 w7 o7 b7; rw [Nat.zero_add, List.nil_append] at o7; have HB7 := Lib.hid b7; have HO8 := Lib.hid o7; clear o7 b7)
        | (at_builtin; refine wpList_appc _ rfl (.tmp 43) (.tmp 44) rfl w6.heap.size w.heap.size n0 n1 c7 d1 A7 A1 L M (by rfl) (by rfl) HO8.out HM.out (HY7.out _ _ HB7.out) (by omega) (HV7.out _ _ HB7.out).2.1 ?_; intro A8 c8 w8 o8 b8; have HB8 := Lib.hid (HV7.out _ _ (HB7.out.trans b8)); have HO9 := Lib.hid o8; clear o8 b8))
      have HS9 := Lib.hid (leq_self (L ++ M) ▸ same_any A6 A8 n6 (n0 + n1) d6 c8 _ _ (L ++ M) (L ++ M) w8 HN6.out HO9.out.len (by omega) (by omega) HB8.out.2.1 (Nat.le_refl _) HB8.out.2.2 HO9.out.cls)
      refine HS9.out.mono ?_
      rintro e w9 ⟨rfl, b9⟩
      have HB9 := Lib.hid (below_step HB8.out.1 b9)
      clear b9 HS9
      go_wp2_with fail
      go_ret
      exact ⟨rfl, HB9.out⟩
    · rw [her, her2]
      clear hok hsc her hdec hlen hok2 hsc2 her2
      go_wp2_with fail
      go_ret
      exact ⟨rfl, HB3.out⟩
  · rw [her]
    clear hok hsc her
    go_wp2_with fail
    go_ret
    exact ⟨rfl, HB3.out⟩

set_option maxRecDepth 100000 in
theorem lifted (os : Os) (started : os.Started) (H : Type) (enc : TypeId × Value → H) :
    ReturnsInHanded {} Try.checked os 7 .any (Rows.callJoinsSpec.pre6 enc Try.prog Try.f7 Rows.callJoinsRow.domain false) (Rows.callJoinsSpec.post enc Try.prog Try.f7 false true false false) := by
  refine returnsInHanded_of_change (C := Try.checked) own started (by kernel_rfl) Try.func7
    (ChangeSpec.witness6 (enc := enc) (C := Try.checked) false ⟨#[], #[.slice none 0 0, .slice none 0 0], []⟩ 8 (by kernel_rfl) (by kernel_rfl) (by kernel_rfl) (by kernel_rfl)) ?_
  intro W base args ds gs before hval0 hW hcnd _
  have hval : ∀ (j : Nat) t v, Try.f7.params[j]? = some t → args[j]? = some v → Value.okWide Try.prog W .any base t v := hval0
  have hW' := hW
  obtain ⟨p, q, hA0, hV, rfl, hfz, hnd⟩ := hW
  have hA : DataW.TrodAll enc Try.prog W 0 (fun _ => true) true Try.f7.params.toList args.toList ds p := hA0
  rw [Try.params7] at hA hval
  obtain ⟨v0, vs0, d0, ds0, p0, q0, hargs, rfl, rfl, h0, r0⟩ := trodAll_cons hA
  obtain ⟨v1, vs1, d1, ds1, p1, q1, rfl, rfl, rfl, h1, r1⟩ := trodAll_cons r0
  obtain ⟨rfl, rfl, rfl⟩ := trodAll_nil r1
  obtain rfl : args = #[v0, v1] := by cases args; simp_all
  obtain ⟨rfl, rfl⟩ := trodVars_none hV
  have hlt := fun x hx => hW'.lt x hx
  have t0 := h0
  obtain ⟨A0, n0, c0, x0, rfl, e0, m0, s0, l0⟩ := open_calls (hval 0 24 v0 rfl rfl) h0
  have t1 := h1
  obtain ⟨A1, n1, c1, x1, rfl, e1, m1, s1, l1⟩ := open_calls (hval 1 24 v1 rfl rfl) h1
  clear hA0 hval0
  refine (walk A0 n0 c0 x0 A1 n1 c1 x1 W e0 m0 s0 l0 e1 m1 s1 l1).mono fun e W' ⟨he, hg⟩ => ?_
  subst he
  exact ⟨_, rfl, law_post (pv := []) hW' (fun _ _ _ => (trodAll_cons_mk (shut_bool Try.underlying4 _) trodAll_mk0)) (fun sp hsp => (trodAll_cons_mk (arg_stays (by decide) t0 hg (by simp +contextual) hlt hsp laid) (trodAll_cons_mk (arg_stays (by decide) t1 hg (by simp +contextual) hlt hsp laid) trodAll_mk0))) (fun _ _ => rfl) (by simp)
    hg (ok_one (by kernel_rfl) rfl (okWide_bool_mk Try.underlying4 _))⟩

theorem over : Rows.callJoinsRow.holds Try.pinned (OpenSpec.ofChange Rows.callJoinsSpec) :=
  OpenClaim.holds_of_wide 7 Try.f7 rfl rfl rfl rfl rfl rfl rfl ⟨rfl, rfl, rfl, rfl, rfl⟩ rfl rfl rfl rfl rfl (by kernel_rfl) Try.func7 (by kernel_rfl)
    (of_decide_eq_true (by kernel_rfl)) (by unfold Func.isWrapper; first | (rw [if_pos (by decide +kernel)]; kernel_rfl) | (rw [if_neg (by decide +kernel)]; exact ⟨rfl, rfl⟩))
    (fun os started H enc _ => lifted os started H enc)

/-- The statement. -/
theorem proved : Rows.CallJoinsSaid :=
  over
end Go.Proofs.Ytoomdgjppfmdlaa.callJoins
