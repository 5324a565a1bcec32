/- For every list of calls and every list of bytes the law CallBack returns true, and what is handed in reads as it did; there are no conditions. -/
import Derived.Test.YtoomdgjppfmdlaaCp
import Derived.Deep.RegionWith
import Derived.Deep.QuietTactic
import Derived.BigQuiet
import Derived.ProofKit
import Derived.OpenShut
import Derived.ShutString
namespace Go.Proofs.Ytoomdgjppfmdlaa.callBack
open Go.ChangeShapes Go.WideShapes Go.ChangeAt Go.RowKit
open Go.ChangeMaps (open_string shut_string)
open Go.Proofs.Ytoomdgjppfmdlaa
set_option linter.unusedVariables false

theorem own : ownKnob Try.prog.godebug = none := by kernel_rfl
theorem laid : laidOutB Try.prog = true := by kernel_rfl

theorem ok_split (L : List C) : (okS L = true ∧ scrB L = encs L ∧ errS L = 0 ∧ decs (encs L) 200 0 = L ∧ (encs L).length ≤ 27000) ∨ (okS L = false ∧ scrB L = [] ∧ errS L = 22) := by
  cases h : okS L with
  | true =>
    obtain ⟨h1, h2⟩ := (okS_iff L).1 h
    refine .inl ⟨rfl, scrB_yes h1 h2, errS_yes h1 h2, decs_back L 200 h2 h1, ?_⟩
    have := encs_len L h2
    omega
  | false => exact .inr ⟨rfl, if_neg (by rw [h]; decide), if_neg (by rw [h]; decide)⟩
theorem lens_decs (l : Bs) (k i : Nat) : Lens (decs l k i) := fun c hc => by
  have h := decs_may l k i c hc
  have := h.2.2.2.2.2.1
  have := h.2.2.2.2.2.2
  unfold maxLen
  exact ⟨by omega, by omega⟩
theorem decs_ok (l : Bs) : okS (decs l 200 0) = true := (okS_iff _).2 ⟨decs_len _ _ _, decs_may _ _ _⟩
/-- The law's second half: bytes, their calls, and those calls' bytes. -/
def Half (w : World) (e : Ending) (w' : World) : Prop := AwakeE w e w'
set_option maxHeartbeats 4000000 in
set_option maxRecDepth 100000 in
theorem walk (A0 : Option Addr) (n0 d0 : Nat) (L : List C) (A1 : Option Addr) (n1 d1 : Nat) (l : Bs) (w : World) (e0 : n0 = List.length L) (m0 : n0 ≤ d0 ∧ d0 ≤ maxLen) (s0 : Cls w w.heap.size A0 L) (l0 : Lens L) (e1 : n1 = List.length l) (m1 : n1 ≤ d1 ∧ d1 ≤ maxLen) (s1 : Byt w w.heap.size A1 l) :
    Calls Try.prog 6 #[.slice A0 n0 d0, .slice A1 n1 d1] w (AwakeE w) := by
  have hnm : n0 ≤ 9223372036854775807 := by have := m0.1; have := m0.2; unfold maxLen at this; omega
  have hnm1 : n1 ≤ 9223372036854775807 := by have := m1.1; have := m1.2; unfold maxLen at this; omega
  have HN := Lib.hid e0
  have HC := Lib.hid s0
  have HL := Lib.hid l0
  have HM := Lib.hid e1
  have HB := Lib.hid s1
  clear e0 m0 s0 l0 e1 m1 s1
  by_cases hbig : 300 < n0
  · have hi : decide ((300 : Int) < (n0 : Int)) = true := by simp; omega
    go_enter Try.func6, Try.ntmps6
    go_wp2_with fail
    refine (awake_any _).mono ?_
    rintro e w1 ⟨rfl, hb1⟩
    go_wp2_with fail
    go_ret
    exact ⟨rfl, hb1⟩
  have hi : decide ((300 : Int) < (n0 : Int)) = false := by simp; omega
  by_cases hbig2 : 65536 < n1
  · have hi2 : decide ((65536 : Int) < (n1 : Int)) = true := by simp; omega
    go_enter Try.func6, Try.ntmps6
    go_wp2_with fail
    refine (awake_any _).mono ?_
    rintro e w1 ⟨rfl, hb1⟩
    go_wp2_with fail
    go_ret
    exact ⟨rfl, hb1⟩
  have hi2 : decide ((65536 : Int) < (n1 : Int)) = false := by simp; omega
  have hn0 : n0 ≤ 300 := by omega
  have hn1 : n1 ≤ 65536 := by omega
  clear hbig hbig2
  go_enter Try.func6, Try.ntmps6
  go_wp2_with fail
  refine (awake_any _).mono ?_
  rintro e w1 ⟨rfl, hb1⟩
  have HB1 := Lib.hid hb1
  have HS1 := Lib.hid (scr_any A0 n0 d0 L w1 HN.out (by omega) HL.out ((HC.out.below hb1).more hb1.size))
  clear hb1
  go_wp2_with fail
  refine HS1.out.mono ?_
  rintro e w2 ⟨A2, n2, d2, rfl, o2, b2⟩
  rcases ok_split L with ⟨hok, hsc, her, hdec, hlen⟩ | ⟨hok, hsc, her⟩
  · rw [hsc] at o2
    rw [her]
    have h2 : n2 ≤ 27000 := by have := o2.len; omega
    have HB2 := Lib.hid (below_step HB1.out b2)
    have HD2 := Lib.hid (hdec ▸ dec_any A2 n2 d2 _ w2 o2.len (by omega) o2.byt)
    clear o2 b2 hok hsc her hdec hlen HS1
    go_wp2_with fail
    refine HD2.out.mono ?_
    rintro e w3 ⟨A3, n3, d3, rfl, o3, b3⟩
    have HB3 := Lib.hid (below_step HB2.out b3)
    have h3 : n3 ≤ 300 := by have := o3.len; have := HN.out; omega
    have HS3 := Lib.hid (leq_self L ▸ same_any A3 A0 n3 n0 d3 d0 _ _ L L w3 o3.len HN.out (by omega) (by omega) (Nat.le_refl _) (HB3.out.size) o3.cls (HC.out.below HB3.out))
    clear o3 b3 HD2
    go_wp2_with fail
    refine HS3.out.mono ?_
    rintro e w4 ⟨rfl, b4⟩
    have HB4 := Lib.hid (below_step HB3.out b4)
    clear b4 HS3
    have HD4 := Lib.hid (dec_any A1 n1 d1 l w4 HM.out (by omega) ((HB.out.below HB4.out).more HB4.out.size))
    go_wp2_with fail
    refine HD4.out.mono ?_
    rintro e w5 ⟨A5, n5, d5, rfl, o5, b5⟩
    have h5 : n5 ≤ 200 := by have := o5.len; have := decs_len l 200 0; omega
    have HB5 := Lib.hid (below_step HB4.out b5)
    have HO5 := Lib.hid o5
    have hlens := lens_decs l 200 0
    have hdok := decs_ok l
    clear o5 b5 HD4
    generalize decs l 200 0 = D at *
    obtain ⟨hok, hsc, her, hdec, hlen⟩ : okS D = true ∧ scrB D = encs D ∧ errS D = 0 ∧ decs (encs D) 200 0 = D ∧ (encs D).length ≤ 27000 := by
      rcases ok_split D with h | h
      · exact h
      · rw [hdok] at h; cases h.1
    have HS5 := Lib.hid (hsc ▸ her ▸ scr_any A5 n5 d5 D w5 HO5.out.len (by omega) hlens HO5.out.cls)
    have HDEC := Lib.hid hdec
    have HLEN := Lib.hid hlen
    clear hok hsc her hdec hlens hdok hlen
    go_wp2_with fail
    refine HS5.out.mono ?_
    rintro e w6 ⟨A6, n6, d6, rfl, o6, b6⟩
    have h6 : n6 ≤ 27000 := by have := o6.len; have := HLEN.out; omega
    have HB6 := Lib.hid (below_step HB5.out b6)
    have HO6 := Lib.hid (HO5.out.keep b6)
    have HD6 := Lib.hid (HDEC.out ▸ dec_any A6 n6 d6 _ w6 o6.len (by omega) o6.byt)
    clear o6 b6 HS5
    go_wp2_with fail
    refine HD6.out.mono ?_
    rintro e w7 ⟨A7, n7, d7, rfl, o7, b7⟩
    have HB7 := Lib.hid (below_step HB6.out b7)
    have HO7 := Lib.hid (HO6.out.keep b7)
    have h7 : n7 ≤ 200 := by have := o7.len; have := HO7.out.len; omega
    have HS7 := Lib.hid (leq_self D ▸ same_any A7 A5 n7 n5 d7 d5 _ _ D D w7 o7.len HO7.out.len (by omega) (by omega) (Nat.le_refl _) (Nat.le_refl _) o7.cls HO7.out.cls)
    clear o7 b7 HD6
    go_wp2_with fail
    refine HS7.out.mono ?_
    rintro e w8 ⟨rfl, b8⟩
    have HB8 := Lib.hid (below_step HB7.out b8)
    clear b8
    go_wp2_with fail
    go_ret
    exact ⟨rfl, HB8.out⟩
  · rw [her]
    have HB4 := Lib.hid (below_step HB1.out b2)
    clear o2 b2 hok hsc her HS1
    obtain ⟨w4, hw4⟩ : ∃ w4, w2 = w4 := ⟨_, rfl⟩
    subst hw4
    have HD4 := Lib.hid (dec_any A1 n1 d1 l w2 HM.out (by omega) ((HB.out.below HB4.out).more HB4.out.size))
    go_wp2_with fail
    refine HD4.out.mono ?_
    rintro e w5 ⟨A5, n5, d5, rfl, o5, b5⟩
    have h5 : n5 ≤ 200 := by have := o5.len; have := decs_len l 200 0; omega
    have HB5 := Lib.hid (below_step HB4.out b5)
    have HO5 := Lib.hid o5
    have hlens := lens_decs l 200 0
    have hdok := decs_ok l
    clear o5 b5 HD4
    generalize decs l 200 0 = D at *
    obtain ⟨hok, hsc, her, hdec, hlen⟩ : okS D = true ∧ scrB D = encs D ∧ errS D = 0 ∧ decs (encs D) 200 0 = D ∧ (encs D).length ≤ 27000 := by
      rcases ok_split D with h | h
      · exact h
      · rw [hdok] at h; cases h.1
    have HS5 := Lib.hid (hsc ▸ her ▸ scr_any A5 n5 d5 D w5 HO5.out.len (by omega) hlens HO5.out.cls)
    have HDEC := Lib.hid hdec
    have HLEN := Lib.hid hlen
    clear hok hsc her hdec hlens hdok hlen
    go_wp2_with fail
    refine HS5.out.mono ?_
    rintro e w6 ⟨A6, n6, d6, rfl, o6, b6⟩
    have h6 : n6 ≤ 27000 := by have := o6.len; have := HLEN.out; omega
    have HB6 := Lib.hid (below_step HB5.out b6)
    have HO6 := Lib.hid (HO5.out.keep b6)
    have HD6 := Lib.hid (HDEC.out ▸ dec_any A6 n6 d6 _ w6 o6.len (by omega) o6.byt)
    clear o6 b6 HS5
    go_wp2_with fail
    refine HD6.out.mono ?_
    rintro e w7 ⟨A7, n7, d7, rfl, o7, b7⟩
    have HB7 := Lib.hid (below_step HB6.out b7)
    have HO7 := Lib.hid (HO6.out.keep b7)
    have h7 : n7 ≤ 200 := by have := o7.len; have := HO7.out.len; omega
    have HS7 := Lib.hid (leq_self D ▸ same_any A7 A5 n7 n5 d7 d5 _ _ D D w7 o7.len HO7.out.len (by omega) (by omega) (Nat.le_refl _) (Nat.le_refl _) o7.cls HO7.out.cls)
    clear o7 b7 HD6
    go_wp2_with fail
    refine HS7.out.mono ?_
    rintro e w8 ⟨rfl, b8⟩
    have HB8 := Lib.hid (below_step HB7.out b8)
    clear b8
    go_wp2_with fail
    go_ret
    exact ⟨rfl, HB8.out⟩

set_option maxRecDepth 100000 in
theorem lifted (os : Os) (started : os.Started) (H : Type) (enc : TypeId × Value → H) :
    ReturnsInHanded {} Try.checked os 6 .any (Rows.callBackSpec.pre6 enc Try.prog Try.f6 Rows.callBackRow.domain false) (Rows.callBackSpec.post enc Try.prog Try.f6 false true false false) := by
  refine returnsInHanded_of_change (C := Try.checked) own started (by kernel_rfl) Try.func6
    (ChangeSpec.witness6 (enc := enc) (C := Try.checked) false ⟨#[], #[.slice none 0 0, .slice none 0 0], []⟩ 8 (by kernel_rfl) (by kernel_rfl) (by kernel_rfl) (by kernel_rfl)) ?_
  intro W base args ds gs before hval0 hW hcnd _
  have hval : ∀ (j : Nat) t v, Try.f6.params[j]? = some t → args[j]? = some v → Value.okWide Try.prog W .any base t v := hval0
  have hW' := hW
  obtain ⟨p, q, hA0, hV, rfl, hfz, hnd⟩ := hW
  have hA : DataW.TrodAll enc Try.prog W 0 (fun _ => true) true Try.f6.params.toList args.toList ds p := hA0
  rw [Try.params6] at hA hval
  obtain ⟨v0, vs0, d0, ds0, p0, q0, hargs, rfl, rfl, h0, r0⟩ := trodAll_cons hA
  obtain ⟨v1, vs1, d1, ds1, p1, q1, rfl, rfl, rfl, h1, r1⟩ := trodAll_cons r0
  obtain ⟨rfl, rfl, rfl⟩ := trodAll_nil r1
  obtain rfl : args = #[v0, v1] := by cases args; simp_all
  obtain ⟨rfl, rfl⟩ := trodVars_none hV
  have hlt := fun x hx => hW'.lt x hx
  have t0 := h0
  obtain ⟨A0, n0, c0, x0, rfl, e0, m0, s0, l0⟩ := open_calls (hval 0 24 v0 rfl rfl) h0
  have t1 := h1
  obtain ⟨A1, n1, c1, x1, rfl, e1, m1, s1⟩ := open_bytes (hval 1 22 v1 rfl rfl) h1
  clear hA0 hval0
  refine (walk A0 n0 c0 x0 A1 n1 c1 x1 W e0 m0 s0 l0 e1 m1 s1).mono fun e W' ⟨he, hg⟩ => ?_
  subst he
  exact ⟨_, rfl, law_post (pv := []) hW' (fun _ _ _ => (trodAll_cons_mk (shut_bool Try.underlying4 _) trodAll_mk0)) (fun sp hsp => (trodAll_cons_mk (arg_stays (by decide) t0 hg (by simp +contextual) hlt hsp laid) (trodAll_cons_mk (arg_stays (by decide) t1 hg (by simp +contextual) hlt hsp laid) trodAll_mk0))) (fun _ _ => rfl) (by simp)
    hg (ok_one (by kernel_rfl) rfl (okWide_bool_mk Try.underlying4 _))⟩

theorem over : Rows.callBackRow.holds Try.pinned (OpenSpec.ofChange Rows.callBackSpec) :=
  OpenClaim.holds_of_wide 6 Try.f6 rfl rfl rfl rfl rfl rfl rfl ⟨rfl, rfl, rfl, rfl, rfl⟩ rfl rfl rfl rfl rfl (by kernel_rfl) Try.func6 (by kernel_rfl)
    (of_decide_eq_true (by kernel_rfl)) (by unfold Func.isWrapper; first | (rw [if_pos (by decide +kernel)]; kernel_rfl) | (rw [if_neg (by decide +kernel)]; exact ⟨rfl, rfl⟩))
    (fun os started H enc _ => lifted os started H enc)

/-- The statement. -/
theorem proved : Rows.CallBackSaid :=
  over
end Go.Proofs.Ytoomdgjppfmdlaa.callBack
