/- Tasks that only read one lock never wait for each other, and are all ready in the end; for any number of tasks and any order (of which 150 bytes are looked at). -/
import Derived.Test.YtagkimnmgalejaaRa
import Derived.Test.YtagkimnmgalejaaMo
import Derived.Test.YtagkimnmgalejaaMp
import Derived.Deep.RegionWith
import Derived.Deep.QuietTactic
import Derived.BigQuiet
import Derived.ProofKit
import Derived.OpenShut
import Derived.Shelf.Abstract
namespace Go.Proofs.Ytagkimnmgalejaa.schedReaders
open Go.ChangeShapes Go.WideShapes Go.ChangeAt Go.RowKit
open Go.Proofs.Ytagkimnmgalejaa.sc
set_option linter.unusedVariables false

theorem own : ownKnob Try.prog.godebug = none := by kernel_rfl
theorem laid : laidOutB Try.prog = true := by kernel_rfl

set_option maxRecDepth 100000 in
set_option maxHeartbeats 8000000 in
theorem walk (tz : Int) (A : Option Addr) (n c : Nat) (F : Nat → Nat) (w : World) (hz : (Lit.int .u8 tz).wf = true) (hc : n ≤ c ∧ c ≤ maxLen) (hF : Byts w w.heap.size A n F) :
    Calls Try.prog 7 #[.int .u8 tz, .slice A n c] w (AwakeE w) := by
  obtain ⟨tn, ht, rfl⟩ : ∃ t : Nat, t < 256 ∧ tz = (t : Int) := by
    simp only [Lit.wf, Bool.and_eq_true, decide_eq_true_eq] at hz
    have h0 : (0 : Int) ≤ tz := hz.1
    have h1 : tz ≤ 255 := hz.2
    exact ⟨tz.toNat, by omega, by omega⟩
  have HAW := Lib.hid (awake_any w)
  obtain ⟨q, hq⟩ : ∃ q, tn % 64 = q := ⟨_, rfl⟩
  have hq64 : q < 64 := by omega
  have hr : (tn : Int).tmod 64 = (q : Int) := by rw [Int.tmod_eq_emod_of_nonneg (by omega)]; omega
  have HFF := Lib.hid hF
  have HC := Lib.hid hc
  clear hz hF hc hq
  go_enter Try.func7, Try.ntmps7
  go_wp2_with fail
  refine HAW.out.mono ?_
  rintro _ w1 ⟨rfl, hb1⟩
  have HB1 := Lib.hid hb1
  have KN := Lib.hid (y_new hb1 (q + 1) (by omega))
  rw [show (((q + 1 : Nat)) : Int) = (q : Int) + 1 by omega] at KN
  clear hb1 HAW
  go_wp2_with fail
  refine KN.out.mono ?_
  rintro _ w2 ⟨P, rfl, h2, hb2⟩
  have H2 := Lib.hid h2
  have hmm := @run_makeMap Try.prog 33 w2
  obtain ⟨w3, hw3⟩ : ∃ w3, w2.alloc (.map #[] 0) = w3 := ⟨_, rfl⟩
  obtain ⟨mb, hmb⟩ : ∃ m, w2.heap.size = m := ⟨_, rfl⟩
  have HM3 := Lib.hid (show MapV w3 mb 0 0 (inL [] (.bool true)) from by
    have := MapV.made w2
    rw [hw3, hmb] at this
    have e : inL [] (.bool true) = fun _ => none := by funext a; simp [inL]
    rw [e]; exact this)
  have hb3 : Below w2.heap.size w2 w3 := by rw [← hw3]; exact below_alloc _ _
  have HS3 := Lib.hid (show SY w w3 P (fun b => b = mb) (Sd.new (q + 1)) from (h2.over hb3).weaken fun b hb => .inr (by rw [hb]; exact ⟨by omega, by rw [← hw3]; simp [hmb]⟩))
  have HMB := Lib.hid (show w.heap.size ≤ mb from by rw [← hmb]; exact h2.bel.size)
  have HW3 := Lib.hid hw3
  rw [hmb, hw3] at hmm
  clear h2 hb2 hw3 hb3 KN hmb hr
  go_wp2_with fail
  go_loopg [8] n (fun gk s8 wr => ∃ (k m S : Nat) (s : Sd) (H : List Nat), s8 = .int .i64 k ∧ gk + k = n ∧ k ≤ 150 ∧ Hid (SY w wr P (fun b => b = mb) s) ∧ Hid (MapV wr mb m H.length (inL H (.bool true))) ∧ Hid (RS s (q + 1) H) ∧ Hid (s.N ≤ k ∧ m ≤ k))
  case atStart => exact ⟨0, 0, 0, Sd.new (q + 1), [], rfl, by omega, by omega, HS3, HM3, Lib.hid (RS.new _), Lib.hid ⟨Nat.le_refl _, Nat.le_refl _⟩⟩
  case round =>
    clear HS3 HM3 H2 hmm HW3
    obtain ⟨k, m, S, s, H, rfl, hg, hk150, HS, HM, HR, HN⟩ := hrel
    have HK := Lib.hid hg
    by_cases hlt : k < n ∧ k < 150
    · obtain ⟨hkn, hk1⟩ := hlt
      obtain ⟨gb, go, hA, hgb, c0, hF256⟩ := (HFF.out.below HS.out.bel) k hkn
      subst hA
      obtain ⟨x, hx⟩ : ∃ x, F k = x := ⟨_, rfl⟩
      rw [hx] at c0 hF256
      obtain ⟨t, ht⟩ : ∃ t, x % (q + 1) = t := ⟨_, rfl⟩
      have htq : t < q + 1 := by rw [← ht]; exact Nat.mod_lt _ (by omega)
      have hr : (x : Int).tmod ((q : Int) + 1) = (t : Int) := by
        rw [Int.tmod_eq_emod_of_nonneg (by omega), show ((q : Int) + 1) = ((q + 1 : Nat) : Int) by omega, ← ht]
        exact (Int.natCast_emod x (q + 1)).symm
      have hq0 : ((q : Int) + 1) ≠ 0 := by omega
      have hwf : Wf (t : Int) := wf_small (by omega) (by omega)
      have hlk := HM.out.look Try.underlying33 (z := .bool false) (by kernel_rfl) hwf
      rw [inL_is] at hlk
      have HWF := Lib.hid hwf
      clear hx ht
      by_cases hin : t ∈ H
      · rw [if_pos hin] at hlk
        have hlk2 : (Instr.lookup 33 (.map (some mb)) (.int .i64 (t : Int)) false).run Try.prog wr = .ok (.bool true) wr := hlk
        have HU := Lib.hid (HR.out.unlock hin)
        have KU := Lib.hid (y_unlock HS.out (t := (t : Int)) (l := 5) (by have := HN.out.1; omega) (wf_small (by omega) (by omega)))
        have HUN := Lib.hid (unlock_N s (t : Int) 5)
        unfold YU at KU
        rw [HU.out.1] at KU
        obtain ⟨s2, hs2⟩ : ∃ s2, (s.unlock (t : Int) 5).2 = s2 := ⟨_, rfl⟩
        have HU2 := Lib.hid HU.out.2
        rw [hs2] at KU HU2 HUN
        have HIN := Lib.hid (show (H.filter fun j => !decide (j = t)).length = H.length - 1 from off_len HR.out.nd hin)
        have HTM := Lib.hid hin
        clear hlk hs2 hin HU
        go_wp2_with fail
        refine KU.out.mono ?_
        rintro _ w5 ⟨rfl, h5, hs5⟩
        have HM5 := Lib.hid (HM.out.of_block (hs5 mb rfl))
        obtain ⟨w6, hdel, hm6, hg6⟩ := HM5.out.del Try.underlying33 HWF.out 0
        rw [inL_is, if_pos HTM.out, inL_off] at hm6
        have HM6 := Lib.hid (show MapV w6 mb m (H.filter fun j => !decide (j = t)).length (inL (H.filter fun j => !decide (j = t)) (.bool true)) from by rw [HIN.out]; exact hm6)
        have HS6 := Lib.hid (show SY w w6 P (fun b => b = mb) s2 from h5.turn (Only.of_grown hg6 (F := fun b => b = mb) (fun k e => by injection e with e; exact e.symm)) (fun b hb => ⟨hb, hb ▸ HMB.out⟩))
        clear h5 hs5 hm6 hg6
        go_wp2_with fail
        go_roundg (gk - 1)
        case measure => omega
        case rel => exact ⟨k + 1, m, 0, s2, H.filter fun j => !decide (j = t), by go_num, by omega, by omega, HS6, HM6, HU2, Lib.hid ⟨by have := HUN.out.1; have := HN.out.1; omega, by have := HN.out.2; omega⟩⟩
      · rw [if_neg hin] at hlk
        have hlk2 : (Instr.lookup 33 (.map (some mb)) (.int .i64 (t : Int)) false).run Try.prog wr = .ok (.bool false) wr := hlk
        have HU := Lib.hid (HR.out.lock htq hin)
        have KU := Lib.hid (y_lock HS.out (t := (t : Int)) (l := 5) (by have := HN.out.1; omega) (wf_small (by omega) (by omega)) false)
        have HUN := Lib.hid (lock_N s (t : Int) 5 false)
        unfold YL at KU
        rw [HU.out.1, HU.out.2.1] at KU
        obtain ⟨s2, hs2⟩ : ∃ s2, (s.lock (t : Int) 5 false).2.2 = s2 := ⟨_, rfl⟩
        have HU2 := Lib.hid HU.out.2.2
        rw [hs2] at KU HU2 HUN
        have HTM := Lib.hid hin
        clear hlk hs2 hin HU
        go_wp2_with fail
        refine KU.out.mono ?_
        rintro _ w5 ⟨rfl, h5, hs5⟩
        have HM5 := Lib.hid (HM.out.of_block (hs5 mb rfl))
        obtain ⟨w6, hput, hm6, hg6⟩ := HM5.out.put Try.underlying33 (by have := HN.out.2; omega) HWF.out (.bool true)
        rw [inL_is, if_neg HTM.out, inL_snoc] at hm6
        have HM6 := Lib.hid (show MapV w6 mb (m + 1) (H ++ [t]).length (inL (H ++ [t]) (.bool true)) from by rw [List.length_append]; exact hm6)
        have HS6 := Lib.hid (show SY w w6 P (fun b => b = mb) s2 from h5.turn (Only.of_grown hg6 (F := fun b => b = mb) (fun k e => by injection e with e; exact e.symm)) (fun b hb => ⟨hb, hb ▸ HMB.out⟩))
        have HSN := Lib.hid (show s2.N ≤ k + 1 by have := HUN.out.1; have := HN.out.1; omega)
        have KH := Lib.hid (y_holders HS6.out (l := 5) (by have := HSN.out; omega) (wf_small (by omega) (by omega)))
        have HT := Lib.hid HU2.out.tells
        rw [HT.out.2.1] at KH
        obtain ⟨T, hT⟩ : ∃ T, srt (tasksN (s2.heldL 5)) = T := ⟨_, rfl⟩
        have HTL := Lib.hid (show T.length = (H ++ [t]).length from by rw [← hT]; exact HT.out.1)
        rw [hT] at KH
        clear h5 hs5 hm6 hg6 hT
        go_wp2_with fail
        refine KH.out.mono ?_
        rintro _ w7 ⟨v7, rfl, ho7, hb7⟩
        obtain ⟨A7, c7, rfl⟩ := own_slice ho7
        have HS7 := Lib.hid (HS6.out.below hb7)
        have HM7 := Lib.hid (HM6.out.of_block (hb7.block mb (HS6.out.lt rfl)))
        have hlen := HM7.out.len Try.underlying33 3
        have KQ := Lib.hid (y_queue HS7.out (l := 5) (by have := HSN.out; omega) (wf_small (by omega) (by omega)))
        have HQL := Lib.hid HT.out.2.2.1
        generalize s2.queue 5 = Q at *
        rw [HTL.out]
        obtain ⟨hl, hhl⟩ : ∃ x, (H ++ [t]).length = x := ⟨_, rfl⟩
        have HHL := Lib.hid hhl
        rw [hhl] at HM7 hlen ⊢
        clear hhl
        clear ho7 hb7 KH
        go_wp2_with fail
        refine KQ.out.mono ?_
        rintro _ w8 hE
        obtain ⟨A8, c8, rfl, ho8, hb8⟩ := hE.lift (Below.refl _ _)
        have HS8 := Lib.hid (HS7.out.below hb8)
        have HM8 := Lib.hid (HM7.out.of_block (hb8.block mb (HS7.out.lt rfl)))
        rw [HQL.out]
        clear hE ho8 hb8 KQ
        go_wp2_with fail
        go_roundg (gk - 1)
        case measure => omega
        case rel => exact ⟨k + 1, m + 1, 0, s2, H ++ [t], by go_num, by omega, by omega, HS8, by rw [HHL.out]; exact HM8, HU2, Lib.hid ⟨HSN.out, by have := HN.out.2; omega⟩⟩
    · have HT := Lib.hid HR.out.tells
      have KR := Lib.hid (y_ready HS.out)
      have HRL := Lib.hid HT.out.2.2.2
      generalize s.at_ 0 = L at *
      have h1 : ¬ ((k : Int) < (n : Int) ∧ (k : Int) < 150) := by omega
      by_cases hkn : k < n
      · have hk2 : ¬ (k : Int) < 150 := by omega
        clear hlt h1
        go_wp2_with fail
        refine KR.out.mono ?_
        rintro _ w9 hE
        obtain ⟨A9, c9, rfl, ho9, hb9⟩ := hE.lift (Below.refl _ _)
        have HF9 := Lib.hid (show AwakeE w (.returned (.bool true)) w9 from ⟨rfl, below_step HS.out.bel hb9⟩)
        rw [HRL.out]
        clear hE ho9 hb9
        go_wp2_with fail
        go_ret
        exact HF9.out
      · clear hlt h1
        go_wp2_with fail
        refine KR.out.mono ?_
        rintro _ w9 hE
        obtain ⟨A9, c9, rfl, ho9, hb9⟩ := hE.lift (Below.refl _ _)
        have HF9 := Lib.hid (show AwakeE w (.returned (.bool true)) w9 from ⟨rfl, below_step HS.out.bel hb9⟩)
        rw [HRL.out]
        clear hE ho9 hb9
        go_wp2_with fail
        go_ret
        exact HF9.out

set_option maxRecDepth 100000 in
theorem lifted (os : Os) (started : os.Started) (H : Type) (enc : TypeId × Value → H) :
    ReturnsInHanded {} Try.checked os 7 .any (Rows.schedReadersSpec.pre6 enc Try.prog Try.f7 Rows.schedReadersRow.domain false) (Rows.schedReadersSpec.post enc Try.prog Try.f7 false true false false) := by
  refine returnsInHanded_of_change (C := Try.checked) own started (by kernel_rfl) Try.func7
    (ChangeSpec.witness6 (enc := enc) (C := Try.checked) false ⟨#[], #[.int .u8 0, .slice none 0 0], []⟩ 8 (by kernel_rfl) (by kernel_rfl) (by kernel_rfl) (by kernel_rfl)) ?_
  intro W base args ds gs before hval0 hW hcnd _
  have hval : ∀ (j : Nat) t v, Try.f7.params[j]? = some t → args[j]? = some v → Value.okWide Try.prog W .any base t v := hval0
  have hW' := hW
  obtain ⟨p, q, hA0, hV, rfl, hfz, hnd⟩ := hW
  have hA : DataW.TrodAll enc Try.prog W 0 (fun _ => true) true Try.f7.params.toList args.toList ds p := hA0
  rw [Try.params7] at hA hval
  obtain ⟨v0, vs0, d0, ds0, p0, q0, hargs, rfl, rfl, h0, r0⟩ := trodAll_cons hA
  obtain ⟨v1, vs1, d1, ds1, p1, q1, rfl, rfl, rfl, h1, r1⟩ := trodAll_cons r0
  obtain ⟨rfl, rfl, rfl⟩ := trodAll_nil r1
  obtain rfl : args = #[v0, v1] := by cases args; simp_all
  obtain ⟨rfl, rfl⟩ := trodVars_none hV
  have hlt := fun x hx => hW'.lt x hx
  obtain ⟨a0, rfl, rfl, rfl, w0⟩ := open_int Try.underlying5 (hval 0 5 v0 rfl rfl) h0
  have t1 := h1
  obtain ⟨A1, n1, c1, x1, rfl, e1, s1⟩ := open_bytes (hval 1 40 v1 rfl rfl) h1
  clear hA0 hval0
  refine (walk a0 A1 n1 c1 x1 W w0 e1 s1).mono fun e W' ⟨he, hg⟩ => ?_
  subst he
  exact ⟨_, rfl, law_post (pv := []) hW' (fun _ _ _ => (trodAll_cons_mk (shut_bool Try.underlying4 _) trodAll_mk0)) (fun sp hsp => (trodAll_cons_mk (shut_int Try.underlying5 w0) (trodAll_cons_mk (arg_stays (by decide) t1 hg (by simp +contextual) hlt hsp laid) trodAll_mk0))) (fun _ _ => rfl) (by simp)
    hg (ok_one (by kernel_rfl) rfl (okWide_bool_mk Try.underlying4 _))⟩

theorem over : Rows.schedReadersRow.holds Try.pinned (OpenSpec.ofChange Rows.schedReadersSpec) :=
  OpenClaim.holds_of_wide 7 Try.f7 rfl rfl rfl rfl rfl rfl rfl ⟨rfl, rfl, rfl, rfl, rfl⟩ rfl rfl rfl rfl rfl (by kernel_rfl) Try.func7 (by kernel_rfl)
    (of_decide_eq_true (by kernel_rfl)) (by unfold Func.isWrapper; first | (rw [if_pos (by decide +kernel)]; kernel_rfl) | (rw [if_neg (by decide +kernel)]; exact ⟨rfl, rfl⟩))
    (fun os started H enc _ => lifted os started H enc)

/-- The statement. -/
theorem proved : Rows.SchedReadersSaid :=
  over
end Go.Proofs.Ytagkimnmgalejaa.schedReaders
