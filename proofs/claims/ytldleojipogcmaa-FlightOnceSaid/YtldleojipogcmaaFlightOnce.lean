/- Of a key there is one flight at a time, led by one; who joined it has what came of it, just once, and nothing of another one; for any acts (of which 120 are played, by persons from 0 to 15). -/
import Derived.Test.YtldleojipogcmaaNv
import Derived.Deep.RegionWith
import Derived.Deep.QuietTactic
import Derived.BigQuiet
import Derived.Deep.CutRange
import Derived.Deep.CutBlock
import Derived.Deep.RegionHeld3
import Derived.ProofKit
import Derived.OpenShut
import Derived.Shelf.Abstract
namespace Go.Proofs.Ytldleojipogcmaa.flightOnce
open Go.ChangeShapes Go.WideShapes Go.ChangeAt Go.RowKit
open Go.Proofs.Ytldleojipogcmaa.fl
set_option linter.unusedVariables false

theorem own : ownKnob Try.prog.godebug = none := by kernel_rfl
theorem laid : laidOutB Try.prog = true := by kernel_rfl

abbrev X3 (ml mi mh : Nat) : Nat → Prop := fun b => b = ml ∨ b = mi ∨ b = mh
abbrev X4 (ml mi mh bx : Nat) : Nat → Prop := fun b => (b = ml ∨ b = mi ∨ b = mh) ∨ b = bx
set_option maxRecDepth 100000 in
set_option maxHeartbeats 16000000 in
theorem walk (A : Option Addr) (n c : Nat) (F : Nat → Ac) (w : World) (hc : n ≤ c ∧ c ≤ maxLen) (hF : Acts w w.heap.size A n F) :
    Calls Try.prog 3 #[.slice A n c] w (AwakeE w) := by
  have HAW := Lib.hid (awake_any w)
  have HFF := Lib.hid hF
  have HC := Lib.hid hc
  clear hF hc
  go_enter Try.func3, Try.ntmps3
  go_wp2_with fail
  refine HAW.out.mono ?_
  rintro _ w1 ⟨rfl, hb1⟩
  have KN := Lib.hid (new_any hb1)
  unfold NewE at KN
  clear hb1 HAW
  go_wp2_with fail
  refine KN.out.mono ?_
  rintro _ w2 ⟨P, rfl, h2, -⟩
  have hmm := fun w => @run_makeMap Try.prog 26 w
  have hmm2 := fun w => @run_makeMap Try.prog 27 w
  obtain ⟨ml, hml⟩ : ∃ m, w2.heap.size = m := ⟨_, rfl⟩
  obtain ⟨w3, hw3⟩ : ∃ w3, w2.alloc (.map #[] 0) = w3 := ⟨_, rfl⟩
  obtain ⟨w4, hw4⟩ : ∃ w4, w3.alloc (.map #[] 0) = w4 := ⟨_, rfl⟩
  obtain ⟨w5, hw5⟩ : ∃ w5, w4.alloc (.map #[] 0) = w5 := ⟨_, rfl⟩
  have s3 : w3.heap.size = ml + 1 := by rw [← hw3]; simp [hml]
  have s4 : w4.heap.size = ml + 2 := by rw [← hw4]; simp [s3]
  have s5 : w5.heap.size = ml + 3 := by rw [← hw5]; simp [s4]
  have b3 : Below w2.heap.size w2 w3 := by rw [← hw3]; exact below_alloc _ _
  have b4 : Below w3.heap.size w3 w4 := by rw [← hw4]; exact below_alloc _ _
  have b5 : Below w4.heap.size w4 w5 := by rw [← hw5]; exact below_alloc _ _
  have m3 : MapV w3 ml 0 0 (fun _ => none) := by have := MapV.made w2; rw [hw3, hml] at this; exact this
  have m4 : MapV w4 (ml + 1) 0 0 (fun _ => none) := by have := MapV.made w3; rw [hw4, s3] at this; exact this
  have m5 : MapV w5 (ml + 2) 0 0 (fun _ => none) := by have := MapV.made w4; rw [hw5, s4] at this; exact this
  have b35 := below_step b4 b5
  have HS0 := Lib.hid (show TY w w5 P (X3 ml (ml + 1) (ml + 2)) Fs.new from (h2.over (below_step b3 b35)).weaken fun b hb => .inr (by unfold X3 at hb; rw [hml, s5]; omega))
  have HL0 := Lib.hid (show ∃ S, MapV w5 ml 0 S (ldF Fs.new.fl) from ⟨_, m3.of_block (b35.block ml (by omega))⟩)
  have HI0 := Lib.hid (show ∃ S, MapV w5 (ml + 1) 0 S (resF fun _ => none) from ⟨_, m4.of_block (b5.block (ml + 1) (by omega))⟩)
  have HH0 := Lib.hid (show ∃ S, MapV w5 (ml + 2) 0 S (resF Fs.new.res) from ⟨_, m5⟩)
  have HMLO := Lib.hid (show w.heap.size ≤ ml from by rw [← hml]; exact h2.bel.size)
  clear h2 KN b3 b4 b5 m3 m4 m5 b35
  go_wp2_with fail
  clear hw3 hw4 hw5 s3 s4 s5 hmm hmm2 hml
  go_loopg [7] n (fun gk s7 wx => ∃ (k : Nat) (s : Fs) (jn : Int → Option Int) (mL mI mH : Nat), s7 = .int .i64 k ∧ gk + k = n ∧ k ≤ 120 ∧ Hid (TY w wx P (X3 ml (ml + 1) (ml + 2)) s) ∧ Hid (s.N ≤ k ∧ s.K ≤ 300 * k ∧ mL ≤ k ∧ mI ≤ k ∧ mH ≤ 300 * k) ∧ Hid (Jn s jn) ∧ Hid (∃ S, MapV wx ml mL S (ldF s.fl)) ∧ Hid (∃ S, MapV wx (ml + 1) mI S (resF jn)) ∧ Hid (∃ S, MapV wx (ml + 2) mH S (resF s.res)))
  case atStart => exact ⟨0, Fs.new, _, 0, 0, 0, rfl, by omega, by omega, HS0, Lib.hid (by decide), Lib.hid Jn.new, HL0, HI0, HH0⟩
  case round =>
    clear HS0 HL0 HI0 HH0
    obtain ⟨k, s, jn, mL, mI, mH, rfl, hg, hk120, HS, HN, HJ, HL, HI, HH⟩ := hrel
    by_cases hlt : k < n ∧ k < 120
    · obtain ⟨hkn, hk1⟩ := hlt
      obtain ⟨gb, go, hA, hgb, c0, c1, c2, c3, hwk, hwf⟩ := (HFF.out.below HS.out.bel) k hkn
      subst hA
      obtain ⟨x, hx⟩ : ∃ x, F k = x := ⟨_, rfl⟩
      rw [hx] at c0 c1 c2 c3 hwf hwk
      obtain ⟨xk, xt, xn, xe⟩ := x
      dsimp only at c0 c1 c2 c3 hwf hwk
      obtain ⟨lj, hlj16, hlj⟩ := which16 xn
      have HWF := Lib.hid (show Wf (lj : Int) from wfs (by omega) (by omega))
      have HWK := Lib.hid hwk
      obtain ⟨bx, hbx0⟩ : ∃ b, wr.heap.size = b := ⟨_, rfl⟩
      have hbx := below_alloc wr (.cells #[.int .i64 xk, .int .i64 xt, .int .i64 xn, .int .i64 xe] 30)
      have HX := Lib.hid (show TY w (wr.alloc (.cells #[.int .i64 xk, .int .i64 xt, .int .i64 xn, .int .i64 xe] 30)) P (X4 ml (ml + 1) (ml + 2) bx) s from (HS.out.over hbx).weaken fun b hb => by
        rcases hb with hb | hb
        · exact .inl hb
        · exact .inr ⟨by omega, by rw [hb]; simp [hbx0]⟩)
      have HLB := Lib.hid (show ml + 2 < bx from by obtain ⟨S, h⟩ := HH.out; have := h.lt; omega)
      have HBX := Lib.hid (show (wr.alloc (.cells #[.int .i64 xk, .int .i64 xt, .int .i64 xn, .int .i64 xe] 30)).heap[bx]? = some (.cells #[.int .i64 xk, .int .i64 xt, .int .i64 xn, .int .i64 xe] 30 (0, 0)) from by rw [← hbx0]; exact heap_alloc_new wr _)
      have HBK := Lib.hid (show ∀ w', Same (X4 ml (ml + 1) (ml + 2) bx) (wr.alloc (.cells #[.int .i64 xk, .int .i64 xt, .int .i64 xn, .int .i64 xe] 30)) w' → (w'.heap[bx]? = some (.cells #[.int .i64 xk, .int .i64 xt, .int .i64 xn, .int .i64 xe] 30 (0, 0))) ∧ (∃ S, MapV w' ml mL S (ldF s.fl)) ∧ (∃ S, MapV w' (ml + 1) mI S (resF jn)) ∧ (∃ S, MapV w' (ml + 2) mH S (resF s.res)) from fun w' hs => by
        have hlb := HLB.out
        refine ⟨(hs bx (.inr rfl)).trans HBX.out, ?_, ?_, ?_⟩
        · obtain ⟨S, h⟩ := HL.out; exact ⟨S, h.of_block ((hs ml (.inl (.inl rfl))).trans (hbx.block ml (by omega)))⟩
        · obtain ⟨S, h⟩ := HI.out; exact ⟨S, h.of_block ((hs (ml + 1) (.inl (.inr (.inl rfl)))).trans (hbx.block (ml + 1) (by omega)))⟩
        · obtain ⟨S, h⟩ := HH.out; exact ⟨S, h.of_block ((hs (ml + 2) (.inl (.inr (.inr rfl)))).trans (hbx.block (ml + 2) (by omega)))⟩)
      clear hx hwf hwk hbx
      by_cases e0 : xk = 0
      · have q0 : (xk == 0) = true := by simpa using e0
        have KL := Lib.hid (y_join HX.out (k := xt) (who := (lj : Int)) (by have := HN.out; omega) HWK.out HWF.out)
        unfold YJ at KL
        clear e0
        cases hb : s.busy (lj : Int) with
        | true =>
          rw [show s.join xt (lj : Int) = (false, 16, s) from by unfold Fs.join; rw [if_pos hb]] at KL
          dsimp only at KL
          clear hb
          go_wp2_with fail
          refine KL.out.mono ?_
          rintro _ w6 ⟨rfl, h6, hs6⟩
          have HS6 := Lib.hid (h6.weaken (Y := X3 ml (ml + 1) (ml + 2)) fun b hb => .inl hb)
          have HM6 := Lib.hid (HBK.out _ hs6)
          clear h6 hs6
          go_wp2_with fail
          go_roundg (gk - 1)
          case measure => omega
          case rel => exact ⟨k + 1, s, jn, mL, mI, mH, by go_num, by omega, by omega, HS6, Lib.hid (by have := HN.out; omega), HJ, Lib.hid HM6.out.2.1, Lib.hid HM6.out.2.2.1, Lib.hid HM6.out.2.2.2⟩
        | false =>
          rw [show s.join xt (lj : Int) = (!(s.fl xt).isSome, 0, s.come xt (lj : Int)) from by unfold Fs.join; rw [hb]; rfl] at KL
          dsimp only at KL
          cases hf : s.fl xt with
          | none =>
            rw [hf] at KL
            have HJ2 := Lib.hid (HJ.out.lead hb hf)
            have HLN := Lib.hid (ldF_new (s := s) (who := (lj : Int)) hf)
            have HFN := Lib.hid hf
            clear hb hf
            go_wp2_with fail
            refine KL.out.mono ?_
            rintro _ w6 ⟨rfl, h6, hs6⟩
            have HM6 := Lib.hid (HBK.out _ hs6)
            obtain ⟨S6, hm6⟩ := HM6.out.2.1
            have hlk := look2 hm6 Try.underlying26 (zero3 _) HWK.out
            rw [(ldF_some _ _).1, (ldF_some _ _).2, HFN.out] at hlk
            have hlk2 : (Instr.lookup 26 (.map (some ml)) (.int .i64 xt) true).run Try.prog w6 = .ok (.tuple #[.int .i64 0, .bool false]) w6 := hlk
            obtain ⟨w7, hput, hm7, hg7⟩ := hm6.put Try.underlying26 (by have := HN.out; omega) HWK.out (.int .i64 (lj : Int))
            rw [HLN.out] at hm7
            have HL7 := Lib.hid hm7
            have y6 := (box4 HM6.out.1).2.1
            have HS7 := Lib.hid (show TY w w7 P (X3 ml (ml + 1) (ml + 2)) (s.come xt (lj : Int)) from (h6.turn (Only.of_grown hg7 (F := fun b => b = ml) (fun k e => (Option.some.inj e).symm)) (fun b hb => ⟨.inl (.inl hb), hb ▸ HMLO.out⟩)).weaken fun b hb => .inl hb)
            have HI7 := Lib.hid (show ∃ S, MapV w7 (ml + 1) mI S (resF jn) from by obtain ⟨S, h⟩ := HM6.out.2.2.1; exact ⟨S, h.of_block (hg7.block _ h.lt (fun e => by have := Option.some.inj e; omega))⟩)
            have HH7 := Lib.hid (show ∃ S, MapV w7 (ml + 2) mH S (resF s.res) from by obtain ⟨S, h⟩ := HM6.out.2.2.2; exact ⟨S, h.of_block (hg7.block _ h.lt (fun e => by have := Option.some.inj e; omega))⟩)
            clear h6 hs6 hm6 hlk hm7 hg7
            go_wp2_with fail
            go_roundg (gk - 1)
            case measure => omega
            case rel => exact ⟨k + 1, _, jn, mL + 1, mI, mH, by go_num, by omega, by omega, HS7, Lib.hid (by have := HN.out; show s.N + 1 ≤ _ ∧ s.K ≤ _ ∧ _; omega), HJ2, Lib.hid ⟨_, HL7.out⟩, HI7, HH7⟩
          | some p =>
            obtain ⟨l, xs⟩ := p
            rw [hf] at KL
            have HJ2 := Lib.hid (HJ.out.join hb hf)
            have HLN := Lib.hid (ldF_more (s := s) (who := (lj : Int)) hf)
            have HFN := Lib.hid hf
            clear hb hf
            go_wp2_with fail
            refine KL.out.mono ?_
            rintro _ w6 ⟨rfl, h6, hs6⟩
            have HM6 := Lib.hid (HBK.out _ hs6)
            obtain ⟨S6, hm6⟩ := HM6.out.2.1
            have hlk := look2 hm6 Try.underlying26 (zero3 _) HWK.out
            rw [(ldF_some _ _).1, (ldF_some _ _).2, HFN.out] at hlk
            have hlk2 : (Instr.lookup 26 (.map (some ml)) (.int .i64 xt) true).run Try.prog w6 = .ok (.tuple #[.int .i64 l, .bool true]) w6 := hlk
            obtain ⟨S7, hi7⟩ := HM6.out.2.2.1
            obtain ⟨w7, hput, hm7, hg7⟩ := hi7.put Try.underlying26 (by have := HN.out; omega) HWF.out (.int .i64 xt)
            rw [resF_ups] at hm7
            have HI7 := Lib.hid hm7
            have y6 := (box4 HM6.out.1).2.1
            have HS7 := Lib.hid (show TY w w7 P (X3 ml (ml + 1) (ml + 2)) (s.come xt (lj : Int)) from (h6.turn (Only.of_grown hg7 (F := fun b => b = ml + 1) (fun k e => (Option.some.inj e).symm)) (fun b hb => ⟨.inl (.inr (.inl hb)), by have := HMLO.out; omega⟩)).weaken fun b hb => .inl hb)
            have HL7 := Lib.hid (show ∃ S, MapV w7 ml mL S (ldF (s.come xt (lj : Int)).fl) from by rw [HLN.out]; exact ⟨S6, hm6.of_block (hg7.block _ hm6.lt (fun e => by have := Option.some.inj e; omega))⟩)
            have HH7 := Lib.hid (show ∃ S, MapV w7 (ml + 2) mH S (resF s.res) from by obtain ⟨S, h⟩ := HM6.out.2.2.2; exact ⟨S, h.of_block (hg7.block _ h.lt (fun e => by have := Option.some.inj e; omega))⟩)
            clear h6 hs6 hm6 hlk hm7 hg7 hi7
            go_wp2_with fail
            go_roundg (gk - 1)
            case measure => omega
            case rel => exact ⟨k + 1, _, _, mL, mI + 1, mH, by go_num, by omega, by omega, HS7, Lib.hid (by have := HN.out; show s.N + 1 ≤ _ ∧ s.K ≤ _ ∧ _; omega), HJ2, HL7, Lib.hid ⟨_, HI7.out⟩, HH7⟩
      by_cases e1 : xk = 1
      · have q0 : (xk == 0) = false := by simpa using e0
        have q1 : (xk == 1) = true := by simpa using e1
        have KL := Lib.hid (y_land HX.out (k := xt) (who := (lj : Int)) (e := (k : Int) + 1) (by have := HN.out; omega) (by have := HN.out; omega) HWK.out)
        have HXF := Lib.hid (HX.out.few xt)
        unfold YL at KL
        clear e0 e1
        have HLA : (∃ er : Int, er ≠ 0 ∧ s.land xt (lj : Int) ((k : Int) + 1) = ([], er, s)) ∨ ∃ xs, s.fl xt = some ((lj : Int), xs) := by
          cases hf : s.fl xt with
          | none => exact .inl ⟨2, by decide, by unfold Fs.land; rw [hf]⟩
          | some p =>
            obtain ⟨l, xs⟩ := p
            by_cases hl : l = (lj : Int)
            · exact .inr ⟨xs, by rw [hl]⟩
            · exact .inl ⟨1, by decide, by unfold Fs.land; rw [hf]; dsimp only; rw [if_neg hl]⟩
        rcases HLA with ⟨er, her, hla⟩ | ⟨xs, hf⟩
        · rw [hla] at KL
          dsimp only at KL
          have q2 : (er != 0) = true := by simpa using her
          clear her hla
          go_wp2_with fail
          refine KL.out.mono ?_
          rintro _ w6 ⟨Q6, c6, rfl, -, h6, hs6⟩
          have HS6 := Lib.hid (h6.weaken (Y := X3 ml (ml + 1) (ml + 2)) fun b hb => .inl (.inl hb))
          have HM6 := Lib.hid (HBK.out _ hs6)
          clear h6 hs6
          go_wp2_with fail
          go_roundg (gk - 1)
          case measure => omega
          case rel => exact ⟨k + 1, s, jn, mL, mI, mH, by go_num, by omega, by omega, HS6, Lib.hid (by have := HN.out; omega), HJ, Lib.hid HM6.out.2.1, Lib.hid HM6.out.2.2.1, Lib.hid HM6.out.2.2.2⟩
        · rw [show s.land xt (lj : Int) ((k : Int) + 1) = (xs, 0, s.told xt (lj : Int) xs ((k : Int) + 1) (s.K + xs.length)) from by unfold Fs.land; rw [hf]; dsimp only; rw [if_pos rfl]] at KL
          have HXN := Lib.hid (show xs.length ≤ 120 from by have h1 := HXF.out; unfold Fs.joined at h1; rw [hf] at h1; have h2 : xs.length ≤ s.N := h1; have := HN.out; omega)
          have HJ2 := Lib.hid (HJ.out.land hf ((k : Int) + 1) (s.K + xs.length))
          have HXD := Lib.hid (HJ.out.one xt (lj : Int) xs hf).1
          have HXM := Lib.hid (show ∀ a, jn a = some xt ↔ a ∈ xs from fun a => by
            rw [HJ.out.mem a xt, hf]
            exact ⟨fun ⟨l, ys, h1, h2⟩ => by injection h1 with h1; injection h1 with h3 h4; rw [h4]; exact h2, fun h => ⟨_, xs, rfl, h⟩⟩)
          have HFN := Lib.hid hf
          have HRS := Lib.hid (show (s.told xt (lj : Int) xs ((k : Int) + 1) (s.K + xs.length)).res = (fun a => if a ∈ xs then some ((k : Int) + 1) else s.res a) ∧ (s.told xt (lj : Int) xs ((k : Int) + 1) (s.K + xs.length)).fl = upf s.fl xt none ∧ (s.told xt (lj : Int) xs ((k : Int) + 1) (s.K + xs.length)).N = s.N ∧ (s.told xt (lj : Int) xs ((k : Int) + 1) (s.K + xs.length)).K = s.K + xs.length from ⟨rfl, rfl, rfl, rfl⟩)
          obtain ⟨q, hq⟩ : ∃ q, xs.length = q := ⟨_, rfl⟩
          rw [hq] at KL HXN HJ2 HRS
          dsimp only at KL
          have HQ := Lib.hid hq
          obtain ⟨s4, hs4⟩ : ∃ s4, s.told xt (lj : Int) xs ((k : Int) + 1) (s.K + q) = s4 := ⟨_, rfl⟩
          rw [hs4] at KL HJ2 HRS
          clear hf hq hs4
          go_wp2_with fail
          refine KL.out.mono ?_
          rintro _ w6 ⟨Q6, c6, rfl, -, h6, hs6⟩
          have HM6 := Lib.hid (HBK.out _ hs6)
          have HS6 := Lib.hid (h6.weaken (Y := X4 ml (ml + 1) (ml + 2) bx) fun b hb => .inl hb)
          obtain ⟨S6, hm6⟩ := HM6.out.2.1
          have hlk := look2 hm6 Try.underlying26 (zero3 _) HWK.out
          rw [(ldF_some _ _).1, (ldF_some _ _).2, HFN.out] at hlk
          have hlk2 : (Instr.lookup 26 (.map (some ml)) (.int .i64 xt) true).run Try.prog w6 = .ok (.tuple #[.int .i64 (lj : Int), .bool true]) w6 := hlk
          obtain ⟨w7, hdel, hm7, hg7⟩ := hm6.del Try.underlying26 HWK.out 0
          rw [ldF_gone] at hm7
          have y6 := (box4 HM6.out.1).2.1
          have HL7 := Lib.hid hm7
          have HS7 := Lib.hid (HS6.out.turn (Only.of_grown hg7 (F := fun b => b = ml) (fun k e => (Option.some.inj e).symm)) (fun b hb => ⟨.inl (.inl hb), hb ▸ HMLO.out⟩))
          have hlb := HLB.out
          have HBX7 := Lib.hid ((hg7.block bx (HS6.out.lt (.inr rfl)) (fun e => by have := Option.some.inj e; omega)).trans HM6.out.1)
          obtain ⟨SI, hi6⟩ := HM6.out.2.2.1
          have HI7 := Lib.hid (hi6.of_block (hg7.block _ hi6.lt (fun e => by have := Option.some.inj e; omega)))
          have HH7 := Lib.hid (show ∃ S, MapV w7 (ml + 2) mH S (resF s.res) from by obtain ⟨S, h⟩ := HM6.out.2.2.2; exact ⟨S, h.of_block (hg7.block _ h.lt (fun e => by have := Option.some.inj e; omega))⟩)
          obtain ⟨r, hr⟩ : ∃ r, w7.heap.size = r := ⟨_, rfl⟩
          have HR := Lib.hid hr
          have HBR := Lib.hid (show bx < r from by rw [← hr]; exact HS7.out.lt (.inr rfl))
          clear h6 hs6 hm6 hlk hm7 hg7 hi6 hlb hr
          go_wp2_with (first | (at_range; refine list_rangeL _ rfl _ 26 3 rfl Try.underlying26 (ml + 1) mI SI (resF jn) rfl r HR.out HI7.out ?_; intro w8 cnt0 hrg0 hb8 hs8) | fail)
          go_frame
          have HLr := Lib.hid hrg0
          have HS8 := Lib.hid (show TY w w8 P (fun b => X4 ml (ml + 1) (ml + 2) bx b ∨ b = r) s4 from (HS7.out.over hb8).weaken fun b hb => by
            rcases hb with hb | hb
            · exact .inl hb
            · exact .inr ⟨by rw [HR.out]; omega, by omega⟩)
          have HL8 := Lib.hid (show ∃ S, MapV w8 ml mL S (ldF s4.fl) from by rw [HRS.out.2.1]; exact ⟨_, HL7.out.of_block (hb8.block ml HL7.out.lt)⟩)
          have HH8 := Lib.hid (show ∃ S, MapV w8 (ml + 2) mH S (resF s.res) from by obtain ⟨S, h⟩ := HH7.out; exact ⟨S, h.of_block (hb8.block _ h.lt)⟩)
          have HBX8 := Lib.hid ((hb8.block bx (by rw [HR.out]; exact HBR.out)).trans HBX7.out)
          clear hrg0 hb8 hs8 HL7 HH7 HI7 HS7 HBX7 HS6 HM6 y6
          go_loopg [18] cnt0 (fun g s18 wx => ∃ (T : List Int) (t : Nat) (left : Int → Bool), s18 = .int .i64 t ∧ Hid (T.length = t ∧ T.Nodup ∧ ∀ a ∈ T, a ∈ xs) ∧ Hid (MapL wx (ml + 1) r mI (resF (cutI T jn)) left g) ∧ Hid (∀ a, a ∈ xs → a ∈ T ∨ left a = true) ∧ Hid (∃ S, MapV wx (ml + 2) (mH + t) S (resF (putI T ((k : Int) + 1) s.res))) ∧ Hid (TY w wx P (fun b => X4 ml (ml + 1) (ml + 2) bx b ∨ b = r) s4) ∧ Hid (∃ S, MapV wx ml mL S (ldF s4.fl)) ∧ Hid (wx.heap[bx]? = some (.cells #[.int .i64 xk, .int .i64 xt, .int .i64 xn, .int .i64 xe] 30 (0, 0))))
          case atStart => exact ⟨[], 0, _, rfl, Lib.hid ⟨rfl, .nil, fun a h => by cases h⟩, Lib.hid (by rw [cut_nil]; exact HLr.out), Lib.hid (fun a ha => .inr (by rw [(resF_some _ _).1, (HXM.out a).2 ha]; rfl)), Lib.hid (by rw [put_nil]; exact HH8.out), HS8, HL8, HBX8⟩
          case round =>
            clear HLr HH8 HS8 HL8 HBX8
            obtain ⟨T, t, left, rfl, HT, HML, HCO, HMH, HTS, HMD, HBB⟩ := hrel
            have HTN := Lib.hid (show t ≤ 120 from by have h1 := HT.out; have h2 := nodup_le T xs h1.2.1 h1.2.2; have := HXN.out; have := HQ.out; omega)
            go_wp2_with (first | (at_next; refine list_nextL _ rfl _ rfl (ml + 1) r mI gk (resF (cutI T jn)) left rfl HML.out ?_ ?_) | fail)
            · intro hdone
              have HPM := Lib.hid (show ∀ a, a ∈ T ↔ a ∈ xs from fun a => ⟨HT.out.2.2 a, fun ha => (HCO.out a ha).resolve_right (by rw [hdone a]; simp)⟩)
              have htq : t = q := by rw [← HT.out.1, ← HQ.out]; exact len_eq HT.out.2.1 HXD.out HPM.out
              have HI9 := Lib.hid (show ∃ S, MapV wr (ml + 1) mI S (resF (fun a => if a ∈ xs then none else jn a)) from by
                have := HML.out.mapV
                rw [cut_perm HPM.out] at this; exact this)
              have HH9 := Lib.hid (show ∃ S, MapV wr (ml + 2) (mH + t) S (resF s4.res) from by
                have := HMH.out
                rw [put_perm HPM.out, ← HRS.out.1] at this; exact this)
              have HS9 := Lib.hid (HTS.out.weaken (Y := X3 ml (ml + 1) (ml + 2)) fun b hb => .inl (.inl hb))
              have HNT := Lib.hid (show t = q from htq)
              subst htq
              clear hdone
              go_wp2_with fail
              go_roundg (n - k - 1)
              case measure => omega
              case rel => exact ⟨k + 1, s4, _, mL, mI, mH + t, by go_num, by omega, by omega, HS9, Lib.hid (by have h1 := HN.out; have h2 := HRS.out.2.2; have := HTN.out; omega), HJ2, HMD, HI9, HH9⟩
            · intro x v w9 cnt9 hfx hlx hwx hL9 hlt9 hg9 hs9 hen9
              obtain ⟨hxT, kk, hjk, rfl⟩ : x ∉ T ∧ ∃ kk, jn x = some kk ∧ v = .int .i64 kk := by
                unfold resF cutI at hfx
                by_cases hm : x ∈ T
                · rw [if_pos hm] at hfx; cases hfx
                · rw [if_neg hm] at hfx
                  cases e : jn x with
                  | none => rw [e] at hfx; cases hfx
                  | some kk => rw [e] at hfx; exact ⟨hm, kk, rfl, (Option.some.inj hfx).symm⟩
              have HXT := Lib.hid hxT
              have HJK := Lib.hid hjk
              have HWX := Lib.hid hwx
              have hlb := HLB.out
              have hbr := HBR.out
              have hml0 := HMLO.out
              have HS9 := Lib.hid (HTS.out.turn (Only.of_grown hg9 (F := fun b => b = r) (fun k e => (Option.some.inj e).symm)) (fun b hb => ⟨.inr hb, by omega⟩))
              have HB9 := Lib.hid ((hg9.block bx (HTS.out.lt (.inl (.inr rfl))) (fun e => by have := Option.some.inj e; omega)).trans HBB.out)
              have HD9 := Lib.hid (show ∃ S, MapV w9 ml mL S (ldF s4.fl) from by obtain ⟨S, h⟩ := HMD.out; exact ⟨S, h.of_block (hg9.block _ h.lt (fun e => by have := Option.some.inj e; omega))⟩)
              have HH9 := Lib.hid (show ∃ S, MapV w9 (ml + 2) (mH + t) S (resF (putI T ((k : Int) + 1) s.res)) from by obtain ⟨S, h⟩ := HMH.out; exact ⟨S, h.of_block (hg9.block _ h.lt (fun e => by have := Option.some.inj e; omega))⟩)
              have HL9 := Lib.hid hL9
              have y9 := (box4 HB9.out).2.1
              have HT120 := HTN.out
              by_cases hkx : kk = xt
              · have qk : (kk == xt) = true := by simpa using hkx
                have HXX := Lib.hid (show x ∈ xs from (HXM.out x).1 (by rw [hjk, hkx]))
                obtain ⟨S9, h9⟩ := HH9.out
                obtain ⟨w10, hput, hm10, hg10⟩ := h9.put Try.underlying27 (by have := HN.out; omega) hwx (.int .i64 ((k : Int) + 1))
                rw [put_snoc] at hm10
                have hL10 := HL9.out.kept hg10 (by intro e; have := Option.some.inj e; omega) (by intro e; have := Option.some.inj e; omega)
                obtain ⟨w11, cnt11, hdel11, hL11, hle11, hg11⟩ := hL10.drop Try.underlying26 hwx 0
                rw [cut_snoc] at hL11
                have HL11 := Lib.hid hL11
                have HM11 := Lib.hid (show ∃ S, MapV w11 (ml + 2) (mH + (t + 1)) S (resF (putI (T ++ [x]) ((k : Int) + 1) s.res)) from ⟨_, hm10.of_block (hg11.block _ hm10.lt (fun e => by have := Option.some.inj e; omega))⟩)
                have HS10 := Lib.hid (HS9.out.turn (Only.of_grown hg10 (F := fun b => b = ml + 2) (fun k e => (Option.some.inj e).symm)) (fun b hb => ⟨.inl (.inl (.inr (.inr hb))), by omega⟩))
                have HS11 := Lib.hid (HS10.out.turn (Only.of_grown hg11 (F := fun b => b = ml + 1) (fun k e => (Option.some.inj e).symm)) (fun b hb => ⟨.inl (.inl (.inr (.inl hb))), by omega⟩))
                have HB11 := Lib.hid ((hg11.block bx (HS10.out.lt (.inl (.inr rfl))) (fun e => by have := Option.some.inj e; omega)).trans ((hg10.block bx (HS9.out.lt (.inl (.inr rfl))) (fun e => by have := Option.some.inj e; omega)).trans HB9.out))
                have HD11 := Lib.hid (show ∃ S, MapV w11 ml mL S (ldF s4.fl) from by
                  obtain ⟨S, h⟩ := HD9.out
                  have h10 := h.of_block (hg10.block _ h.lt (fun e => by have := Option.some.inj e; omega))
                  exact ⟨S, h10.of_block (hg11.block _ h10.lt (fun e => by have := Option.some.inj e; omega))⟩)
                have HLE := Lib.hid (show cnt11 ≤ cnt9 from hle11)
                clear hkx hL9 hg9 hfx hlx hwx hxT hjk h9 hm10 hg10 hL10 hL11 hg11 hle11
                go_wp2_with fail
                go_roundg cnt11
                case measure => have := HLE.out; omega
                case rel => exact ⟨T ++ [x], t + 1, _, by go_num, Lib.hid ⟨by rw [List.length_append, HT.out.1]; rfl, List.nodup_append.2 ⟨HT.out.2.1, by simp, fun a ha b hb e => HXT.out (by rw [List.mem_singleton.1 hb] at e; rw [← e]; exact ha)⟩, fun a ha => by
                    rcases List.mem_append.1 ha with h | h
                    · exact HT.out.2.2 a h
                    · rw [List.mem_singleton.1 h]; exact HXX.out⟩, HL11, Lib.hid (fun a ha => by
                    by_cases e : a = x
                    · exact .inl (by simp [e])
                    · rcases HCO.out a ha with h | h
                      · exact .inl (by simp [h])
                      · exact .inr (by simp [h, e])), HM11, HS11, HD11, HB11⟩
              · have qk : (kk == xt) = false := by simpa using hkx
                have HKX := Lib.hid hkx
                clear hkx hL9 hg9 hfx hlx hwx hxT hjk
                go_wp2_with fail
                go_roundg cnt9
                case measure => omega
                case rel => exact ⟨T, t, _, rfl, HT, HL9, Lib.hid (fun a ha => by
                    rcases HCO.out a ha with h | h
                    · exact .inl h
                    · refine .inr ?_
                      have : a ≠ x := fun e => by
                        have h2 := (HXM.out a).2 ha
                        rw [e, HJK.out] at h2
                        exact HKX.out (Option.some.inj h2)
                      simp [h, this]), HH9, HS9, HD9, HB9⟩
      by_cases e2 : xk = 2
      · have q0 : (xk == 0) = false := by simpa using e0
        have q1 : (xk == 1) = false := by simpa using e1
        have q2 : (xk == 2) = true := by simpa using e2
        have KL := Lib.hid (y_result HX.out HWF.out)
        have HJ2 := Lib.hid (HJ.out.result (lj : Int))
        unfold YR at KL
        rw [show (s.result (lj : Int)).1 = (s.res (lj : Int)).getD 0 from rfl, show (s.result (lj : Int)).2.1 = (s.res (lj : Int)).isSome from rfl] at KL
        have HRS := Lib.hid (resF_some s.res (lj : Int))
        clear e0 e1 e2
        generalize (s.res (lj : Int)).isSome = y at *
        generalize (s.res (lj : Int)).getD 0 = z at *
        go_wp2_with fail
        refine KL.out.mono ?_
        rintro _ w6 ⟨rfl, h6, hs6⟩
        have HM6 := Lib.hid (HBK.out _ hs6)
        obtain ⟨S6, hm6⟩ := HM6.out.2.2.2
        have hlk := look2 hm6 Try.underlying27 (zeroE _) HWF.out
        rw [HRS.out.1, HRS.out.2] at hlk
        obtain ⟨w7, hdel, hm7, hg7⟩ := hm6.del Try.underlying27 HWF.out 0
        rw [resF_uno] at hm7
        have HH7 := Lib.hid hm7
        have HS7 := Lib.hid (show TY w w7 P (X3 ml (ml + 1) (ml + 2)) (s.result (lj : Int)).2.2 from (h6.turn (Only.of_grown hg7 (F := fun b => b = ml + 2) (fun k e => (Option.some.inj e).symm)) (fun b hb => ⟨.inl (.inr (.inr hb)), by have := HMLO.out; omega⟩)).weaken fun b hb => .inl hb)
        have HL7 := Lib.hid (show ∃ S, MapV w7 ml mL S (ldF s.fl) from by obtain ⟨S, h⟩ := HM6.out.2.1; exact ⟨S, h.of_block (hg7.block _ h.lt (fun e => by have := Option.some.inj e; omega))⟩)
        have HI7 := Lib.hid (show ∃ S, MapV w7 (ml + 1) mI S (resF jn) from by obtain ⟨S, h⟩ := HM6.out.2.2.1; exact ⟨S, h.of_block (hg7.block _ h.lt (fun e => by have := Option.some.inj e; omega))⟩)
        clear h6 hs6 hm6 hm7 hg7
        cases y
        · go_wp2_with fail
          go_roundg (gk - 1)
          case measure => omega
          case rel => exact ⟨k + 1, _, jn, mL, mI, mH, by go_num, by omega, by omega, HS7, Lib.hid (by have := HN.out; show s.N ≤ _ ∧ s.K ≤ _ ∧ _; omega), HJ2, HL7, HI7, Lib.hid ⟨_, HH7.out⟩⟩
        · go_wp2_with fail
          go_roundg (gk - 1)
          case measure => omega
          case rel => exact ⟨k + 1, _, jn, mL, mI, mH, by go_num, by omega, by omega, HS7, Lib.hid (by have := HN.out; show s.N ≤ _ ∧ s.K ≤ _ ∧ _; omega), HJ2, HL7, HI7, Lib.hid ⟨_, HH7.out⟩⟩
      have q0 : (xk == 0) = false := by simpa using e0
      have q1 : (xk == 1) = false := by simpa using e1
      have q2 : (xk == 2) = false := by simpa using e2
      have HM6 := Lib.hid (HBK.out _ (fun b hb => rfl))
      have HS6 := Lib.hid (HX.out.weaken (Y := X3 ml (ml + 1) (ml + 2)) fun b hb => .inl hb)
      clear e0 e1 e2
      go_wp2_with fail
      go_roundg (gk - 1)
      case measure => omega
      case rel => exact ⟨k + 1, s, jn, mL, mI, mH, by go_num, by omega, by omega, HS6, Lib.hid (by have := HN.out; omega), HJ, Lib.hid HM6.out.2.1, Lib.hid HM6.out.2.2.1, Lib.hid HM6.out.2.2.2⟩
    · have HF := Lib.hid (show AwakeE w (.returned (.bool true)) wr from ⟨rfl, HS.out.bel⟩)
      clear HS HN HJ HL HI HH HFF HC
      go_wp2_with fail
      all_goals
        go_ret
        exact HF.out

set_option maxRecDepth 100000 in
theorem lifted (os : Os) (started : os.Started) (H : Type) (enc : TypeId × Value → H) :
    ReturnsInHanded {} Try.checked os 3 .any (Rows.flightOnceSpec.pre6 enc Try.prog Try.f3 Rows.flightOnceRow.domain false) (Rows.flightOnceSpec.post enc Try.prog Try.f3 false true false false) := by
  refine returnsInHanded_of_change (C := Try.checked) own started (by kernel_rfl) Try.func3
    (ChangeSpec.witness6 (enc := enc) (C := Try.checked) false ⟨#[], #[.slice none 0 0], []⟩ 8 (by kernel_rfl) (by kernel_rfl) (by kernel_rfl) (by kernel_rfl)) ?_
  intro W base args ds gs before hval0 hW hcnd _
  have hval : ∀ (j : Nat) t v, Try.f3.params[j]? = some t → args[j]? = some v → Value.okWide Try.prog W .any base t v := hval0
  have hW' := hW
  obtain ⟨p, q, hA0, hV, rfl, hfz, hnd⟩ := hW
  have hA : DataW.TrodAll enc Try.prog W 0 (fun _ => true) true Try.f3.params.toList args.toList ds p := hA0
  rw [Try.params3] at hA hval
  obtain ⟨v0, vs0, d0, ds0, p0, q0, hargs, rfl, rfl, h0, r0⟩ := trodAll_cons hA
  obtain ⟨rfl, rfl, rfl⟩ := trodAll_nil r0
  obtain rfl : args = #[v0] := by cases args; simp_all
  obtain ⟨rfl, rfl⟩ := trodVars_none hV
  have hlt := fun x hx => hW'.lt x hx
  have t0 := h0
  obtain ⟨A0, n0, c0, x0, rfl, e0, s0⟩ := open_acts (hval 0 22 v0 rfl rfl) h0
  clear hA0 hval0
  refine (walk A0 n0 c0 x0 W e0 s0).mono fun e W' ⟨he, hg⟩ => ?_
  subst he
  exact ⟨_, rfl, law_post (pv := []) hW' (fun _ _ _ => (trodAll_cons_mk (shut_bool Try.underlying4 _) trodAll_mk0)) (fun sp hsp => (trodAll_cons_mk (arg_stays (by decide) t0 hg (by simp +contextual) hlt hsp laid) trodAll_mk0)) (fun _ _ => rfl) (by simp)
    hg (ok_one (by kernel_rfl) rfl (okWide_bool_mk Try.underlying4 _))⟩

theorem over : Rows.flightOnceRow.holds Try.pinned (OpenSpec.ofChange Rows.flightOnceSpec) :=
  OpenClaim.holds_of_wide 3 Try.f3 rfl rfl rfl rfl rfl rfl rfl ⟨rfl, rfl, rfl, rfl, rfl⟩ rfl rfl rfl rfl rfl (by kernel_rfl) Try.func3 (by kernel_rfl)
    (of_decide_eq_true (by kernel_rfl)) (by unfold Func.isWrapper; first | (rw [if_pos (by decide +kernel)]; kernel_rfl) | (rw [if_neg (by decide +kernel)]; exact ⟨rfl, rfl⟩))
    (fun os started H enc _ => lifted os started H enc)

/-- The statement. -/
theorem proved : Rows.FlightOnceSaid :=
  over
end Go.Proofs.Ytldleojipogcmaa.flightOnce
