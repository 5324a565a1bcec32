/- Those who join a flight stand in the order in which they came, are told so when it lands, and each has its result once; for any persons (of whom 100 are looked at), any key, any result. -/
import Derived.Test.YtldleojipogcmaaNr
import Derived.Deep.RegionWith
import Derived.Deep.QuietTactic
import Derived.BigQuiet
import Derived.Deep.CutRange
import Derived.Deep.CutBlock
import Derived.Deep.RegionHeld3
import Derived.ProofKit
import Derived.OpenShut
import Derived.Shelf.Abstract
namespace Go.Proofs.Ytldleojipogcmaa.flightOrder
open Go.ChangeShapes Go.WideShapes Go.ChangeAt Go.RowKit
open Go.Proofs.Ytldleojipogcmaa.fl
set_option linter.unusedVariables false

theorem own : ownKnob Try.prog.godebug = none := by kernel_rfl
theorem laid : laidOutB Try.prog = true := by kernel_rfl

set_option maxRecDepth 100000 in
set_option maxHeartbeats 16000000 in
theorem walk (A : Option Addr) (c : Nat) (L : List Int) (kz ez : Int) (w : World) (hc : L.length ≤ c ∧ c ≤ maxLen) (hF : Ivs w w.heap.size A L) (hL : ∀ x ∈ L, Wf x) (hk : (Lit.int .i64 kz).wf = true) (he : (Lit.int .i64 ez).wf = true) :
    Calls Try.prog 6 #[.slice A L.length c, .int .i64 kz, .int .i64 ez] w (AwakeE w) := by
  have HAW := Lib.hid (awake_any w)
  have HFF := Lib.hid hF
  have HLW := Lib.hid hL
  have HC := Lib.hid hc
  have HKZ := Lib.hid (show Wf kz from hk)
  obtain ⟨n, hn⟩ : ∃ n, L.length = n := ⟨_, rfl⟩
  rw [hn] at HC ⊢
  have HNL := Lib.hid hn
  obtain ⟨i0, hi, hz0, hz1, hz2⟩ := info_parts info_i
  have HI := Lib.hid hi
  have HZ := Lib.hid (show i0.zero = some (.int .i64 0) ∧ i0.size = 1 ∧ i0.bytes = 8 from ⟨hz0, hz1, hz2⟩)
  clear hF hc hk he hL hn hi hz0 hz1 hz2
  go_enter Try.func6, Try.ntmps6
  go_wp2_with fail
  refine HAW.out.mono ?_
  rintro _ w1 ⟨rfl, hb1⟩
  have KN := Lib.hid (new_any hb1)
  unfold NewE at KN
  clear hb1 HAW
  go_wp2_with fail
  refine KN.out.mono ?_
  rintro _ w2 ⟨P, rfl, h2, -⟩
  have hb2 := below_alloc w2 (.cells #[] 3)
  have H2 := Lib.hid ((h2.over hb2).weaken (Y := fun b => b = w2.heap.size) fun b hb => .inr ⟨by omega, by rw [hb]; simp⟩)
  obtain ⟨w3, hw3⟩ : ∃ w3, w2.alloc (.cells #[] 3) = w3 := ⟨_, rfl⟩
  have HO3 := Lib.hid (show OI w3 w.heap.size (.slice (some ⟨w2.heap.size, 0, none⟩) 0 0) [] from by
    rw [← hw3]
    exact ⟨rfl, .inr ⟨w2.heap.size, 0, #[], rfl, h2.bel.size, heap_alloc_new w2 _, Nat.le_refl _, by unfold maxLen; omega, rfl, rfl⟩⟩)
  rw [hw3] at H2
  have hmm := @run_makeMap Try.prog 48 w3
  obtain ⟨w4, hw4⟩ : ∃ w4, w3.alloc (.map #[] 0) = w4 := ⟨_, rfl⟩
  obtain ⟨mb, hmb⟩ : ∃ m, w3.heap.size = m := ⟨_, rfl⟩
  have HM4 := Lib.hid (show MapV w4 mb 0 0 (seenF []) from by
    have := MapV.made w3
    rw [hw4, hmb] at this
    have e : seenF [] = fun _ => none := by funext a; simp [seenF]
    rw [e]; exact this)
  have hb4 : Below w3.heap.size w3 w4 := by rw [← hw4]; exact below_alloc _ _
  obtain ⟨g0, hg0⟩ : ∃ g, w2.heap.size = g := ⟨_, rfl⟩
  rw [hg0] at HO3
  have HO4 := Lib.hid (HO3.out.below hb4)
  have HS4 := Lib.hid (show TY w w4 P (fun b => b = mb ∨ (Value.slice (some ⟨g0, 0, none⟩) 0 0).ownBlock = some b) (mkS kz []) from by
    rw [mkS_nil]
    refine (H2.out.over hb4).weaken fun b hb => ?_
    rcases hb with hb | hb
    · exact .inr ⟨by rw [hb, hmb]; exact Nat.le_refl _, by rw [hb, ← hw4]; simp [hmb]⟩
    · exact .inl (by rw [hg0]; exact (Option.some.inj hb).symm))
  have HMB := Lib.hid (show w.heap.size ≤ mb from by rw [← hmb]; exact H2.out.bel.size)
  have HG0 := Lib.hid (show g0 ≠ mb from by rw [← hg0, ← hmb, ← hw3]; simp)
  rw [hmb, hw4] at hmm
  clear h2 hb2 hb4 KN hmb H2 HO3
  go_wp2_with fail
  go_loopg [8, 10] n (fun gk s8 s10 wx => ∃ (k q : Nat) (os : List Int) (Q : Option Addr) (c8 m S : Nat), s8 = .slice Q q c8 ∧ s10 = .int .i64 k ∧ gk + k = n ∧ k ≤ 100 ∧ Hid (os.length = q) ∧ Hid (q ≤ k ∧ m ≤ k) ∧ Hid (TY w wx P (fun b => b = mb ∨ (Value.slice Q q c8).ownBlock = some b) (mkS kz os)) ∧ Hid (OI wx w.heap.size (.slice Q q c8) os) ∧ Hid (MapV wx mb m S (seenF os)) ∧ Hid os.Nodup ∧ Hid (∀ g, (Value.slice Q q c8).ownBlock = some g → g ≠ mb))
  case atStart => exact ⟨0, 0, [], _, 0, 0, 0, rfl, rfl, by omega, by omega, Lib.hid rfl, Lib.hid ⟨Nat.le_refl _, Nat.le_refl _⟩, HS4, HO4, HM4, Lib.hid .nil, Lib.hid fun g e => by rw [← Option.some.inj e]; exact HG0.out⟩
  case round =>
    clear HS4 HO4 HM4 HG0 hmm hw3 hw4 hg0
    obtain ⟨k, q, os, Q, c8, m, S, rfl, rfl, hg, hk100, HQ, HK, HS, HO, HM, HND, HGM⟩ := hrel
    by_cases hlt : k < n ∧ k < 100
    · obtain ⟨hkn, hk1⟩ := hlt
      obtain ⟨gb, go, hA, hgb, _⟩ := (HFF.out.below HS.out.bel) k (by rw [HNL.out]; exact hkn)
      subst hA
      have HV := Lib.hid (show Wf (L.getD k 0) from HLW.out _ (by rw [List.getD_eq_getElem?_getD, List.getElem?_eq_getElem (by rw [HNL.out]; exact hkn)]; exact List.getElem_mem _))
      have HCL := Lib.hid (show ∀ wx, Below w.heap.size w wx → wx.cell? ⟨gb, go + k, none⟩ = some (.int .i64 (L.getD k 0)) from fun wx hb => by
        obtain ⟨g2, o2, h2, _, h3⟩ := (HFF.out.below hb) k (by rw [HNL.out]; exact hkn)
        cases h2; exact h3)
      have KJ := Lib.hid (y_join HS.out (by have := mkS_N kz os; have := HQ.out; have := HK.out; omega) HKZ.out HV.out)
      unfold YJ at KJ
      have c0 := HCL.out _ HS.out.bel
      generalize L.getD k 0 = v at *
      clear hgb
      by_cases hin : v ∈ os
      · rw [mkS_in hin] at KJ
        have HSN := Lib.hid (seen_in hin)
        dsimp only at KJ
        clear hin
        go_wp2_with fail
        refine KJ.out.mono ?_
        rintro _ w5 ⟨rfl, h5, hs5⟩
        have HM5 := Lib.hid (HM.out.of_block (hs5 mb (.inl rfl)))
        have HO5 := Lib.hid (HO.out.keep fun g e => hs5 g (.inr e))
        have hlk := HM5.out.look Try.underlying48 (z := .bool false) (by kernel_rfl) HV.out
        rw [HSN.out.2] at hlk
        obtain ⟨w6, hput, hm6, hg6⟩ := HM5.out.put Try.underlying48 (by have := HK.out; omega) HV.out (.bool true)
        rw [HSN.out.1] at hm6
        have HM6 := Lib.hid hm6
        have HS6 := Lib.hid (h5.turn (Only.of_grown hg6 (F := fun b => b = mb) (fun k e => (Option.some.inj e).symm)) (fun b hb => ⟨.inl hb, hb ▸ HMB.out⟩))
        have HO6 := Lib.hid (HO5.out.keep fun g e => hg6.block g (HO5.out.olt e).2 (fun e2 => HGM.out g e (Option.some.inj e2)))
        have c5 := HCL.out _ h5.bel
        clear h5 hs5 hm6 hg6
        go_wp2_with fail
        go_roundg (gk - 1)
        case measure => omega
        case rel => exact ⟨k + 1, q, os, Q, c8, _, _, rfl, by go_num, by omega, by omega, HQ, Lib.hid (by have := HK.out; omega), HS6, HO6, HM6, HND, HGM⟩
      · rw [mkS_out hin] at KJ
        have HSN := Lib.hid (seen_out hin)
        have HND2 := Lib.hid (show (os ++ [v]).Nodup from List.nodup_append.2 ⟨HND.out, by simp, fun a ha b hb e => hin (by rw [List.mem_singleton.1 hb] at e; rw [← e]; exact ha)⟩)
        have hq0 := HQ.out
        rw [hq0] at KJ
        dsimp only at KJ
        clear hin hq0
        obtain ⟨lb, hlb⟩ : ∃ lb, decide (q = 0) = lb := ⟨_, rfl⟩
        rw [hlb] at KJ
        have hlb2 : (!lb == ((q : Int) == 0)) = false := by
          rw [← hlb]
          by_cases e : q = 0
          · subst e; rfl
          · have : ((q : Int) == 0) = false := by simpa using e
            rw [this]; simp [e]
        clear hlb
        go_wp2_with fail
        refine KJ.out.mono ?_
        rintro _ w5 ⟨rfl, h5, hs5⟩
        have HM5 := Lib.hid (HM.out.of_block (hs5 mb (.inl rfl)))
        have HO5 := Lib.hid (HO.out.keep fun g e => hs5 g (.inr e))
        have hlk := HM5.out.look Try.underlying48 (z := .bool false) (by kernel_rfl) HV.out
        rw [HSN.out.2] at hlk
        have HS5 := Lib.hid h5
        have c5 := HCL.out _ h5.bel
        clear h5 hs5
        have HOA := Lib.hid (show ∀ o, (w5.alloc o).ownsRow w.heap.size 3 1 (.slice Q q c8) q (fl.encI os) from fun o => by
          have := HO5.out
          unfold OI at this
          rw [HQ.out] at this
          exact this.alloc o)
        have HQK := Lib.hid (show q ≤ 100 by have := HK.out; omega)
        have HAP : ∀ v1 w7, w7.ownsRow w.heap.size 3 1 v1 (q + 1) (fl.encI os ++ [.int .i64 v]) → ((w5.alloc (.cells #[.int .i64 v] 3))).grownBy w7 (Value.slice Q q c8).ownBlock → (v1.ownBlock = (Value.slice Q q c8).ownBlock ∨ v1.ownBlock = some (w5.alloc (.cells #[.int .i64 v] 3)).heap.size) → ∃ Q2 c2 w8 S2, v1 = .slice Q2 (q + 1) c2 ∧ w7.cell? ⟨gb, go + k, none⟩ = some (.int .i64 v) ∧ (Instr.mapUpdate 48 (.map (some mb)) (.int .i64 v) (.bool true)).run Try.prog w7 = .ok () w8 ∧
            TY w w8 P (fun b => b = mb ∨ (Value.slice Q2 (q + 1) c2).ownBlock = some b) (mkS kz (os ++ [v])) ∧ OI w8 w.heap.size (.slice Q2 (q + 1) c2) (os ++ [v]) ∧ MapV w8 mb (m + 1) S2 (seenF (os ++ [v])) ∧ ∀ g, (Value.slice Q2 (q + 1) c2).ownBlock = some g → g ≠ mb := by
          intro v1 w7 h2 h3 h4
          have h6 : OI w7 w.heap.size v1 (os ++ [v]) := by
            unfold OI
            rw [List.length_append, HQ.out, fl.encI_app]; exact h2
          obtain ⟨Q2, c2, e⟩ := h6.form
          have e2 : v1 = .slice Q2 (q + 1) c2 := by rw [e, List.length_append, HQ.out]; rfl
          subst e2
          have hmlt := HM5.out.lt
          have hb5 := below_alloc w5 (.cells #[.int .i64 v] 3)
          have h7 := (HS5.out.over hb5).turn_over (Only.of_grown h3 (F := fun b => (Value.slice Q q c8).ownBlock = some b) fun g e => e) (fun b hb => ⟨.inl (.inr hb), (HO5.out.olt hb).1⟩)
          have hM7 : MapV w7 mb m S (seenF os) := HM5.out.of_block ((h3.block mb (Nat.lt_of_lt_of_le hmlt hb5.size) (fun e => HGM.out mb e.symm rfl)).trans (hb5.block mb hmlt))
          obtain ⟨w8, hput, hm8, hg8⟩ := hM7.put Try.underlying48 (by have := HK.out; have := HQK.out; omega) HV.out (.bool true)
          rw [HSN.out.1] at hm8
          have hne : ∀ g, (Value.slice Q2 (q + 1) c2).ownBlock = some g → g ≠ mb := fun g e => by
            rcases h4 with h | h
            · rw [e] at h; exact HGM.out g h.symm
            · rw [e] at h
              have h9 := Option.some.inj h
              simp at h9
              omega
          have h8 := (h7.weaken (Y := fun b => b = mb ∨ (Value.slice Q2 (q + 1) c2).ownBlock = some b) fun b hb => by
            rcases hb with hb | hb
            · exact .inl (.inl (.inl hb))
            · rcases h4 with h | h
              · exact .inl (.inl (.inr (by rw [← h]; exact hb)))
              · rw [hb] at h
                have h9 := Option.some.inj h
                exact .inr ⟨by omega, (h6.olt hb).2⟩).turn (Only.of_grown hg8 (F := fun b => b = mb) (fun k e => (Option.some.inj e).symm)) (fun b hb => ⟨.inl hb, hb ▸ HMB.out⟩)
          exact ⟨Q2, c2, w8, _, rfl, HCL.out _ h7.bel, hput, h8, h6.keep fun g e => hg8.block g (h6.olt e).2 (fun e2 => hne g e (Option.some.inj e2)), hm8, hne⟩
        have HAQ := Lib.hid HAP
        clear HAP
        go_wp2_with (at_builtin; go_loud (refine wpList_append_own_at _ rfl (.tmp 73) (.tmp 78) 34 rfl w.heap.size 3 i0 _ 1 8 Try.underlying34 HI.out HZ.out.1 HZ.out.2.1 HZ.out.2.2 rfl (by decide) _ q (fl.encI os) rfl (HOA.out _) ⟨w5.heap.size, 0, none⟩ 1 1 [.int .i64 v] rfl rfl (World.news_of_block (cs := #[.int .i64 v]) (t := 3) (fr := (0, 0)) (heap_alloc_new w5 _)) (by intro u hu; simp at hu; subst hu; rfl) (by have := HQK.out; unfold maxLen; omega) (by have := HQK.out; omega) (by have := HS5.out.bel.size; simp; omega) ?_; intro v1 w7 hown1 hgrow1 _ hat1; obtain ⟨Q2, c2, w8, S2, rfl, c7, hput7, h8, ho8, hm8, hne8⟩ := HAQ.out v1 w7 hown1 hgrow1 hat1; have HS8 := Lib.hid h8; have HO8 := Lib.hid ho8; have HM8 := Lib.hid hm8; have HN8 := Lib.hid hne8; clear hown1 hgrow1 hat1 h8 ho8 hm8 hne8))
        go_roundg (gk - 1)
        case measure => omega
        case rel => exact ⟨k + 1, q + 1, os ++ [v], Q2, c2, _, _, rfl, by go_num, by omega, by omega, Lib.hid (by rw [List.length_append, HQ.out]; rfl), Lib.hid (by have := HK.out; omega), HS8, HO8, HM8, HND2, HN8⟩
    · clear HFF HLW HC
      have hcap := HO.out.cap
      by_cases hq0 : q = 0
      · subst hq0
        obtain rfl : os = [] := List.eq_nil_of_length_eq_zero HQ.out
        have KL := Lib.hid (y_lead HS.out HKZ.out)
        rw [mkS_lead] at KL
        dsimp only at KL
        go_wp2_with fail
        all_goals
          refine KL.out.mono ?_
          rintro _ w3 ⟨rfl, hb3⟩
          have HF := Lib.hid (show AwakeE w (.returned (.bool true)) w3 from ⟨rfl, below_step HS.out.bel hb3⟩)
          clear hb3
          go_wp2_with fail
          go_ret
          exact HF.out
      · obtain ⟨o, r, rfl⟩ : ∃ o r, os = o :: r := by
          cases os with
          | nil => exact absurd HQ.out.symm hq0
          | cons o r => exact ⟨o, r, rfl⟩
        obtain ⟨qr, hqr⟩ : ∃ qr, r.length = qr := ⟨_, rfl⟩
        obtain rfl : q = qr + 1 := by rw [← HQ.out, ← hqr]; rfl
        have HQR := Lib.hid hqr
        have HK2 := Lib.hid (show qr ≤ 100 by have := HK.out; omega)
        obtain ⟨gq, hgq, -, -, -⟩ := HO.out.cells.2 0 (by omega)
        subst hgq
        clear hqr hq0
        go_wp2_with fail
        all_goals
          have HSd := Lib.hid (HS.out.below ((Below.refl wr.heap.size wr).drew))
          have HOd := Lib.hid (HO.out.below ((Below.refl wr.heap.size wr).drew))
          have KJ := Lib.hid (y_joined HSd.out (by have h3 := (mkS_N kz (o :: r)).1; rw [HQ.out] at h3; have := HK2.out; omega) HKZ.out)
          rw [mkS_joined] at KJ
          unfold RetI at KJ
          rw [HQR.out] at KJ
          obtain ⟨ad', c', hsl, hsl2, hcc⟩ := run_tail gq 0 qr c8 hcap
          have HCC := Lib.hid hcc
          clear hcc
          have SS : True := trivial
          have HCAP := Lib.hid hcap
          have HWF := Lib.hid (HSd.out.wf (k := kz) (l := o) (xs := r) (by rw [mkS_fl]; rfl))
          go_region_held3 (fun _ => True) (first | trivial | assumption)
            (first | (go_at_call 16; ((with_reducible refine KJ.out.mono ?_); rintro _ w3 ⟨QJ, cJ, rfl, ho3, hb3⟩; have H3 := Lib.hid (HSd.out.below hb3); have HR3 := Lib.hid (HOd.out.below hb3); have KS := Lib.hid (same_yes ho3.ir (HR3.out.ir.tail HCC.out.1) ho3.cap HCC.out.2 (by have := HK2.out; omega)); clear ho3 hb3)) | (go_at_call 17; ((with_reducible refine KS.out.mono ?_); rintro _ w4 hY; have hb4 := hY.below; obtain rfl := hY.1; have H4 := Lib.hid (H3.out.below hb4); have HR4 := Lib.hid (HR3.out.below hb4); clear hY hb4)))
          all_goals
            clear SS
            obtain ⟨g2, hg2, -, -, x4⟩ := HR4.out.cells.2 0 (by omega)
            cases hg2
            have KL := Lib.hid (y_land H4.out (who := o) (e := ez) (by have h3 := (mkS_N kz (o :: r)).1; rw [HQ.out] at h3; have := HK2.out; omega) (by have h3 := (mkS_N kz (o :: r)).2; omega) HKZ.out)
            rw [mkS_land kz o ez r HND.out] at KL
            unfold YL at KL
            dsimp only at KL
            rw [HQR.out] at KL
            rw [List.getD_cons_zero] at x4
            go_wp2_with fail
            refine KL.out.mono ?_
            rintro _ w5 ⟨Q7, c7, rfl, ho5, h5, hs5⟩
            have HR5 := Lib.hid (HR4.out.keep fun g e => hs5 g (.inr e))
            have HO5 := Lib.hid ho5
            have H5 := Lib.hid (h5.weaken fun b hb => .inl hb)
            have KS2 := Lib.hid (same_yes ho5.ir (HR5.out.ir.tail HCC.out.1) ho5.cap HCC.out.2 (by have := HK2.out; omega))
            clear ho5 h5 hs5 x4
            go_wp2_with fail
            refine KS2.out.mono ?_
            rintro _ w6 hY
            have hb6 := hY.below
            obtain rfl := hY.1
            have H6 := Lib.hid (H5.out.below hb6)
            have HR6 := Lib.hid (HR5.out.below hb6)
            clear hY hb6
            go_wp2_with fail
            have hk2 := HK2.out
            go_loopg [125] qr (fun gk i wx => ∃ j : Nat, j ≤ qr ∧ gk + j = qr ∧ i = .int .i64 j ∧ Hid (TY w wx P (fun b => b = mb ∨ (Value.slice (some ⟨gq, 0, none⟩) (qr + 1) c8).ownBlock = some b) (dnS r ez j (qr + 1) qr)) ∧ Hid (OI wx w.heap.size (.slice (some ⟨gq, 0, none⟩) (qr + 1) c8) (o :: r)))
            case atStart => exact ⟨0, by omega, by omega, rfl, H6, HR6⟩
            case round =>
              clear H6 HR6
              obtain ⟨j, hj, hgj, rfl, H7, HR7⟩ := hrel
              by_cases hlt2 : j < qr
              · obtain ⟨g3, o3, hg3, -, x7⟩ := (HR7.out.ir.tail HCC.out.1).2 j hlt2
                cases hg3
                have HRS := Lib.hid (dnS_res (e := ez) (N := qr + 1) (K := qr) (show j < r.length by have := HQR.out; omega) (List.nodup_cons.1 HND.out).2)
                have HV := Lib.hid (show Wf (r.getD j 0) from HWF.out.2.2.1 _ (by rw [List.getD_eq_getElem?_getD, List.getElem?_eq_getElem (by have := HQR.out; omega)]; exact List.getElem_mem _))
                have KR := Lib.hid (y_result H7.out HV.out)
                unfold YR at KR
                rw [HRS.out.1] at KR
                dsimp only at KR
                generalize r.getD j 0 = v at *
                go_wp2_with fail
                refine KR.out.mono ?_
                rintro _ w8 ⟨rfl, h8, hs8⟩
                have H8 := Lib.hid h8
                have HR8 := Lib.hid (HR7.out.keep fun g e => hs8 g (.inr e))
                have KB := Lib.hid (y_busy H8.out HV.out)
                rw [HRS.out.2] at KB
                unfold RetB at KB
                clear h8 hs8 x7
                go_wp2_with fail
                refine KB.out.mono ?_
                rintro _ w9 ⟨rfl, hb9⟩
                have H9 := Lib.hid (H8.out.below hb9)
                have HR9 := Lib.hid (HR8.out.below hb9)
                clear hb9
                go_wp2_with fail
                go_roundg (gk - 1)
                case measure => omega
                case rel => exact ⟨j + 1, by omega, by omega, by go_num, H9, HR9⟩
              · obtain rfl : j = qr := by omega
                have KK := Lib.hid (y_keys H7.out (by show j + 1 ≤ _; omega))
                go_wp2_with fail
                refine KK.out.mono ?_
                rintro _ w8 ⟨v8, ks, rfl, -, hm8, ho8, hb8⟩
                obtain rfl : ks = [] := keys_nil hm8
                obtain ⟨Q8, c8', rfl⟩ := ho8.form
                have H8 := Lib.hid (H7.out.below hb8)
                have HR8 := Lib.hid (HR7.out.below hb8)
                obtain ⟨g4, hg4, -, -, x8⟩ := HR8.out.cells.2 0 (by omega)
                cases hg4
                rw [List.getD_cons_zero] at x8
                have KB := Lib.hid (y_busy H8.out (who := o) HWF.out.2.1)
                have HDE := Lib.hid (dnS_end r ez (j + 1) j o)
                rw [HQR.out] at HDE
                rw [HDE.out] at KB
                unfold RetB at KB
                simp only [List.length_nil]
                clear hm8 ho8 hb8
                go_wp2_with fail
                refine KB.out.mono ?_
                rintro _ w9 ⟨rfl, hb9⟩
                have HF := Lib.hid (show AwakeE w (.returned (.bool true)) w9 from ⟨rfl, below_step H8.out.bel hb9⟩)
                clear hb9
                go_wp2_with fail
                go_ret
                exact HF.out

set_option maxRecDepth 100000 in
theorem lifted (os : Os) (started : os.Started) (H : Type) (enc : TypeId × Value → H) :
    ReturnsInHanded {} Try.checked os 6 .any (Rows.flightOrderSpec.pre6 enc Try.prog Try.f6 Rows.flightOrderRow.domain false) (Rows.flightOrderSpec.post enc Try.prog Try.f6 false true false false) := by
  refine returnsInHanded_of_change (C := Try.checked) own started (by kernel_rfl) Try.func6
    (ChangeSpec.witness6 (enc := enc) (C := Try.checked) false ⟨#[], #[.slice none 0 0, .int .i64 0, .int .i64 0], []⟩ 8 (by kernel_rfl) (by kernel_rfl) (by kernel_rfl) (by kernel_rfl)) ?_
  intro W base args ds gs before hval0 hW hcnd _
  have hval : ∀ (j : Nat) t v, Try.f6.params[j]? = some t → args[j]? = some v → Value.okWide Try.prog W .any base t v := hval0
  have hW' := hW
  obtain ⟨p, q, hA0, hV, rfl, hfz, hnd⟩ := hW
  have hA : DataW.TrodAll enc Try.prog W 0 (fun _ => true) true Try.f6.params.toList args.toList ds p := hA0
  rw [Try.params6] at hA hval
  obtain ⟨v0, vs0, d0, ds0, p0, q0, hargs, rfl, rfl, h0, r0⟩ := trodAll_cons hA
  obtain ⟨v1, vs1, d1, ds1, p1, q1, rfl, rfl, rfl, h1, r1⟩ := trodAll_cons r0
  obtain ⟨v2, vs2, d2, ds2, p2, q2, rfl, rfl, rfl, h2, r2⟩ := trodAll_cons r1
  obtain ⟨rfl, rfl, rfl⟩ := trodAll_nil r2
  obtain rfl : args = #[v0, v1, v2] := by cases args; simp_all
  obtain ⟨rfl, rfl⟩ := trodVars_none hV
  have hlt := fun x hx => hW'.lt x hx
  have t0 := h0
  obtain ⟨A0, c0, x0, rfl, e0, s0, f0⟩ := open_nums (hval 0 34 v0 rfl rfl) h0
  obtain ⟨a1, rfl, rfl, rfl, w1⟩ := open_int Try.underlying3 (hval 1 3 v1 rfl rfl) h1
  obtain ⟨a2, rfl, rfl, rfl, w2⟩ := open_int Try.underlying28 (hval 2 28 v2 rfl rfl) h2
  clear hA0 hval0
  refine (walk A0 c0 x0 a1 a2 W e0 s0 f0 w1 w2).mono fun e W' ⟨he, hg⟩ => ?_
  subst he
  exact ⟨_, rfl, law_post (pv := []) hW' (fun _ _ _ => (trodAll_cons_mk (shut_bool Try.underlying4 _) trodAll_mk0)) (fun sp hsp => (trodAll_cons_mk (arg_stays (by decide) t0 hg (by simp +contextual) hlt hsp laid) (trodAll_cons_mk (shut_int Try.underlying3 w1) (trodAll_cons_mk (shut_int Try.underlying28 w2) trodAll_mk0)))) (fun _ _ => rfl) (by simp)
    hg (ok_one (by kernel_rfl) rfl (okWide_bool_mk Try.underlying4 _))⟩

theorem over : Rows.flightOrderRow.holds Try.pinned (OpenSpec.ofChange Rows.flightOrderSpec) :=
  OpenClaim.holds_of_wide 6 Try.f6 rfl rfl rfl rfl rfl rfl rfl ⟨rfl, rfl, rfl, rfl, rfl⟩ rfl rfl rfl rfl rfl (by kernel_rfl) Try.func6 (by kernel_rfl)
    (of_decide_eq_true (by kernel_rfl)) (by unfold Func.isWrapper; first | (rw [if_pos (by decide +kernel)]; kernel_rfl) | (rw [if_neg (by decide +kernel)]; exact ⟨rfl, rfl⟩))
    (fun os started H enc _ => lifted os started H enc)

/-- The statement. -/
theorem proved : Rows.FlightOrderSaid :=
  over
end Go.Proofs.Ytldleojipogcmaa.flightOrder
