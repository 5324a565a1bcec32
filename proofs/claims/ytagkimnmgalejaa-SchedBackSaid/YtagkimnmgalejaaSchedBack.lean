/- A lock that is taken at once and given back leaves all as it was; where it isn't taken at once the task waits behind all others; for any number of tasks, any acts (of which 150 are played), any task, any lock. -/
import Derived.Test.YtagkimnmgalejaaRc
import Derived.Test.YtagkimnmgalejaaMo
import Derived.Test.YtagkimnmgalejaaMp
import Derived.Deep.RegionWith
import Derived.Deep.QuietTactic
import Derived.BigQuiet
import Derived.ProofKit
import Derived.OpenShut
import Derived.Shelf.Abstract
namespace Go.Proofs.Ytagkimnmgalejaa.schedBack
open Go.ChangeShapes Go.WideShapes Go.ChangeAt Go.RowKit
open Go.Proofs.Ytagkimnmgalejaa.sc
set_option linter.unusedVariables false

theorem own : ownKnob Try.prog.godebug = none := by kernel_rfl
theorem laid : laidOutB Try.prog = true := by kernel_rfl

set_option maxRecDepth 100000 in
set_option maxHeartbeats 16000000 in
theorem walk (tz : Int) (A : Option Addr) (n c : Nat) (F : Nat → Ac) (tk lk : Int) (bw : Bool) (w : World) (hz : (Lit.int .i64 tz).wf = true) (hc : n ≤ c ∧ c ≤ maxLen) (hF : Acts w w.heap.size A n F) (htk : (Lit.int .i64 tk).wf = true) (hlk : (Lit.int .i64 lk).wf = true) :
    Calls Try.prog 6 #[.int .i64 tz, .slice A n c, .int .i64 tk, .int .i64 lk, .bool bw] w (AwakeE w) := by
  have HAW := Lib.hid (awake_any w)
  have HFF := Lib.hid hF
  have HC := Lib.hid hc
  have HLK := Lib.hid (show Wf lk from hlk)
  clear hz hF hc htk hlk
  by_cases hr : ¬ (0 ≤ tz ∧ tz ≤ 64)
  · have KN := Lib.hid (fun W => new_nil (w := W) hr)
    unfold StE at KN
    clear hr
    go_enter Try.func6, Try.ntmps6
    go_wp2_with fail
    refine HAW.out.mono ?_
    rintro _ w1 ⟨rfl, hb1⟩
    have HB1 := Lib.hid hb1
    clear hb1 HAW
    go_wp2_with fail
    refine (KN.out _).mono ?_
    rintro _ w2 ⟨rfl, rfl⟩
    go_wp2_with fail
    go_ret
    exact ⟨rfl, HB1.out⟩
  obtain ⟨q, hq, rfl⟩ : ∃ q : Nat, q ≤ 64 ∧ tz = (q : Int) := ⟨tz.toNat, by omega, by omega⟩
  have HQ := Lib.hid hq
  clear hr hq
  go_enter Try.func6, Try.ntmps6
  go_wp2_with fail
  refine HAW.out.mono ?_
  rintro _ w1 ⟨rfl, hb1⟩
  have HB1 := Lib.hid hb1
  have KN := Lib.hid (y_new hb1 q HQ.out)
  clear hb1 HAW
  go_wp2_with fail
  refine KN.out.mono ?_
  rintro _ w2 ⟨P, rfl, h2, hb2⟩
  have H2 := Lib.hid h2.forget
  clear h2 hb2 KN
  go_wp2_with fail
  go_loopg [12] n (fun gk s12 wx => ∃ (k : Nat) (s : Sd), s12 = .int .i64 k ∧ gk + k = n ∧ k ≤ 150 ∧ Hid (SY w wx P No s) ∧ Hid (sc.Good s) ∧ Hid (s.N ≤ k))
  case atStart => exact ⟨0, Sd.new q, rfl, by omega, by omega, H2, Lib.hid (good_new _), Lib.hid (Nat.le_refl _)⟩
  case round =>
    clear H2
    obtain ⟨k, s, rfl, hg, hk150, HS, HGD, HN⟩ := hrel
    by_cases hlt : k < n ∧ k < 150
    · obtain ⟨hkn, hk1⟩ := hlt
      obtain ⟨gb, go, hA, hgb, c0, c1, c2, c3, hwf⟩ := (HFF.out.below HS.out.bel) k hkn
      subst hA
      obtain ⟨x, hx⟩ : ∃ x, F k = x := ⟨_, rfl⟩
      rw [hx] at c0 c1 c2 c3 hwf
      obtain ⟨xk, xt, xn, xw⟩ := x
      dsimp only at c0 c1 c2 c3 hwf
      have KP := Lib.hid (play_any HS.out (k := xk) (t := xt) (b := xw) (by have := HN.out; omega) hwf)
      have HA2 := Lib.hid (HGD.out.act ⟨xk, xt, xn, xw⟩)
      have HN2 := Lib.hid (act_N s ⟨xk, xt, xn, xw⟩).1
      generalize act s ⟨xk, xt, xn, xw⟩ = s2 at *
      clear hx hwf
      go_wp2_with fail
      refine KP.out.mono ?_
      rintro _ w3 ⟨rfl, h3, -⟩
      have H3 := Lib.hid h3
      clear h3
      go_wp2_with fail
      go_roundg (gk - 1)
      case measure => omega
      case rel => exact ⟨k + 1, s2, by go_num, by omega, by omega, H3, HA2, Lib.hid (by have := HN2.out; have := HN.out; omega)⟩
    · have HBK := Lib.hid (lock_back HGD.out tk lk bw)
      have HNN := Lib.hid (show s.N ≤ 150 by have := HN.out; omega)
      have KR := Lib.hid (y_ready HS.out)
      by_cases hkn : k < n
      · have hk2 : ¬ (k : Int) < 150 := by omega
        clear hlt
        go_upto_region 10 with fail
        clear hk2 hkn
        go_wp2_with fail
        refine KR.out.mono ?_
        rintro _ w3 hE
        obtain ⟨A3, c3, rfl, ho3, hb3⟩ := hE.lift (Below.refl _ _)
        have HR3 := Lib.hid (ir_nat ho3)
        have HAB3 := Lib.hid (own_ab ho3)
        have HB3 := Lib.hid hb3
        have KW := Lib.hid (y_waiting (HS.out.below hb3))
        clear hE ho3 hb3
        go_wp2_with fail
        refine KW.out.mono ?_
        rintro _ w4 hE
        obtain ⟨A4, c4, rfl, ho4, hb4⟩ := hE.lift (Below.refl _ _)
        have HR4 := Lib.hid (ir_nat ho4)
        have HAB4 := Lib.hid (own_ab ho4)
        have HB4 := Lib.hid (below_step HB3.out hb4)
        have HB34 := Lib.hid hb4
        have KH := Lib.hid (y_holders (HS.out.below HB4.out) (l := lk) (by have := HNN.out; omega) HLK.out)
        clear hE ho4 hb4 KW KR
        go_wp2_with fail
        refine KH.out.mono ?_
        rintro _ w5 ⟨v5, rfl, ho5, hb5⟩
        obtain ⟨A5, c5, rfl⟩ := own_slice ho5
        have HR5 := Lib.hid (ir_ints ho5)
        have HAB5 := Lib.hid (own_ab ho5)
        have HB5 := Lib.hid (below_step HB4.out hb5)
        have HB45 := Lib.hid hb5
        have KQ := Lib.hid (y_queue (HS.out.below HB5.out) (l := lk) (by have := HNN.out; omega) HLK.out)
        clear ho5 hb5 KH
        go_wp2_with fail
        refine KQ.out.mono ?_
        rintro _ w6 hE
        obtain ⟨A6, c6, rfl, ho6, hb6⟩ := hE.lift (Below.refl _ _)
        have HR6 := Lib.hid (ir_nat ho6)
        have HAB6 := Lib.hid (own_ab ho6)
        have HB6 := Lib.hid (below_step HB5.out hb6)
        have HB56 := Lib.hid hb6
        have H6 := Lib.hid (HS.out.over HB6.out)
        have HL0 := Lib.hid (at_le s 0)
        have HL64 := Lib.hid HS.out.n64
        have HQF := Lib.hid (show (s.queue lk).length ≤ 150 by
          have h1 := HS.out.few lk
          have h2 := HNN.out
          have h3 : (s.queue lk).length ≤ (s.cl lk).length := by unfold Sd.queue; rw [List.length_map]; exact List.length_filter_le _ _
          omega)
        have HTF := Lib.hid (show (srt (tasksN (s.heldL lk))).length ≤ 150 by
          have h1 := HS.out.few lk
          have h2 := HNN.out
          have h3 : (s.heldL lk).length ≤ (s.cl lk).length := by unfold Sd.heldL; exact List.length_filter_le _ _
          rw [srt_len]
          simp only [tasksN, List.length_map]
          omega)
        have HR3b := Lib.hid (HR3.out.below (HB34.out.mono (Nat.le_refl _)))
        have HK6 := Lib.hid (show IR w6 A3 (s.at_ 0).length (nat (s.at_ 0)) ∧ IR w6 A4 (s.at_ 1).length (nat (s.at_ 1)) ∧ IR w6 A5 (srt (tasksN (s.heldL lk))).length (srt (tasksN (s.heldL lk))) ∧ IR w6 A6 (s.queue lk).length (nat (s.queue lk)) from
          ⟨((HR3b.out.below HB45.out).below HB56.out), ((HR4.out.below HB45.out).below HB56.out), HR5.out.below HB56.out, HR6.out⟩)
        have HXX := Lib.hid (show ∀ A : Option Addr, A = A3 ∨ A = A4 ∨ A = A5 ∨ A = A6 → ∀ gg, A = some ⟨gg, 0, none⟩ → (No gg ∨ (wr.heap.size ≤ gg ∧ gg < w6.heap.size)) from by
          intro A hA gg e
          right
          have s3 := HB3.out.size
          have s4 := HB34.out.size
          have s5 := HB45.out.size
          have s6 := HB56.out.size
          rcases hA with h | h | h | h
          · have := HAB3.out.2 gg (h ▸ e); omega
          · have := HAB4.out.2 gg (h ▸ e); omega
          · have := HAB5.out.2 gg (h ▸ e); omega
          · have := HAB6.out.2 gg (h ▸ e); omega)
        have KL := Lib.hid (y_lock H6.out (t := tk) (by have := HNN.out; omega) HLK.out bw)
        have HNL := Lib.hid (lock_N s tk lk bw)
        clear hE ho6 hb6 KQ
        unfold YL at KL
        obtain ⟨r, hr⟩ : ∃ r, s.lock tk lk bw = r := ⟨_, rfl⟩
        unfold BackE at HBK
        rw [hr] at KL HBK HNL
        clear hr
        obtain ⟨r1, r2, s2⟩ := r
        dsimp only at KL HBK HNL
        rcases HBK.out with ⟨e1, e2, e3⟩ | ⟨e1, e2, kk, e3, e4, e5⟩ | ⟨e1, e2, e3, e4, e5, e6⟩
        · subst e2
          subst e3
          have hne : (r2 != 0) = true := by simpa using e1
          have hne2 : (r2 == 0) = false := by simpa using e1
          obtain ⟨m0, hm0⟩ : ∃ x, (s2.at_ 0).length = x := ⟨_, rfl⟩
          obtain ⟨m1, hm1⟩ : ∃ x, (s2.at_ 1).length = x := ⟨_, rfl⟩
          have HM0 := Lib.hid hm0
          have HM1 := Lib.hid hm1
          have HMB := Lib.hid (show m0 ≤ 64 ∧ m1 ≤ 64 by have := at_le s2 0; have := at_le s2 1; have := HL64.out; omega)
          rw [hm0, hm1]
          rw [hm0, hm1] at HK6
          rw [hm0] at HAB3
          rw [hm1] at HAB4
          clear e1 HBK hm0 hm1
          go_wp2_with fail
          refine KL.out.mono ?_
          rintro _ w7 ⟨rfl, h7, hs7⟩
          have H7 := Lib.hid h7
          have HIK := Lib.hid (show ∀ A n L, (A = A3 ∨ A = A4 ∨ A = A5 ∨ A = A6) → IR w6 A n L → IR w7 A n L from fun A n L hA hi => hi.keep2 fun gg e => ⟨h7.lt (HXX.out A hA gg e), hs7 gg (HXX.out A hA gg e)⟩)
          have KR7 := Lib.hid (y_ready h7)
          clear h7 hs7 KL
          go_wp2_with fail
          refine KR7.out.mono ?_
          rintro _ w8 hE
          obtain ⟨A8, c8, rfl, ho8, hb8⟩ := hE.lift (Below.refl _ _)
          rw [HM0.out] at ho8 ⊢
          have KS8 := Lib.hid (same_yes (ir_nat ho8) ((HIK.out A3 m0 _ (.inl rfl) HK6.out.1).below hb8) (own_ab ho8).1 HAB3.out.1 (by have := HMB.out.1; omega))
          have H8 := Lib.hid (H7.out.below hb8)
          have HB8 := Lib.hid hb8
          unfold YesE at KS8
          clear hE ho8 hb8 KR7
          go_wp2_with fail
          refine KS8.out.mono ?_
          rintro _ w9 ⟨rfl, hb9⟩
          have H9 := Lib.hid (H8.out.below hb9)
          have HB9 := Lib.hid (below_step HB8.out hb9)
          have KR9 := Lib.hid (y_waiting H9.out)
          clear hb9 KS8
          go_wp2_with fail
          refine KR9.out.mono ?_
          rintro _ w10 hE
          obtain ⟨A10, c10, rfl, ho10, hb10⟩ := hE.lift (Below.refl _ _)
          rw [HM1.out] at ho10 ⊢
          have KS10 := Lib.hid (same_yes (ir_nat ho10) ((HIK.out A4 m1 _ (.inr (.inl rfl)) HK6.out.2.1).below (below_step HB9.out hb10)) (own_ab ho10).1 HAB4.out.1 (by have := HMB.out.2; omega))
          have H10 := Lib.hid (H9.out.below hb10)
          unfold YesE at KS10
          clear hE ho10 hb10 KR9
          go_wp2_with fail
          refine KS10.out.mono ?_
          rintro _ w11 ⟨rfl, hb11⟩
          have HF := Lib.hid (show AwakeE w (.returned (.bool true)) w11 from ⟨rfl, below_step H10.out.bel hb11⟩)
          clear hb11 KS10
          go_wp2_with fail
          go_ret
          exact HF.out
        · subst e1
          subst e2
          subst e3
          obtain ⟨qn, hqn⟩ : ∃ x, (s.queue lk).length = x := ⟨_, rfl⟩
          obtain ⟨m0, hm0⟩ : ∃ x, (s2.at_ 0).length = x := ⟨_, rfl⟩
          have HM0 := Lib.hid hm0
          have HQL := Lib.hid (show (s2.queue lk).length = qn + 1 by rw [e4, List.length_append, hqn]; rfl)
          have HQE := Lib.hid e4
          have HQN := Lib.hid hqn
          have hmm : (s.at_ 0).length = m0 + 1 := by omega
          have hm64 : m0 ≤ 64 := by have := HL0.out; have := HL64.out; omega
          have hq150 : qn ≤ 150 := by have := HQF.out; omega
          rw [hqn, hmm]
          clear HBK e4 e5 hqn hm0 hmm
          go_wp2_with fail
          refine KL.out.mono ?_
          rintro _ w7 ⟨rfl, h7, hs7⟩
          have H7 := Lib.hid h7
          have KQ7 := Lib.hid (y_queue h7 (l := lk) (by have := HNL.out.1; have := HNN.out; omega) HLK.out)
          clear h7 hs7 KL
          go_wp2_with fail
          refine KQ7.out.mono ?_
          rintro _ w8 hE
          obtain ⟨A8, c8, rfl, ho8, hb8⟩ := hE.lift (Below.refl _ _)
          have H8 := Lib.hid (H7.out.below hb8)
          rw [HQL.out] at ho8 ⊢
          have HI8 := Lib.hid (ir_nat ho8)
          obtain ⟨g8, rfl, hg8, x8⟩ := HI8.out.2 qn (by omega)
          have hv : (nat (s2.queue lk)).getD qn 0 = (kk : Int) := by
            rw [HQE.out]
            simp [nat, List.getD, ← HQN.out]
          rw [hv] at x8
          have hc8 : qn + 1 ≤ c8 := (own_ab ho8).1
          have KR8 := Lib.hid (y_ready H8.out)
          clear hE ho8 hb8 hv KQ7 hg8
          go_wp2_with fail
          refine KR8.out.mono ?_
          rintro _ w9 hE
          obtain ⟨A9, c9, rfl, ho9, hb9⟩ := hE.lift (Below.refl _ _)
          have HF := Lib.hid (show AwakeE w (.returned (.bool true)) w9 from ⟨rfl, below_step H8.out.bel hb9⟩)
          rw [HM0.out]
          clear hE ho9 hb9 KR8
          go_wp2_with fail
          go_ret
          exact HF.out
        · subst e1
          subst e2
          have KU := Lib.hid (fun W (h : SY w W P (fun b => No b ∨ (wr.heap.size ≤ b ∧ b < w6.heap.size)) s2) => y_unlock h (t := tk) (l := lk) (by have := HNL.out.1; have := HNN.out; omega) HLK.out)
          have HNU := Lib.hid (unlock_N s2 tk lk)
          unfold YU at KU
          obtain ⟨s3, hs3⟩ : ∃ s3, (s2.unlock tk lk).2 = s3 := ⟨_, rfl⟩
          rw [e3, hs3] at KU
          rw [hs3] at HNU e4 e5 e6
          have HE4 := Lib.hid e4
          have HE5 := Lib.hid e5
          have HE6 := Lib.hid e6
          obtain ⟨m0, hm0⟩ : ∃ x, (s.at_ 0).length = x := ⟨_, rfl⟩
          obtain ⟨m1, hm1⟩ : ∃ x, (s.at_ 1).length = x := ⟨_, rfl⟩
          obtain ⟨T, hT⟩ : ∃ x, srt (tasksN (s.heldL lk)) = x := ⟨_, rfl⟩
          obtain ⟨mt, hmt⟩ : ∃ x, T.length = x := ⟨_, rfl⟩
          obtain ⟨bh, hbh⟩ : ∃ x, headW (s.heldL lk) = x := ⟨_, rfl⟩
          obtain ⟨qn, hqn⟩ : ∃ x, (s.queue lk).length = x := ⟨_, rfl⟩
          have HM0 := Lib.hid hm0
          have HM1 := Lib.hid hm1
          have HTT := Lib.hid hT
          have HMT := Lib.hid hmt
          have HBH := Lib.hid hbh
          have HQN := Lib.hid hqn
          have HMB := Lib.hid (show m0 ≤ 64 ∧ m1 ≤ 64 ∧ mt ≤ 150 ∧ qn ≤ 150 by
            have h1 := at_le s 0
            have h2 := at_le s 1
            have h3 := HL64.out
            have h4 := HTF.out
            have h5 := HQF.out
            rw [hT, hmt] at h4
            omega)
          rw [hT, hm0, hm1, hmt, hqn, hbh]
          rw [hT, hm0, hm1, hmt, hqn] at HK6
          rw [hm0] at HAB3
          rw [hm1] at HAB4
          rw [hT, hmt] at HAB5
          rw [hqn] at HAB6
          clear e3 e4 e5 e6 HBK hm0 hm1 hT hmt hbh hqn hs3
          go_wp2_with fail
          refine KL.out.mono ?_
          rintro _ w7 ⟨rfl, h7, hs7⟩
          have KU7 := Lib.hid (KU.out _ h7)
          have HS7 := Lib.hid hs7
          clear h7 hs7 KL KU
          go_wp2_with fail
          refine KU7.out.mono ?_
          rintro _ w8 ⟨rfl, h8, hs8⟩
          have H8 := Lib.hid h8
          have HIK := Lib.hid (show ∀ A n L, (A = A3 ∨ A = A4 ∨ A = A5 ∨ A = A6) → IR w6 A n L → IR w8 A n L from fun A n L hA hi => hi.keep2 fun gg e => ⟨h8.lt (HXX.out A hA gg e), (hs8 gg (HXX.out A hA gg e)).trans (HS7.out gg (HXX.out A hA gg e))⟩)
          have HN3 := Lib.hid (show s3.N ≤ 200 by have := HNU.out.1; have := HNL.out.1; have := HNN.out; omega)
          have KH8 := Lib.hid (y_holders h8 (l := lk) (by have := HN3.out; omega) HLK.out)
          rw [HE5.out, HTT.out, HBH.out] at KH8
          clear h8 hs8 KU7
          go_wp2_with fail
          refine KH8.out.mono ?_
          rintro _ w9 ⟨v9, rfl, ho9, hb9⟩
          obtain ⟨A9, c9, rfl⟩ := own_slice ho9
          rw [HMT.out] at ho9 ⊢
          have H9 := Lib.hid (H8.out.below hb9)
          have HB9 := Lib.hid hb9
          have HI9 := Lib.hid (ir_ints ho9)
          have HA9 := Lib.hid (own_ab ho9).1
          have KR9 := Lib.hid (y_ready H9.out)
          clear ho9 hb9 KH8
          go_wp2_with fail
          refine KR9.out.mono ?_
          rintro _ w10 hE
          obtain ⟨A10, c10, rfl, ho10, hb10⟩ := hE.lift (Below.refl _ _)
          rw [HE4.out, HM0.out] at ho10
          rw [HE4.out, HM0.out]
          have HB10 := Lib.hid (below_step HB9.out hb10)
          have H10 := Lib.hid (H9.out.below hb10)
          have HI10 := Lib.hid (HI9.out.below hb10)
          have KS10 := Lib.hid (same_yes (ir_nat ho10) ((HIK.out A3 m0 _ (.inl rfl) HK6.out.1).below HB10.out) (own_ab ho10).1 HAB3.out.1 (by have := HMB.out.1; omega))
          unfold YesE at KS10
          clear hE ho10 hb10 KR9
          go_wp2_with fail
          refine KS10.out.mono ?_
          rintro _ w11 ⟨rfl, hb11⟩
          have HB11 := Lib.hid (below_step HB10.out hb11)
          have H11 := Lib.hid (H10.out.below hb11)
          have HI11 := Lib.hid (HI10.out.below hb11)
          have KW11 := Lib.hid (y_waiting H11.out)
          clear hb11 KS10
          go_wp2_with fail
          refine KW11.out.mono ?_
          rintro _ w12 hE
          obtain ⟨A12, c12, rfl, ho12, hb12⟩ := hE.lift (Below.refl _ _)
          rw [HE4.out, HM1.out] at ho12
          rw [HE4.out, HM1.out]
          have HB12 := Lib.hid (below_step HB11.out hb12)
          have H12 := Lib.hid (H11.out.below hb12)
          have HI12 := Lib.hid (HI11.out.below hb12)
          have KS12 := Lib.hid (same_yes (ir_nat ho12) ((HIK.out A4 m1 _ (.inr (.inl rfl)) HK6.out.2.1).below HB12.out) (own_ab ho12).1 HAB4.out.1 (by have := HMB.out.2.1; omega))
          unfold YesE at KS12
          clear hE ho12 hb12 KW11
          go_wp2_with fail
          refine KS12.out.mono ?_
          rintro _ w13 ⟨rfl, hb13⟩
          have HB13 := Lib.hid (below_step HB12.out hb13)
          have H13 := Lib.hid (H12.out.below hb13)
          have HI13 := Lib.hid (HI12.out.below hb13)
          have KS13 := Lib.hid (same_yes HI13.out ((HIK.out A5 mt _ (.inr (.inr (.inl rfl))) HK6.out.2.2.1).below HB13.out) HA9.out HAB5.out.1 (by have := HMB.out.2.2.1; omega))
          unfold YesE at KS13
          clear hb13 KS12
          go_wp2_with fail
          refine KS13.out.mono ?_
          rintro _ w14 ⟨rfl, hb14⟩
          have HB14 := Lib.hid (below_step HB13.out hb14)
          have H14 := Lib.hid (H13.out.below hb14)
          have KQ14 := Lib.hid (y_queue H14.out (l := lk) (by have := HN3.out; omega) HLK.out)
          rw [HE6.out] at KQ14
          have hbb : (bh == bh) = true := by simp
          clear hb14 KS13
          go_wp2_with fail
          refine KQ14.out.mono ?_
          rintro _ w15 hE
          obtain ⟨A15, c15, rfl, ho15, hb15⟩ := hE.lift (Below.refl _ _)
          rw [HQN.out] at ho15 ⊢
          have HB15 := Lib.hid (below_step HB14.out hb15)
          have H15 := Lib.hid (H14.out.below hb15)
          have KS15 := Lib.hid (same_yes (ir_nat ho15) ((HIK.out A6 qn _ (.inr (.inr (.inr rfl))) HK6.out.2.2.2).below HB15.out) (own_ab ho15).1 HAB6.out.1 (by have := HMB.out.2.2.2; omega))
          unfold YesE at KS15
          clear hE ho15 hb15 KQ14
          go_wp2_with fail
          refine KS15.out.mono ?_
          rintro _ w16 ⟨rfl, hb16⟩
          have HF := Lib.hid (show AwakeE w (.returned (.bool true)) w16 from ⟨rfl, below_step H15.out.bel hb16⟩)
          clear hb16 KS15
          go_wp2_with fail
          go_ret
          exact HF.out
      · clear hlt
        go_upto_region 10 with fail
        clear hkn
        go_wp2_with fail
        refine KR.out.mono ?_
        rintro _ w3 hE
        obtain ⟨A3, c3, rfl, ho3, hb3⟩ := hE.lift (Below.refl _ _)
        have HR3 := Lib.hid (ir_nat ho3)
        have HAB3 := Lib.hid (own_ab ho3)
        have HB3 := Lib.hid hb3
        have KW := Lib.hid (y_waiting (HS.out.below hb3))
        clear hE ho3 hb3
        go_wp2_with fail
        refine KW.out.mono ?_
        rintro _ w4 hE
        obtain ⟨A4, c4, rfl, ho4, hb4⟩ := hE.lift (Below.refl _ _)
        have HR4 := Lib.hid (ir_nat ho4)
        have HAB4 := Lib.hid (own_ab ho4)
        have HB4 := Lib.hid (below_step HB3.out hb4)
        have HB34 := Lib.hid hb4
        have KH := Lib.hid (y_holders (HS.out.below HB4.out) (l := lk) (by have := HNN.out; omega) HLK.out)
        clear hE ho4 hb4 KW KR
        go_wp2_with fail
        refine KH.out.mono ?_
        rintro _ w5 ⟨v5, rfl, ho5, hb5⟩
        obtain ⟨A5, c5, rfl⟩ := own_slice ho5
        have HR5 := Lib.hid (ir_ints ho5)
        have HAB5 := Lib.hid (own_ab ho5)
        have HB5 := Lib.hid (below_step HB4.out hb5)
        have HB45 := Lib.hid hb5
        have KQ := Lib.hid (y_queue (HS.out.below HB5.out) (l := lk) (by have := HNN.out; omega) HLK.out)
        clear ho5 hb5 KH
        go_wp2_with fail
        refine KQ.out.mono ?_
        rintro _ w6 hE
        obtain ⟨A6, c6, rfl, ho6, hb6⟩ := hE.lift (Below.refl _ _)
        have HR6 := Lib.hid (ir_nat ho6)
        have HAB6 := Lib.hid (own_ab ho6)
        have HB6 := Lib.hid (below_step HB5.out hb6)
        have HB56 := Lib.hid hb6
        have H6 := Lib.hid (HS.out.over HB6.out)
        have HL0 := Lib.hid (at_le s 0)
        have HL64 := Lib.hid HS.out.n64
        have HQF := Lib.hid (show (s.queue lk).length ≤ 150 by
          have h1 := HS.out.few lk
          have h2 := HNN.out
          have h3 : (s.queue lk).length ≤ (s.cl lk).length := by unfold Sd.queue; rw [List.length_map]; exact List.length_filter_le _ _
          omega)
        have HTF := Lib.hid (show (srt (tasksN (s.heldL lk))).length ≤ 150 by
          have h1 := HS.out.few lk
          have h2 := HNN.out
          have h3 : (s.heldL lk).length ≤ (s.cl lk).length := by unfold Sd.heldL; exact List.length_filter_le _ _
          rw [srt_len]
          simp only [tasksN, List.length_map]
          omega)
        have HR3b := Lib.hid (HR3.out.below (HB34.out.mono (Nat.le_refl _)))
        have HK6 := Lib.hid (show IR w6 A3 (s.at_ 0).length (nat (s.at_ 0)) ∧ IR w6 A4 (s.at_ 1).length (nat (s.at_ 1)) ∧ IR w6 A5 (srt (tasksN (s.heldL lk))).length (srt (tasksN (s.heldL lk))) ∧ IR w6 A6 (s.queue lk).length (nat (s.queue lk)) from
          ⟨((HR3b.out.below HB45.out).below HB56.out), ((HR4.out.below HB45.out).below HB56.out), HR5.out.below HB56.out, HR6.out⟩)
        have HXX := Lib.hid (show ∀ A : Option Addr, A = A3 ∨ A = A4 ∨ A = A5 ∨ A = A6 → ∀ gg, A = some ⟨gg, 0, none⟩ → (No gg ∨ (wr.heap.size ≤ gg ∧ gg < w6.heap.size)) from by
          intro A hA gg e
          right
          have s3 := HB3.out.size
          have s4 := HB34.out.size
          have s5 := HB45.out.size
          have s6 := HB56.out.size
          rcases hA with h | h | h | h
          · have := HAB3.out.2 gg (h ▸ e); omega
          · have := HAB4.out.2 gg (h ▸ e); omega
          · have := HAB5.out.2 gg (h ▸ e); omega
          · have := HAB6.out.2 gg (h ▸ e); omega)
        have KL := Lib.hid (y_lock H6.out (t := tk) (by have := HNN.out; omega) HLK.out bw)
        have HNL := Lib.hid (lock_N s tk lk bw)
        clear hE ho6 hb6 KQ
        unfold YL at KL
        obtain ⟨r, hr⟩ : ∃ r, s.lock tk lk bw = r := ⟨_, rfl⟩
        unfold BackE at HBK
        rw [hr] at KL HBK HNL
        clear hr
        obtain ⟨r1, r2, s2⟩ := r
        dsimp only at KL HBK HNL
        rcases HBK.out with ⟨e1, e2, e3⟩ | ⟨e1, e2, kk, e3, e4, e5⟩ | ⟨e1, e2, e3, e4, e5, e6⟩
        · subst e2
          subst e3
          have hne : (r2 != 0) = true := by simpa using e1
          have hne2 : (r2 == 0) = false := by simpa using e1
          obtain ⟨m0, hm0⟩ : ∃ x, (s2.at_ 0).length = x := ⟨_, rfl⟩
          obtain ⟨m1, hm1⟩ : ∃ x, (s2.at_ 1).length = x := ⟨_, rfl⟩
          have HM0 := Lib.hid hm0
          have HM1 := Lib.hid hm1
          have HMB := Lib.hid (show m0 ≤ 64 ∧ m1 ≤ 64 by have := at_le s2 0; have := at_le s2 1; have := HL64.out; omega)
          rw [hm0, hm1]
          rw [hm0, hm1] at HK6
          rw [hm0] at HAB3
          rw [hm1] at HAB4
          clear e1 HBK hm0 hm1
          go_wp2_with fail
          refine KL.out.mono ?_
          rintro _ w7 ⟨rfl, h7, hs7⟩
          have H7 := Lib.hid h7
          have HIK := Lib.hid (show ∀ A n L, (A = A3 ∨ A = A4 ∨ A = A5 ∨ A = A6) → IR w6 A n L → IR w7 A n L from fun A n L hA hi => hi.keep2 fun gg e => ⟨h7.lt (HXX.out A hA gg e), hs7 gg (HXX.out A hA gg e)⟩)
          have KR7 := Lib.hid (y_ready h7)
          clear h7 hs7 KL
          go_wp2_with fail
          refine KR7.out.mono ?_
          rintro _ w8 hE
          obtain ⟨A8, c8, rfl, ho8, hb8⟩ := hE.lift (Below.refl _ _)
          rw [HM0.out] at ho8 ⊢
          have KS8 := Lib.hid (same_yes (ir_nat ho8) ((HIK.out A3 m0 _ (.inl rfl) HK6.out.1).below hb8) (own_ab ho8).1 HAB3.out.1 (by have := HMB.out.1; omega))
          have H8 := Lib.hid (H7.out.below hb8)
          have HB8 := Lib.hid hb8
          unfold YesE at KS8
          clear hE ho8 hb8 KR7
          go_wp2_with fail
          refine KS8.out.mono ?_
          rintro _ w9 ⟨rfl, hb9⟩
          have H9 := Lib.hid (H8.out.below hb9)
          have HB9 := Lib.hid (below_step HB8.out hb9)
          have KR9 := Lib.hid (y_waiting H9.out)
          clear hb9 KS8
          go_wp2_with fail
          refine KR9.out.mono ?_
          rintro _ w10 hE
          obtain ⟨A10, c10, rfl, ho10, hb10⟩ := hE.lift (Below.refl _ _)
          rw [HM1.out] at ho10 ⊢
          have KS10 := Lib.hid (same_yes (ir_nat ho10) ((HIK.out A4 m1 _ (.inr (.inl rfl)) HK6.out.2.1).below (below_step HB9.out hb10)) (own_ab ho10).1 HAB4.out.1 (by have := HMB.out.2; omega))
          have H10 := Lib.hid (H9.out.below hb10)
          unfold YesE at KS10
          clear hE ho10 hb10 KR9
          go_wp2_with fail
          refine KS10.out.mono ?_
          rintro _ w11 ⟨rfl, hb11⟩
          have HF := Lib.hid (show AwakeE w (.returned (.bool true)) w11 from ⟨rfl, below_step H10.out.bel hb11⟩)
          clear hb11 KS10
          go_wp2_with fail
          go_ret
          exact HF.out
        · subst e1
          subst e2
          subst e3
          obtain ⟨qn, hqn⟩ : ∃ x, (s.queue lk).length = x := ⟨_, rfl⟩
          obtain ⟨m0, hm0⟩ : ∃ x, (s2.at_ 0).length = x := ⟨_, rfl⟩
          have HM0 := Lib.hid hm0
          have HQL := Lib.hid (show (s2.queue lk).length = qn + 1 by rw [e4, List.length_append, hqn]; rfl)
          have HQE := Lib.hid e4
          have HQN := Lib.hid hqn
          have hmm : (s.at_ 0).length = m0 + 1 := by omega
          have hm64 : m0 ≤ 64 := by have := HL0.out; have := HL64.out; omega
          have hq150 : qn ≤ 150 := by have := HQF.out; omega
          rw [hqn, hmm]
          clear HBK e4 e5 hqn hm0 hmm
          go_wp2_with fail
          refine KL.out.mono ?_
          rintro _ w7 ⟨rfl, h7, hs7⟩
          have H7 := Lib.hid h7
          have KQ7 := Lib.hid (y_queue h7 (l := lk) (by have := HNL.out.1; have := HNN.out; omega) HLK.out)
          clear h7 hs7 KL
          go_wp2_with fail
          refine KQ7.out.mono ?_
          rintro _ w8 hE
          obtain ⟨A8, c8, rfl, ho8, hb8⟩ := hE.lift (Below.refl _ _)
          have H8 := Lib.hid (H7.out.below hb8)
          rw [HQL.out] at ho8 ⊢
          have HI8 := Lib.hid (ir_nat ho8)
          obtain ⟨g8, rfl, hg8, x8⟩ := HI8.out.2 qn (by omega)
          have hv : (nat (s2.queue lk)).getD qn 0 = (kk : Int) := by
            rw [HQE.out]
            simp [nat, List.getD, ← HQN.out]
          rw [hv] at x8
          have hc8 : qn + 1 ≤ c8 := (own_ab ho8).1
          have KR8 := Lib.hid (y_ready H8.out)
          clear hE ho8 hb8 hv KQ7 hg8
          go_wp2_with fail
          refine KR8.out.mono ?_
          rintro _ w9 hE
          obtain ⟨A9, c9, rfl, ho9, hb9⟩ := hE.lift (Below.refl _ _)
          have HF := Lib.hid (show AwakeE w (.returned (.bool true)) w9 from ⟨rfl, below_step H8.out.bel hb9⟩)
          rw [HM0.out]
          clear hE ho9 hb9 KR8
          go_wp2_with fail
          go_ret
          exact HF.out
        · subst e1
          subst e2
          have KU := Lib.hid (fun W (h : SY w W P (fun b => No b ∨ (wr.heap.size ≤ b ∧ b < w6.heap.size)) s2) => y_unlock h (t := tk) (l := lk) (by have := HNL.out.1; have := HNN.out; omega) HLK.out)
          have HNU := Lib.hid (unlock_N s2 tk lk)
          unfold YU at KU
          obtain ⟨s3, hs3⟩ : ∃ s3, (s2.unlock tk lk).2 = s3 := ⟨_, rfl⟩
          rw [e3, hs3] at KU
          rw [hs3] at HNU e4 e5 e6
          have HE4 := Lib.hid e4
          have HE5 := Lib.hid e5
          have HE6 := Lib.hid e6
          obtain ⟨m0, hm0⟩ : ∃ x, (s.at_ 0).length = x := ⟨_, rfl⟩
          obtain ⟨m1, hm1⟩ : ∃ x, (s.at_ 1).length = x := ⟨_, rfl⟩
          obtain ⟨T, hT⟩ : ∃ x, srt (tasksN (s.heldL lk)) = x := ⟨_, rfl⟩
          obtain ⟨mt, hmt⟩ : ∃ x, T.length = x := ⟨_, rfl⟩
          obtain ⟨bh, hbh⟩ : ∃ x, headW (s.heldL lk) = x := ⟨_, rfl⟩
          obtain ⟨qn, hqn⟩ : ∃ x, (s.queue lk).length = x := ⟨_, rfl⟩
          have HM0 := Lib.hid hm0
          have HM1 := Lib.hid hm1
          have HTT := Lib.hid hT
          have HMT := Lib.hid hmt
          have HBH := Lib.hid hbh
          have HQN := Lib.hid hqn
          have HMB := Lib.hid (show m0 ≤ 64 ∧ m1 ≤ 64 ∧ mt ≤ 150 ∧ qn ≤ 150 by
            have h1 := at_le s 0
            have h2 := at_le s 1
            have h3 := HL64.out
            have h4 := HTF.out
            have h5 := HQF.out
            rw [hT, hmt] at h4
            omega)
          rw [hT, hm0, hm1, hmt, hqn, hbh]
          rw [hT, hm0, hm1, hmt, hqn] at HK6
          rw [hm0] at HAB3
          rw [hm1] at HAB4
          rw [hT, hmt] at HAB5
          rw [hqn] at HAB6
          clear e3 e4 e5 e6 HBK hm0 hm1 hT hmt hbh hqn hs3
          go_wp2_with fail
          refine KL.out.mono ?_
          rintro _ w7 ⟨rfl, h7, hs7⟩
          have KU7 := Lib.hid (KU.out _ h7)
          have HS7 := Lib.hid hs7
          clear h7 hs7 KL KU
          go_wp2_with fail
          refine KU7.out.mono ?_
          rintro _ w8 ⟨rfl, h8, hs8⟩
          have H8 := Lib.hid h8
          have HIK := Lib.hid (show ∀ A n L, (A = A3 ∨ A = A4 ∨ A = A5 ∨ A = A6) → IR w6 A n L → IR w8 A n L from fun A n L hA hi => hi.keep2 fun gg e => ⟨h8.lt (HXX.out A hA gg e), (hs8 gg (HXX.out A hA gg e)).trans (HS7.out gg (HXX.out A hA gg e))⟩)
          have HN3 := Lib.hid (show s3.N ≤ 200 by have := HNU.out.1; have := HNL.out.1; have := HNN.out; omega)
          have KH8 := Lib.hid (y_holders h8 (l := lk) (by have := HN3.out; omega) HLK.out)
          rw [HE5.out, HTT.out, HBH.out] at KH8
          clear h8 hs8 KU7
          go_wp2_with fail
          refine KH8.out.mono ?_
          rintro _ w9 ⟨v9, rfl, ho9, hb9⟩
          obtain ⟨A9, c9, rfl⟩ := own_slice ho9
          rw [HMT.out] at ho9 ⊢
          have H9 := Lib.hid (H8.out.below hb9)
          have HB9 := Lib.hid hb9
          have HI9 := Lib.hid (ir_ints ho9)
          have HA9 := Lib.hid (own_ab ho9).1
          have KR9 := Lib.hid (y_ready H9.out)
          clear ho9 hb9 KH8
          go_wp2_with fail
          refine KR9.out.mono ?_
          rintro _ w10 hE
          obtain ⟨A10, c10, rfl, ho10, hb10⟩ := hE.lift (Below.refl _ _)
          rw [HE4.out, HM0.out] at ho10
          rw [HE4.out, HM0.out]
          have HB10 := Lib.hid (below_step HB9.out hb10)
          have H10 := Lib.hid (H9.out.below hb10)
          have HI10 := Lib.hid (HI9.out.below hb10)
          have KS10 := Lib.hid (same_yes (ir_nat ho10) ((HIK.out A3 m0 _ (.inl rfl) HK6.out.1).below HB10.out) (own_ab ho10).1 HAB3.out.1 (by have := HMB.out.1; omega))
          unfold YesE at KS10
          clear hE ho10 hb10 KR9
          go_wp2_with fail
          refine KS10.out.mono ?_
          rintro _ w11 ⟨rfl, hb11⟩
          have HB11 := Lib.hid (below_step HB10.out hb11)
          have H11 := Lib.hid (H10.out.below hb11)
          have HI11 := Lib.hid (HI10.out.below hb11)
          have KW11 := Lib.hid (y_waiting H11.out)
          clear hb11 KS10
          go_wp2_with fail
          refine KW11.out.mono ?_
          rintro _ w12 hE
          obtain ⟨A12, c12, rfl, ho12, hb12⟩ := hE.lift (Below.refl _ _)
          rw [HE4.out, HM1.out] at ho12
          rw [HE4.out, HM1.out]
          have HB12 := Lib.hid (below_step HB11.out hb12)
          have H12 := Lib.hid (H11.out.below hb12)
          have HI12 := Lib.hid (HI11.out.below hb12)
          have KS12 := Lib.hid (same_yes (ir_nat ho12) ((HIK.out A4 m1 _ (.inr (.inl rfl)) HK6.out.2.1).below HB12.out) (own_ab ho12).1 HAB4.out.1 (by have := HMB.out.2.1; omega))
          unfold YesE at KS12
          clear hE ho12 hb12 KW11
          go_wp2_with fail
          refine KS12.out.mono ?_
          rintro _ w13 ⟨rfl, hb13⟩
          have HB13 := Lib.hid (below_step HB12.out hb13)
          have H13 := Lib.hid (H12.out.below hb13)
          have HI13 := Lib.hid (HI12.out.below hb13)
          have KS13 := Lib.hid (same_yes HI13.out ((HIK.out A5 mt _ (.inr (.inr (.inl rfl))) HK6.out.2.2.1).below HB13.out) HA9.out HAB5.out.1 (by have := HMB.out.2.2.1; omega))
          unfold YesE at KS13
          clear hb13 KS12
          go_wp2_with fail
          refine KS13.out.mono ?_
          rintro _ w14 ⟨rfl, hb14⟩
          have HB14 := Lib.hid (below_step HB13.out hb14)
          have H14 := Lib.hid (H13.out.below hb14)
          have KQ14 := Lib.hid (y_queue H14.out (l := lk) (by have := HN3.out; omega) HLK.out)
          rw [HE6.out] at KQ14
          have hbb : (bh == bh) = true := by simp
          clear hb14 KS13
          go_wp2_with fail
          refine KQ14.out.mono ?_
          rintro _ w15 hE
          obtain ⟨A15, c15, rfl, ho15, hb15⟩ := hE.lift (Below.refl _ _)
          rw [HQN.out] at ho15 ⊢
          have HB15 := Lib.hid (below_step HB14.out hb15)
          have H15 := Lib.hid (H14.out.below hb15)
          have KS15 := Lib.hid (same_yes (ir_nat ho15) ((HIK.out A6 qn _ (.inr (.inr (.inr rfl))) HK6.out.2.2.2).below HB15.out) (own_ab ho15).1 HAB6.out.1 (by have := HMB.out.2.2.2; omega))
          unfold YesE at KS15
          clear hE ho15 hb15 KQ14
          go_wp2_with fail
          refine KS15.out.mono ?_
          rintro _ w16 ⟨rfl, hb16⟩
          have HF := Lib.hid (show AwakeE w (.returned (.bool true)) w16 from ⟨rfl, below_step H15.out.bel hb16⟩)
          clear hb16 KS15
          go_wp2_with fail
          go_ret
          exact HF.out

set_option maxRecDepth 100000 in
theorem lifted (os : Os) (started : os.Started) (H : Type) (enc : TypeId × Value → H) :
    ReturnsInHanded {} Try.checked os 6 .any (Rows.schedBackSpec.pre6 enc Try.prog Try.f6 Rows.schedBackRow.domain false) (Rows.schedBackSpec.post enc Try.prog Try.f6 false true false false) := by
  refine returnsInHanded_of_change (C := Try.checked) own started (by kernel_rfl) Try.func6
    (ChangeSpec.witness6 (enc := enc) (C := Try.checked) false ⟨#[], #[.int .i64 0, .slice none 0 0, .int .i64 0, .int .i64 0, .bool false], []⟩ 8 (by kernel_rfl) (by kernel_rfl) (by kernel_rfl) (by kernel_rfl)) ?_
  intro W base args ds gs before hval0 hW hcnd _
  have hval : ∀ (j : Nat) t v, Try.f6.params[j]? = some t → args[j]? = some v → Value.okWide Try.prog W .any base t v := hval0
  have hW' := hW
  obtain ⟨p, q, hA0, hV, rfl, hfz, hnd⟩ := hW
  have hA : DataW.TrodAll enc Try.prog W 0 (fun _ => true) true Try.f6.params.toList args.toList ds p := hA0
  rw [Try.params6] at hA hval
  obtain ⟨v0, vs0, d0, ds0, p0, q0, hargs, rfl, rfl, h0, r0⟩ := trodAll_cons hA
  obtain ⟨v1, vs1, d1, ds1, p1, q1, rfl, rfl, rfl, h1, r1⟩ := trodAll_cons r0
  obtain ⟨v2, vs2, d2, ds2, p2, q2, rfl, rfl, rfl, h2, r2⟩ := trodAll_cons r1
  obtain ⟨v3, vs3, d3, ds3, p3, q3, rfl, rfl, rfl, h3, r3⟩ := trodAll_cons r2
  obtain ⟨v4, vs4, d4, ds4, p4, q4, rfl, rfl, rfl, h4, r4⟩ := trodAll_cons r3
  obtain ⟨rfl, rfl, rfl⟩ := trodAll_nil r4
  obtain rfl : args = #[v0, v1, v2, v3, v4] := by cases args; simp_all
  obtain ⟨rfl, rfl⟩ := trodVars_none hV
  have hlt := fun x hx => hW'.lt x hx
  obtain ⟨a0, rfl, rfl, rfl, w0⟩ := open_int Try.underlying3 (hval 0 3 v0 rfl rfl) h0
  have t1 := h1
  obtain ⟨A1, n1, c1, x1, rfl, e1, s1⟩ := open_acts (hval 1 22 v1 rfl rfl) h1
  obtain ⟨a2, rfl, rfl, rfl, w2⟩ := open_int Try.underlying3 (hval 2 3 v2 rfl rfl) h2
  obtain ⟨a3, rfl, rfl, rfl, w3⟩ := open_int Try.underlying3 (hval 3 3 v3 rfl rfl) h3
  obtain ⟨a4, rfl, rfl, rfl⟩ := open_bool Try.underlying4 (hval 4 4 v4 rfl rfl) h4
  clear hA0 hval0
  refine (walk a0 A1 n1 c1 x1 a2 a3 a4 W w0 e1 s1 w2 w3).mono fun e W' ⟨he, hg⟩ => ?_
  subst he
  exact ⟨_, rfl, law_post (pv := []) hW' (fun _ _ _ => (trodAll_cons_mk (shut_bool Try.underlying4 _) trodAll_mk0)) (fun sp hsp => (trodAll_cons_mk (shut_int Try.underlying3 w0) (trodAll_cons_mk (arg_stays (by decide) t1 hg (by simp +contextual) hlt hsp laid) (trodAll_cons_mk (shut_int Try.underlying3 w2) (trodAll_cons_mk (shut_int Try.underlying3 w3) (trodAll_cons_mk (shut_bool Try.underlying4 _) trodAll_mk0)))))) (fun _ _ => rfl) (by simp)
    hg (ok_one (by kernel_rfl) rfl (okWide_bool_mk Try.underlying4 _))⟩

theorem over : Rows.schedBackRow.holds Try.pinned (OpenSpec.ofChange Rows.schedBackSpec) :=
  OpenClaim.holds_of_wide 6 Try.f6 rfl rfl rfl rfl rfl rfl rfl ⟨rfl, rfl, rfl, rfl, rfl⟩ rfl rfl rfl rfl rfl (by kernel_rfl) Try.func6 (by kernel_rfl)
    (of_decide_eq_true (by kernel_rfl)) (by unfold Func.isWrapper; first | (rw [if_pos (by decide +kernel)]; kernel_rfl) | (rw [if_neg (by decide +kernel)]; exact ⟨rfl, rfl⟩))
    (fun os started H enc _ => lifted os started H enc)

/-- The statement. -/
theorem proved : Rows.SchedBackSaid :=
  over
end Go.Proofs.Ytagkimnmgalejaa.schedBack
