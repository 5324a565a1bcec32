/- For every room, every list of acts, every directory and every name the law BranchLowest returns true, and what is handed in reads as it did; there are no conditions. -/
import Derived.Test.YtlelnpckbcpkkaaGreatZm
import Derived.Test.YtlelnpckbcpkkaaGreatZn
import Derived.Deep.RegionWith
import Derived.Deep.QuietTactic
import Derived.BigQuiet
import Derived.ProofKit
import Derived.OpenShut
import Derived.ShutString
namespace Go.Proofs.YtlelnpckbcpkkaaGreat.branchLowest
open Go.ChangeShapes Go.WideShapes Go.ChangeAt Go.RowKit
open Go.ChangeMaps (open_string shut_string)
open Go.Proofs.YtlelnpckbcpkkaaGreat.cb
set_option linter.unusedVariables false

theorem own : ownKnob Tryz.prog.godebug = none := by kernel_rfl
theorem laid : laidOutB Tryz.prog = true := by kernel_rfl

open Go.Proofs.YtlelnpckbcpkkaaGreat.br
open Go.Proofs.YtlelnpckbcpkkaaGreat.bl (Pq)
open Go.Proofs.YtlelnpckbcpkkaaGreat.dn (lget lset nerr dotB)

theorem nameE_small (s : ByteArray) : nameE s = 0 ∨ nameE s = 2 ∨ nameE s = 22 ∨ nameE s = 36 := by
  unfold nameE nerr
  split
  · omega
  · split
    · omega
    · split
      · omega
      · split <;> omega
theorem vacant_small (S : BS) (d : Int) (s : ByteArray) : S.vacant d s ≠ 28 := by
  unfold BS.vacant
  have hn := nameE_small s
  have hd : S.dirE d true = 0 ∨ S.dirE d true = 2 ∨ S.dirE d true = 20 := by
    unfold BS.dirE
    split
    · omega
    · split
      · omega
      · split <;> omega
  split
  · omega
  · split
    · omega
    · split <;> decide
/-- A file is made, or not. -/
theorem low_cases {S : BS} {room : Nat} (hG : br.Good S room) (d : Int) (s : ByteArray) :
    (∃ e, (S.make d s 1 tE).1 = (0, e) ∧ e ≠ 0 ∧ (S.make d s 1 tE).2 = S ∧ (e ≠ 28 ∨ 200 < S.free 1 200)) ∨
    ((S.make d s 1 tE).1 = (((S.free 1 200 : Nat) : Int), 0) ∧ (S.make d s 1 tE).2.stat ((S.free 1 200 : Nat) : Int) = ((1, 0, 1), 0) ∧ (S.make d s 1 tE).2.count 200 = S.count 200 + 1 ∧ S.free 1 200 ≤ 200) := by
  by_cases h1 : S.vacant d s = 0
  · have hb : ¬ (badKind 1 tE = true) := by decide
    obtain ⟨D, rfl, d1, d2, hD, hl, hg, _⟩ := vacant_ok h1
    have hfs := free_spec S 200 1
    by_cases h2 : 200 < S.free 1 200
    · exact .inl ⟨28, by unfold BS.make; rw [if_neg (by omega), if_neg hb]; dsimp only; rw [if_pos h2], by decide, by unfold BS.make; rw [if_neg (by omega), if_neg hb]; dsimp only; rw [if_pos h2], .inr h2⟩
    · right
      have hz := hfs.2.2.1 (by omega)
      generalize hn : S.free 1 200 = n at *
      have hnD : n ≠ D := fun e => by rw [e, hD] at hz; cases hz
      have e : S.make (D : Int) s 1 tE = (((n : Int), 0), (⟨br.upd (br.upd S.ino n (newI 1 (D : Int) tE)) D { S.ino D with dir := lset s (n : Int) (S.ino D).dir }, S.used⟩ : BS)) := by
        unfold BS.make
        rw [if_neg (by omega), if_neg hb]
        dsimp only
        rw [hn, if_neg h2]
        unfold BS.putDir BS.put
        dsimp only
        rw [Int.toNat_natCast, Int.toNat_natCast]
        show ((_, _), BS.mk (br.upd (br.upd S.ino n (newI 1 (D : Int) tE)) D { br.upd S.ino n (newI 1 (D : Int) tE) D with dir := lset s (n : Int) (br.upd S.ino n (newI 1 (D : Int) tE) D).dir }) S.used) = _
        rw [upd_other _ _ (fun e => hnD e.symm)]
      rw [e]
      have eN : br.upd (br.upd S.ino n (newI 1 (D : Int) tE)) D { S.ino D with dir := lset s (n : Int) (S.ino D).dir } n = newI 1 (D : Int) tE := by rw [upd_other _ _ hnD, upd_same]
      refine ⟨rfl, ?_, ?_, by omega⟩
      · have hI : BS.isI ⟨br.upd (br.upd S.ino n (newI 1 (D : Int) tE)) D { S.ino D with dir := lset s (n : Int) (S.ino D).dir }, S.used⟩ (n : Int) = true := by
          unfold BS.isI
          rw [at_nat]
          simp only [eN, decide_eq_true_eq]
          exact ⟨by omega, by omega, by show (1 : Int) ≠ 0; decide⟩
        unfold BS.stat
        rw [if_pos hI, at_nat]
        simp only [eN]
        rfl
      · have c1 := count_put ⟨br.upd S.ino n (newI 1 (D : Int) tE), S.used⟩ D { S.ino D with dir := lset s (n : Int) (S.ino D).dir } S.used d1 d2
        have c2 := count_put S n (newI 1 (D : Int) tE) S.used (by omega) (by omega)
        have eD : (BS.ino ⟨br.upd S.ino n (newI 1 (D : Int) tE), S.used⟩ D) = S.ino D := upd_other _ _ (fun e => hnD e.symm)
        dsimp only at c1 c2
        have q1 : (br.upd S.ino n (newI 1 (D : Int) tE) D).kind ≠ 0 := by rw [upd_other _ _ (fun e => hnD e.symm), hD]; decide
        rw [if_pos q1, if_pos (by rw [hD]; decide)] at c1
        rw [hz, if_neg (by decide), if_pos (by show (1 : Int) ≠ 0; decide)] at c2
        dsimp only
        omega
  · exact .inl ⟨S.vacant d s, by unfold BS.make; rw [if_pos h1], h1, by unfold BS.make; rw [if_pos h1], .inl (vacant_small S d s)⟩

set_option maxHeartbeats 8000000 in
set_option maxRecDepth 100000 in
theorem walk (r : Int) (A : Option Addr) (n c : Nat) (F : Nat → Act7) (d : Int) (s : ByteArray) (w : World) (k1 : n ≤ c ∧ c ≤ maxLen) (hF : Acts w w.heap.size A n F) (ws : s.size ≤ maxLen) :
    Calls Tryz.prog 8 #[.int .i64 r, .slice A n c, .int .i64 d, .string s] w (AwakeE w) := by
  have hnm : n ≤ maxLen := Nat.le_trans k1.1 k1.2
  have hs : s.size ≤ 9223372036854775807 := ws
  have HAW := Lib.hid (awake_any w)
  have HPL := Lib.hid (fun w1 P room (S : BS) (hb : BrX w w1 P No S room 0) => play_any A n c F w w1 P room hnm hF hb)
  clear k1 hF ws hnm
  by_cases hr : r < 0 ∨ 65536 < r
  · have HN := Lib.hid (fun w1 => new_no r w1 hr)
    clear HPL hr
    go_enter Tryz.func8, Tryz.ntmps8
    go_wp2_with fail
    refine HAW.out.mono ?_
    rintro e w1 ⟨rfl, hb1⟩
    go_wp2_with fail
    refine (HN.out _).mono ?_
    rintro e w2 ⟨rfl, rfl⟩
    go_wp2_with fail
    go_ret
    exact ⟨rfl, hb1⟩
  · obtain ⟨room, rfl⟩ : ∃ room : Nat, r = (room : Int) := ⟨r.toNat, by omega⟩
    have HN := Lib.hid (fun w1 (hb : Below w.heap.size w w1) => x_new (w0 := w) (w := w1) room (by omega) hb)
    clear hr
    go_enter Tryz.func8, Tryz.ntmps8
    go_wp2_with fail
    refine HAW.out.mono ?_
    rintro e w1 ⟨rfl, hb1⟩
    have HN2 := Lib.hid (HN.out w1 hb1)
    clear HN hb1 HAW
    go_wp2_with fail
    refine HN2.out.mono ?_
    rintro e w2 ⟨P, rfl, h2, -, -⟩
    have HP2 := Lib.hid (HPL.out w2 P room fresh h2.forget)
    clear h2 HN2 HPL
    go_wp2_with fail
    refine HP2.out.mono ?_
    rintro e w3 ⟨b, S, rfl, h3⟩
    have H3 := Lib.hid h3
    clear h3 HP2
    cases b
    · go_wp2_with fail
      go_ret
      exact ⟨rfl, H3.out.bel⟩
    · go_wp2_with fail
      go_loopg [10] 200 (fun g s10 wr => ∃ k : Nat, g + k = 201 ∧ 1 ≤ k ∧ s10 = .int .i64 k ∧ Hid (∀ j, 1 ≤ j → j < k → (S.ino j).kind ≠ 0) ∧ Hid (BrX w wr P No S room 80))
      case atStart => exact ⟨1, by omega, by omega, rfl, Lib.hid (fun j h1 h2 => by omega), H3⟩
      case round =>
        clear H3
        obtain ⟨k, hg, hk1, rfl, HJ, HR⟩ := hrel
        by_cases hk : k ≤ 200
        · have HK := Lib.hid (x_kind HR.out (k : Int))
          unfold RetI at HK
          have hko : S.kindOf (k : Int) = (S.ino k).kind := by
            unfold BS.kindOf
            by_cases e : (S.ino k).kind = 0
            · rw [e, if_neg (by unfold BS.isI; rw [at_nat]; simp [e])]
            · rw [if_pos (by unfold BS.isI; rw [at_nat]; simp; exact ⟨by omega, by omega, e⟩), at_nat]
          rw [hko] at HK
          by_cases hz : (S.ino k).kind = 0
          · have HW := Lib.hid (show S.free 1 200 = k from by
              have hf := free_spec S 200 1
              rcases Nat.lt_trichotomy (S.free 1 200) k with h | h | h
              · exact absurd (hf.2.2.1 (by omega)) (HJ.out _ hf.1 h)
              · exact h
              · exact absurd hz (hf.2.2.2 k hk1 h))
            rw [hz] at HK
            clear hko HJ hz
            go_wp2_with fail
            refine HK.out.mono ?_
            rintro e w4 ⟨rfl, hb4⟩
            have H4 := Lib.hid (HR.out.below hb4)
            clear hb4 HK
            have HI := Lib.hid (x_inodes H4.out)
            have HM := Lib.hid (x_make H4.out (by omega) d s 1 tE hs (by decide))
            have HL := Lib.hid (low_cases H4.out.good d s)
            rw [HW.out] at HL
            have HCI := Lib.hid (fun w6 (h : BrX w w6 P No S room 81) => x_inodes h)
            generalize S.count 200 = cn at *
            clear HW HR
            rcases HL.out with ⟨e, l1, l2, l3, l4⟩ | ⟨l1, l2, l3, l4⟩
            · rw [l1, l3] at HM
              have qe : (e != 0) = true := by simpa using l2
              clear HL l1 l3 l2 H4
              go_wp2_with fail
              refine HI.out.mono ?_
              rintro _ w4 ⟨rfl, rfl⟩
              go_wp2_with fail
              refine HM.out.mono ?_
              rintro _ w6 ⟨rfl, h6, -⟩
              have H6 := Lib.hid h6
              have HI6 := Lib.hid (HCI.out w6 h6)
              clear h6 HM HI HCI
              rcases Decidable.em (e = 28) with q | q
              · subst q
                have hkk : (200 : Int) < (k : Int) := by
                  rcases l4 with h | h
                  · exact absurd rfl h
                  · omega
                clear l4
                go_wp2_with fail
                refine HI6.out.mono ?_
                rintro _ w7 ⟨rfl, rfl⟩
                go_wp2_with fail
                go_ret
                exact ⟨rfl, H6.out.bel⟩
              · have q28 : (e != 28) = true := by simpa using q
                clear l4 q
                go_wp2_with fail
                refine HI6.out.mono ?_
                rintro _ w7 ⟨rfl, rfl⟩
                go_wp2_with fail
                go_ret
                exact ⟨rfl, H6.out.bel⟩
            · rw [l1] at HM
              have HS6 := Lib.hid (fun w6 (h : BrX w w6 P No (S.make d s 1 tE).2 room 81) => x_stat h (k : Int))
              unfold RetW statV at HS6
              rw [l2] at HS6
              have HI6 := Lib.hid (fun w6 (h : BrX w w6 P No (S.make d s 1 tE).2 room 81) => x_inodes h)
              rw [l3] at HI6
              generalize (S.make d s 1 tE).2 = S2 at *
              have hcn : cn ≤ 200 := by
                have := freeL_length S2
                omega
              clear HL l1 l3 l2 H4 HCI
              go_wp2_with fail
              refine HI.out.mono ?_
              rintro _ w4 ⟨rfl, rfl⟩
              go_wp2_with fail
              refine HM.out.mono ?_
              rintro _ w6 ⟨rfl, h6, -⟩
              have H6 := Lib.hid h6
              have HS7 := Lib.hid (HS6.out w6 h6)
              clear h6 HM HI HS6
              go_wp2_with fail
              refine HS7.out.mono ?_
              rintro _ w7 ⟨rfl, hb7⟩
              have H7 := Lib.hid (H6.out.below hb7)
              have H8 := Lib.hid (fun ob => H7.out.below (dn.below_alloc w7 ob))
              have HI8 := Lib.hid (fun ob => HI6.out _ (H8.out ob))
              have e61 := fun w => run_eql61 1 0 1 1 0 1 w
              have g61 := guard61
              clear hb7 H6 HS7 HI6
              go_wp2_with fail
              refine (HI8.out _).mono ?_
              rintro _ w9 ⟨rfl, rfl⟩
              go_wp2_with fail
              go_ret
              exact ⟨rfl, (H8.out _).bel⟩

          · have HJ2 := Lib.hid (show ∀ j, 1 ≤ j → j < k + 1 → (S.ino j).kind ≠ 0 from fun j h1 h2 => by
              by_cases e : j = k
              · rw [e]; exact hz
              · exact HJ.out j h1 (by omega))
            generalize hK : (S.ino k).kind = K at *
            have hq : (K != 0) = true := by simpa using hz
            clear hko HJ hz hK
            go_wp2_with fail
            refine HK.out.mono ?_
            rintro e w4 ⟨rfl, hb4⟩
            have H4 := Lib.hid (HR.out.below hb4)
            clear hb4 HK HR
            go_wp2_with fail
            go_roundg (gk - 1)
            case measure => omega
            case rel => exact ⟨k + 1, by omega, by omega, by go_num, HJ2, H4⟩
        · have HW := Lib.hid (show S.free 1 200 = k from by
            have hf := free_spec S 200 1
            rcases Nat.lt_trichotomy (S.free 1 200) k with h | h | h
            · exact absurd (hf.2.2.1 (by omega)) (HJ.out _ hf.1 h)
            · exact h
            · omega)
          have H4 := Lib.hid HR.out
          clear HJ
          generalize wr = w4 at *
          have HI := Lib.hid (x_inodes H4.out)
          have HM := Lib.hid (x_make H4.out (by omega) d s 1 tE hs (by decide))
          have HL := Lib.hid (low_cases H4.out.good d s)
          rw [HW.out] at HL
          have HCI := Lib.hid (fun w6 (h : BrX w w6 P No S room 81) => x_inodes h)
          generalize S.count 200 = cn at *
          clear HW HR
          rcases HL.out with ⟨e, l1, l2, l3, l4⟩ | ⟨l1, l2, l3, l4⟩
          · rw [l1, l3] at HM
            have qe : (e != 0) = true := by simpa using l2
            clear HL l1 l3 l2 H4
            go_wp2_with fail
            refine HI.out.mono ?_
            rintro _ w4 ⟨rfl, rfl⟩
            go_wp2_with fail
            refine HM.out.mono ?_
            rintro _ w6 ⟨rfl, h6, -⟩
            have H6 := Lib.hid h6
            have HI6 := Lib.hid (HCI.out w6 h6)
            clear h6 HM HI HCI
            rcases Decidable.em (e = 28) with q | q
            · subst q
              have hkk : (200 : Int) < (k : Int) := by
                rcases l4 with h | h
                · exact absurd rfl h
                · omega
              clear l4
              go_wp2_with fail
              refine HI6.out.mono ?_
              rintro _ w7 ⟨rfl, rfl⟩
              go_wp2_with fail
              go_ret
              exact ⟨rfl, H6.out.bel⟩
            · have q28 : (e != 28) = true := by simpa using q
              clear l4 q
              go_wp2_with fail
              refine HI6.out.mono ?_
              rintro _ w7 ⟨rfl, rfl⟩
              go_wp2_with fail
              go_ret
              exact ⟨rfl, H6.out.bel⟩
          · exact absurd l4 hk

set_option maxRecDepth 100000 in
theorem lifted (os : Os) (started : os.Started) (H : Type) (enc : TypeId × Value → H) :
    ReturnsInHanded {} Tryz.checked os 8 .any (Rows.branchLowestSpec.pre6 enc Tryz.prog Tryz.f8 Rows.branchLowestRow.domain false) (Rows.branchLowestSpec.post enc Tryz.prog Tryz.f8 false true false false) := by
  refine returnsInHanded_of_change (C := Tryz.checked) own started (by kernel_rfl) Tryz.func8
    (ChangeSpec.witness6 (enc := enc) (C := Tryz.checked) false ⟨#[], #[.int .i64 0, .slice none 0 0, .int .i64 0, .string ByteArray.empty], []⟩ 8 (by kernel_rfl) (by kernel_rfl) (by kernel_rfl) (by kernel_rfl)) ?_
  intro W base args ds gs before hval0 hW hcnd _
  have hval : ∀ (j : Nat) t v, Tryz.f8.params[j]? = some t → args[j]? = some v → Value.okWide Tryz.prog W .any base t v := hval0
  have hW' := hW
  obtain ⟨p, q, hA0, hV, rfl, hfz, hnd⟩ := hW
  have hA : DataW.TrodAll enc Tryz.prog W 0 (fun _ => true) true Tryz.f8.params.toList args.toList ds p := hA0
  rw [Tryz.params8] at hA hval
  obtain ⟨v0, vs0, d0, ds0, p0, q0, hargs, rfl, rfl, h0, r0⟩ := trodAll_cons hA
  obtain ⟨v1, vs1, d1, ds1, p1, q1, rfl, rfl, rfl, h1, r1⟩ := trodAll_cons r0
  obtain ⟨v2, vs2, d2, ds2, p2, q2, rfl, rfl, rfl, h2, r2⟩ := trodAll_cons r1
  obtain ⟨v3, vs3, d3, ds3, p3, q3, rfl, rfl, rfl, h3, r3⟩ := trodAll_cons r2
  obtain ⟨rfl, rfl, rfl⟩ := trodAll_nil r3
  obtain rfl : args = #[v0, v1, v2, v3] := by cases args; simp_all
  obtain ⟨rfl, rfl⟩ := trodVars_none hV
  have hlt := fun x hx => hW'.lt x hx
  obtain ⟨a0, rfl, rfl, rfl, w0⟩ := open_int Tryz.underlying3 (hval 0 3 v0 rfl rfl) h0
  have t1 := h1
  obtain ⟨A1, n1, c1, x1, rfl, e1, s1⟩ := open_acts (hval 1 22 v1 rfl rfl) h1
  obtain ⟨a2, rfl, rfl, rfl, w2⟩ := open_int Tryz.underlying3 (hval 2 3 v2 rfl rfl) h2
  obtain ⟨a3, rfl, rfl, rfl, w3⟩ := open_string Tryz.underlying9 (hval 3 9 v3 rfl rfl) h3
  clear hA0 hval0
  refine (walk a0 A1 n1 c1 x1 a2 a3 W e1 s1 w3).mono fun e W' ⟨he, hg⟩ => ?_
  subst he
  exact ⟨_, rfl, law_post (pv := []) hW' (fun _ _ _ => (trodAll_cons_mk (shut_bool Tryz.underlying4 _) trodAll_mk0)) (fun sp hsp => (trodAll_cons_mk (shut_int Tryz.underlying3 w0) (trodAll_cons_mk (arg_stays t1 hg (by simp +contextual) hlt hsp laid) (trodAll_cons_mk (shut_int Tryz.underlying3 w2) (trodAll_cons_mk (shut_string Tryz.underlying9 w3) trodAll_mk0))))) (fun _ _ => rfl) (by simp)
    hg (ok_one (by kernel_rfl) rfl (okWide_bool_mk Tryz.underlying4 _))⟩

theorem over : Rows.branchLowestRow.holds Tryz.pinned (OpenSpec.ofChange Rows.branchLowestSpec) :=
  OpenClaim.holds_of_wide 8 Tryz.f8 rfl rfl rfl rfl rfl rfl rfl ⟨rfl, rfl, rfl, rfl, rfl⟩ rfl rfl rfl rfl rfl (by kernel_rfl) Tryz.func8 (by kernel_rfl)
    (of_decide_eq_true (by kernel_rfl)) (by unfold Func.isWrapper; first | (rw [if_pos (by decide +kernel)]; kernel_rfl) | (rw [if_neg (by decide +kernel)]; exact ⟨rfl, rfl⟩))
    (fun os started H enc _ => lifted os started H enc)

/-- The statement. -/
theorem proved : Rows.BranchLowestSaid :=
  over
end Go.Proofs.YtlelnpckbcpkkaaGreat.branchLowest
