/- For every room and every list of calls the law TreeErrors returns true, and what is handed in reads as it did; there are no conditions. -/
import Derived.Test.YtpmpbmjjlccbbaaGreatZ56
import Derived.Test.YtpmpbmjjlccbbaaGreatRows
import Derived.Deep.RegionWith
import Derived.Deep.QuietTactic
import Derived.BigQuiet
import Derived.ProofKit
import Derived.OpenShut
import Derived.ShutString
import Derived.Deep.LoopGhost
import Derived.StillTailTactics
namespace Go.Proofs.YtpmpbmjjlccbbaaGreat.treeErrors
open Go.ChangeShapes Go.WideShapes Go.ChangeAt Go.RowKit
open Go.ChangeMaps (open_string shut_string)
open Go.Proofs.YtpmpbmjjlccbbaaGreat.tr
set_option linter.unusedVariables false
set_option linter.unusedSimpArgs false

theorem own : ownKnob Tryz.prog.godebug = none := by kernel_rfl
theorem laid : laidOutB Tryz.prog = true := by kernel_rfl

open Go.Proofs.YtpmpbmjjlccbbaaGreat.br (BS Inv Ino fresh)
open Go.Proofs.YtpmpbmjjlccbbaaGreat.bl (Pq)
open Go.Proofs.YtpmpbmjjlccbbaaGreat.cb (toldS)
open Go.Proofs.YtpmpbmjjlccbbaaGreat.ds (De Tb em getV setT allT full IntsE)
open Go.Proofs.YtpmpbmjjlccbbaaGreat.wk (e0)
set_option maxRecDepth 100000 in
set_option maxHeartbeats 8000000 in
theorem walk (r : Int) (A : Option Addr) (n c : Nat) (F : Nat → Cal) (w : World) (k1 : n ≤ c ∧ c ≤ maxLen) (hF : Cls w w.heap.size A n F) :
    Calls Tryz.prog 4 #[.int .i64 r, .slice A n c] w (AwakeE w) := by
  have hnm : n ≤ 9223372036854775807 := Nat.le_trans k1.1 k1.2
  have HA := Lib.hid hF
  have HAW := Lib.hid (awake_any w)
  unfold AwakeE at HAW
  have HEND := Lib.hid (fun W (h : Below w.heap.size w W) => (show AwakeE w (.returned (.bool true)) W from ⟨rfl, h⟩))
  clear k1 hF
  by_cases hr : r < 0 ∨ 65536 < r
  · have HN := Lib.hid (fun w1 => cb.new_no r w1 hr)
    clear hr HA
    go_enter Tryz.func4, Tryz.ntmps4
    go_wp2_with fail
    refine HAW.out.mono ?_
    rintro e w1 ⟨rfl, hb1⟩
    go_wp2_with fail
    refine (HN.out _).mono ?_
    rintro e w2 ⟨rfl, rfl⟩
    go_wp2_with fail
    refine (t_new0 _).mono ?_
    rintro e w2 ⟨rfl, rfl⟩
    go_wp2_with fail
    go_ret
    exact HEND.out _ hb1
  obtain ⟨room, rfl⟩ : ∃ room : Nat, r = (room : Int) := ⟨r.toNat, by omega⟩
  have HN := Lib.hid (fun w1 (hb : Below w.heap.size w w1) => cb.x_new (w0 := w) (w := w1) room (by omega) hb)
  clear hr
  go_enter Tryz.func4, Tryz.ntmps4
  go_wp2_with fail
  refine HAW.out.mono ?_
  rintro e w1 ⟨rfl, hb1⟩
  have HN1 := Lib.hid (HN.out w1 hb1)
  clear hb1 HN HAW
  go_wp2_with fail
  refine HN1.out.mono ?_
  rintro e w2 ⟨B, rfl, h2, -, -⟩
  have HT2 := Lib.hid (t_new h2)
  clear h2 HN1
  go_wp2_with fail
  refine HT2.out.mono ?_
  rintro e w3 ⟨P, Q, rfl, h3, -⟩
  have H3 := Lib.hid (h3.weaken (Y := fun _ => False) fun _ h => h.elim)
  have HD3 := Lib.hid (hd_fresh room)
  have HL3 := Lib.hid (show Lim (⟨fresh, em⟩ : Sy).T from lim_em)
  clear h3 HT2
  go_wp2_with fail
  go_loopg [6] 100 (fun g s6 wr => ∃ (k : Nat) (y : Sy), g + k = 100 ∧ k ≤ n ∧ s6 = .int .i64 k ∧ Hid (SyX w wr P B Q (fun _ => False) y room (3 * k)) ∧ Hid (Hd room y) ∧ Hid (Lim y.T))
  case atStart => exact ⟨0, _, by omega, by omega, rfl, H3, HD3, HL3⟩
  case round =>
    clear H3 HD3 HL3
    obtain ⟨k, y, hgk, hk, rfl, HS, HD, HL⟩ := hrel
    by_cases hgo : k < n ∧ k < 100
    · obtain ⟨hkn, hk2⟩ := hgo
      obtain ⟨b, off, hA0, hbl, f0, f1, f2, f3, f4, f5, f6, sa, sb⟩ := HA.out k hkn
      subst hA0
      have HFC := Lib.hid (fun W (hb : Below w.heap.size w W) => And.intro ((hb.cell (p := ⟨b, off + k * 7, none⟩) hbl).trans f0) (And.intro ((hb.cell (p := ⟨b, off + k * 7 + 1, none⟩) hbl).trans f1) (And.intro ((hb.cell (p := ⟨b, off + k * 7 + 2, none⟩) hbl).trans f2) (And.intro ((hb.cell (p := ⟨b, off + k * 7 + 3, none⟩) hbl).trans f3) (And.intro ((hb.cell (p := ⟨b, off + k * 7 + 4, none⟩) hbl).trans f4) (And.intro ((hb.cell (p := ⟨b, off + k * 7 + 5, none⟩) hbl).trans f5) ((hb.cell (p := ⟨b, off + k * 7 + 6, none⟩) hbl).trans f6)))))))
      have HLG := Lib.hid (fun W => large_any (F k) W sa sb)
      clear f0 f1 f2 f3 f4 f5 f6 sa sb
      obtain ⟨x, hx⟩ : ∃ x, F k = x := ⟨_, rfl⟩
      rw [hx] at HFC HLG
      clear hx
      obtain ⟨xo, xf, xl, xn, xx, xa, xb⟩ := x
      unfold CVal at HLG
      dsimp only at HFC HLG
      obtain ⟨lg, hlg⟩ : ∃ lg, largeB ⟨xo, xf, xl, xn, xx, xa, xb⟩ = lg := ⟨_, rfl⟩
      rw [hlg] at HLG
      obtain ⟨f0, f1, f2, f3, f4, f5, f6⟩ := HFC.out _ HS.out.bel
      have hblr : b < wr.heap.size := Nat.lt_of_lt_of_le hbl HS.out.bel.size
      go_wp2_with fail
      refine (HLG.out _).mono ?_
      rintro e w4 ⟨rfl, hb4⟩
      have H4 := Lib.hid (HS.out.below hb4)
      clear hb4 HLG hblr f0 f1 f2 f3 f4 f5 f6
      cases lg with
      | true =>
        have HB4 := Lib.hid H4.out.bel
        go_wp2_with fail
        try rw [Exit.noGoto_ret]
        go_ret
        exact HEND.out _ HB4.out
      | false =>
        obtain ⟨ha4, hb4⟩ := large_no hlg
        have HBR := Lib.hid (t_branch H4.out)
        go_wp2_with fail
        refine HBR.out.mono ?_
        rintro e w5 ⟨rfl, rfl⟩
        have HTL := Lib.hid (H4.out.asks fun _ h => cb.tell_any h)
        obtain ⟨ts, hts⟩ : ∃ ts, toldS y.S = ts := ⟨_, rfl⟩
        have HTS := Lib.hid hts
        rw [hts] at HTL
        clear hts HBR hlg
        go_wp2_with fail
        refine HTL.out.mono ?_
        rintro e w5 ⟨rfl, hb5⟩
        have H5 := Lib.hid (H4.out.below hb5)
        have HO := Lib.hid (t_open H5.out)
        unfold IntsE at HO
        clear hb5 HTL
        go_wp2_with fail
        refine HO.out.mono ?_
        rintro e w6 ⟨v, rfl, ho, hb6⟩
        obtain ⟨AO, cO, rfl⟩ := ds.own_slice ho
        obtain ⟨no, hno⟩ : ∃ no, (allT y.T 32).length = no := ⟨_, rfl⟩
        have HNO := Lib.hid hno
        rw [hno]
        have H6 := Lib.hid (H5.out.below hb6)
        have HDO := Lib.hid (Do_any H6.out (by omega) HD.out HL.out ⟨xo, xf, xl, xn, xx, xa, xb⟩ ha4 hb4)
        unfold ME CV at HDO
        dsimp only at HDO
        have hblr : b < w6.heap.size := Nat.lt_of_lt_of_le hbl H6.out.bel.size
        clear ho hb6 HO hno
        obtain ⟨f0, f1, f2, f3, f4, f5, f6⟩ := HFC.out _ H6.out.bel
        go_wp2_with fail
        refine HDO.out.mono ?_
        rintro e w7 ⟨r, y', rfl, hd, s1, -⟩
        have HDS := Lib.hid hd
        have HER := Lib.hid (does_err HD.out.good hd)
        have HD7 := Lib.hid (does_held HD.out hd)
        have HL7 := Lib.hid (does_lim HD.out HL.out hd)
        have HAS := Lib.hid (fun h => asks_same hd h)
        clear hd HDO hblr f0 f1 f2 f3 f4 f5 f6
        obtain ⟨re, rn, rs, rk, rz, rl⟩ := r
        unfold RVr RV
        dsimp only at HER HAS ⊢
        obtain ⟨z1, hz1⟩ : ∃ z1 : Int, (rz : Int) = z1 := ⟨_, rfl⟩
        rw [hz1]
        have HZ := Lib.hid hz1
        clear hz1
        obtain ⟨w8, G, hw8, hG, t1, t2, t3, t4⟩ := box_on s1 (.int .i64 re) (.int .i64 rn) (.string rs) (.int .i64 rk) (.int .i64 z1) (.int .i64 rl)
        have H8 := Lib.hid (t1.weaken (Y := fun _ => False) fun _ h => h.elim)
        have HB8 := Lib.hid t2
        clear t1 t2 t3 t4 s1
        have hblr : b < w8.heap.size := Nat.lt_of_lt_of_le hbl H8.out.bel.size
        obtain ⟨x0, x1, x2, x3, x4, x5⟩ := HB8.out.six
        obtain ⟨f0, f1, f2, f3, f4, f5, f6⟩ := HFC.out _ H8.out.bel
        go_upto_region 14 with fail
        try rw [hw8]
        try rw [hG]
        clear hw8 hG
        have HBR := Lib.hid (t_branch H8.out)
        have HTL := Lib.hid (H8.out.asks fun _ h => cb.tell_any h)
        have HB := Lib.hid H8.out.bel
        by_cases he : re = 0
        · subst he
          have hrel : ∃ (k' : Nat) (y : Sy), 0 = 0 := ⟨0, y, rfl⟩
          by_cases hask : AskOp xo
          · rw [HAS.out hask, HTS.out] at HTL
            rcases hask with hask | hask | hask | hask | hask | hask | hask | hask | hask
            all_goals
              subst hask
              go_wp2_with fail
              refine HBR.out.mono ?_
              rintro e w9 ⟨rfl, rfl⟩
              go_wp2_with fail
              refine HTL.out.mono ?_
              rintro e w9 ⟨rfl, hb9⟩
              have H9 := Lib.hid (H8.out.below hb9)
              obtain ⟨x0, x1, x2, x3, x4, x5⟩ := (HB8.out.below hb9).six
              clear hb9
              go_wp2_with fail
              go_roundg (100 - (k + 1))
              case measure => omega
              case rel => exact ⟨k + 1, y', by omega, by omega, by go_num, Lib.hid (H9.out.up (by omega)), HD7, HL7⟩
          · have q3 : (xo == 3) = false := by simp; intro h; exact hask (.inl h)
            have q5 : (xo == 5) = false := by simp; intro h; exact hask (.inr (.inl h))
            have q7 : (xo == 7) = false := by simp; intro h; exact hask (.inr (.inr (.inl h)))
            have q9 : (xo == 9) = false := by simp; intro h; exact hask (.inr (.inr (.inr (.inl h))))
            have q10 : (xo == 10) = false := by simp; intro h; exact hask (.inr (.inr (.inr (.inr (.inl h)))))
            have q16 : (xo == 16) = false := by simp; intro h; exact hask (.inr (.inr (.inr (.inr (.inr (.inl h))))))
            have q18 : (xo == 18) = false := by simp; intro h; exact hask (.inr (.inr (.inr (.inr (.inr (.inr (.inl h)))))))
            have q19 : (xo == 19) = false := by simp; intro h; exact hask (.inr (.inr (.inr (.inr (.inr (.inr (.inr (.inl h))))))))
            have q20 : (xo == 20) = false := by simp; intro h; exact hask (.inr (.inr (.inr (.inr (.inr (.inr (.inr (.inr h))))))))
            go_wp2_with fail
            go_roundg (100 - (k + 1))
            case measure => omega
            case rel => exact ⟨k + 1, y', by omega, by omega, by go_num, Lib.hid (H8.out.up (by omega)), HD7, HL7⟩
        · obtain ⟨hy, hrr⟩ := HER.out he
          have hy2 : toldS y'.S = ts := by rw [hy]; exact HTS.out
          rw [hy2] at HTL
          unfold wrong at hrr
          injection hrr with h1 h2 h3 h4
          injection h4 with h4 h5
          injection h5 with h5 h6
          subst h2 h3 h4 h5 h6
          have hz := HZ.out
          have hz0 : z1 = 0 := by rw [← hz]; rfl
          subst hz0
          have HO9 := Lib.hid (fun W (hb : Below w8.heap.size w8 W) => t_open (H8.out.below hb))
          rw [hy] at HO9
          unfold IntsE at HO9
          have qe : (re != 0) = true := by simpa using he
          have hne := neq39 re 0 e0 0 0 0
          have hgu := guard39
          unfold e0 at *
          clear hy hy2
          by_cases hask : AskOp xo
          · rcases hask with hask | hask | hask | hask | hask | hask | hask | hask | hask
            all_goals
              subst hask
              go_wp2_with fail
              refine HBR.out.mono ?_
              rintro e w9 ⟨rfl, rfl⟩
              go_wp2_with fail
              refine HTL.out.mono ?_
              rintro e w9 ⟨rfl, hb9⟩
              have H9 := Lib.hid (H8.out.below hb9)
              have HO9' := Lib.hid (HO9.out w9 hb9)
              obtain ⟨x0, x1, x2, x3, x4, x5⟩ := (HB8.out.below hb9).six
              clear hb9
              go_wp2_with fail
              refine HO9'.out.mono ?_
              rintro e w10 ⟨v, rfl, ho, hb10⟩
              obtain ⟨A10, c10, rfl⟩ := ds.own_slice ho
              rw [HNO.out]
              have H10 := Lib.hid (H9.out.below hb10)
              clear ho hb10
              go_wp2_with fail
              go_roundg (100 - (k + 1))
              case measure => omega
              case rel => exact ⟨k + 1, y', by omega, by omega, by go_num, Lib.hid (H10.out.up (by omega)), HD7, HL7⟩
          · have q3 : (xo == 3) = false := by simp; intro h; exact hask (.inl h)
            have q5 : (xo == 5) = false := by simp; intro h; exact hask (.inr (.inl h))
            have q7 : (xo == 7) = false := by simp; intro h; exact hask (.inr (.inr (.inl h)))
            have q9 : (xo == 9) = false := by simp; intro h; exact hask (.inr (.inr (.inr (.inl h))))
            have q10 : (xo == 10) = false := by simp; intro h; exact hask (.inr (.inr (.inr (.inr (.inl h)))))
            have q16 : (xo == 16) = false := by simp; intro h; exact hask (.inr (.inr (.inr (.inr (.inr (.inl h))))))
            have q18 : (xo == 18) = false := by simp; intro h; exact hask (.inr (.inr (.inr (.inr (.inr (.inr (.inl h)))))))
            have q19 : (xo == 19) = false := by simp; intro h; exact hask (.inr (.inr (.inr (.inr (.inr (.inr (.inr (.inl h))))))))
            have q20 : (xo == 20) = false := by simp; intro h; exact hask (.inr (.inr (.inr (.inr (.inr (.inr (.inr (.inr h))))))))
            go_wp2_with fail
            refine HBR.out.mono ?_
            rintro e w9 ⟨rfl, rfl⟩
            go_wp2_with fail
            refine HTL.out.mono ?_
            rintro e w9 ⟨rfl, hb9⟩
            have H9 := Lib.hid (H8.out.below hb9)
            have HO9' := Lib.hid (HO9.out w9 hb9)
            obtain ⟨x0, x1, x2, x3, x4, x5⟩ := (HB8.out.below hb9).six
            clear hb9
            go_wp2_with fail
            refine HO9'.out.mono ?_
            rintro e w10 ⟨v, rfl, ho, hb10⟩
            obtain ⟨A10, c10, rfl⟩ := ds.own_slice ho
            rw [HNO.out]
            have H10 := Lib.hid (H9.out.below hb10)
            clear ho hb10
            go_wp2_with fail
            go_roundg (100 - (k + 1))
            case measure => omega
            case rel => exact ⟨k + 1, y', by omega, by omega, by go_num, Lib.hid (H10.out.up (by omega)), HD7, HL7⟩
    · have HB := Lib.hid HS.out.bel
      by_cases hkn : k < n
      · have h1 : ¬ ((k : Int) < 100) := by omega
        go_wp2_with fail
        try rw [Exit.noGoto_ret]
        go_ret
        exact HEND.out _ HB.out
      · have h1 : ¬ ((k : Int) < (n : Int)) := by omega
        go_wp2_with fail
        try rw [Exit.noGoto_ret]
        go_ret
        exact HEND.out _ HB.out

set_option maxRecDepth 100000 in
theorem lifted (os : Os) (started : os.Started) (H : Type) (enc : TypeId × Value → H) :
    ReturnsInHanded {} Tryz.checked os 4 .any (Rows.treeErrorsSpec.pre6 enc Tryz.prog Tryz.f4 Rows.treeErrorsRow.domain false) (Rows.treeErrorsSpec.post enc Tryz.prog Tryz.f4 false true false false) := by
  refine returnsInHanded_of_change (C := Tryz.checked) own started (by kernel_rfl) Tryz.func4
    (ChangeSpec.witness6 (enc := enc) (C := Tryz.checked) false ⟨#[], #[.int .i64 0, .slice none 0 0], []⟩ 8 (by kernel_rfl) (by kernel_rfl) (by kernel_rfl) (by kernel_rfl)) ?_
  intro W base args ds gs before hval0 hW hcnd _
  have hval : ∀ (j : Nat) t v, Tryz.f4.params[j]? = some t → args[j]? = some v → Value.okWide Tryz.prog W .any base t v := hval0
  have hW' := hW
  obtain ⟨p, q, hA0, hV, rfl, hfz, hnd⟩ := hW
  have hA : DataW.TrodAll enc Tryz.prog W 0 (fun _ => true) true Tryz.f4.params.toList args.toList ds p := hA0
  rw [Tryz.params4] at hA hval
  obtain ⟨v0, vs0, d0, ds0, p0, q0, hargs, rfl, rfl, h0, r0⟩ := trodAll_cons hA
  obtain ⟨v1, vs1, d1, ds1, p1, q1, rfl, rfl, rfl, h1, r1⟩ := trodAll_cons r0
  obtain ⟨rfl, rfl, rfl⟩ := trodAll_nil r1
  obtain rfl : args = #[v0, v1] := by cases args; simp_all
  obtain ⟨rfl, rfl⟩ := trodVars_none hV
  have hlt := fun x hx => hW'.lt x hx
  obtain ⟨a0, rfl, rfl, rfl, w0⟩ := open_int Tryz.underlying3 (hval 0 3 v0 rfl rfl) h0
  have t1 := h1
  obtain ⟨A1, n1, c1, x1, rfl, e1, s1⟩ := open_calls (hval 1 22 v1 rfl rfl) h1
  clear hA0 hval0
  refine (walk a0 A1 n1 c1 x1 W e1 s1).mono fun e W' ⟨he, hg⟩ => ?_
  subst he
  exact ⟨_, rfl, law_post (pv := []) hW' (fun _ _ _ => (trodAll_cons_mk (shut_bool Tryz.underlying4 _) trodAll_mk0)) (fun sp hsp => (trodAll_cons_mk (shut_int Tryz.underlying3 w0) (trodAll_cons_mk (arg_stays t1 hg (by simp +contextual) hlt hsp laid) trodAll_mk0))) (fun _ _ => rfl) (by simp)
    hg (ok_one (by kernel_rfl) rfl (okWide_bool_mk Tryz.underlying4 _))⟩

theorem over : Rows.treeErrorsRow.holds Tryz.pinned (OpenSpec.ofChange Rows.treeErrorsSpec) :=
  OpenClaim.holds_of_wide 4 Tryz.f4 rfl rfl rfl rfl rfl rfl rfl ⟨rfl, rfl, rfl, rfl, rfl⟩ rfl rfl rfl rfl rfl (by kernel_rfl) Tryz.func4 (by kernel_rfl)
    (of_decide_eq_true (by kernel_rfl)) (by unfold Func.isWrapper; first | (rw [if_pos (by decide +kernel)]; kernel_rfl) | (rw [if_neg (by decide +kernel)]; exact ⟨rfl, rfl⟩))
    (fun os started H enc _ => lifted os started H enc)

/-- The statement. -/
theorem proved : Rows.TreeErrorsSaid :=
  over
end Go.Proofs.YtpmpbmjjlccbbaaGreat.treeErrors
