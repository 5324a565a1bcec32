/- For every text the law PathUp returns true, and the text reads as it did; there are no conditions. -/
import Derived.Test.YtlaceeiodlpmdaaAwake
import Derived.Test.YtlaceeiodlpmdaaBack
import Derived.Test.YtlaceeiodlpmdaaBytes
import Derived.Test.YtlaceeiodlpmdaaFrame
import Derived.ProofKit
import Derived.OpenShut
import Derived.ShutString
namespace Go.Proofs.Ytlaceeiodlpmdaa.pathUp
open Go.ChangeShapes Go.WideShapes Go.ChangeAt Go.RowKit
open Go.ChangeMaps (open_string shut_string)
set_option linter.unusedVariables false      -- a walk need not use every 'w<i>' (that an integer argument fits its kind)

theorem own : ownKnob Try.prog.godebug = none := by kernel_rfl

set_option maxHeartbeats 1000000 in
theorem walk_no (s : ByteArray) (w : World) (hp : perr s.data.toList ≠ 0) : Calls Try.prog 10 #[.string s] w (AwakeE w) := by
  have hP := fun w => parse_any s w
  unfold ParseE at hP
  rw [pnames_no hp, pdirE_no hp] at hP
  have hT : (perr s.data.toList != 0) = true := by rw [bne_iff_ne]; exact hp
  clear hp
  generalize perr s.data.toList = n at *
  go_enter Try.func10, Try.ntmps10
  go_wp2_with (first | (go_at_call 12; refine (awake_any _).mono ?_; rintro e w1 ⟨rfl, hb1⟩) | (go_at_call 13; refine (hP _).mono ?_; rintro e w2 ⟨A, c, rfl, -, hb2⟩))
  go_ret
  exact ⟨rfl, hb1.trans ((hb2.trans ((below_alloc _ _).mono hb2.size)).mono hb1.size)⟩

set_option maxHeartbeats 4000000 in
theorem walk_yes (s : ByteArray) (w : World) (hp : perr s.data.toList = 0) : Calls Try.prog 10 #[.string s] w (AwakeE w) := by
  have hP := fun w => parse_any s w
  unfold ParseE at hP
  rw [pnames_ok hp, pdirE_ok hp, hp] at hP
  have hn40 := (perr_zero.1 hp).2.2.2.2
  have hs : s.size ≤ 400 := by rw [Lib.size_eq]; exact (perr_zero.1 hp).2.1
  have HL := Lib.hid (Lib.size_eq s)
  have HW := Lib.hid (want_nms s.data.toList)
  have h60 := Lib.hid (show ((nms s.data.toList).map List.length).sum ≤ 402 by
    have h2 : ((nms s.data.toList).map List.length).sum ≤ ((comps s.data.toList).map List.length).sum := filter_sum _ _
    have h4 := compsA_len s.data.toList []
    have e : compsA [] s.data.toList = comps s.data.toList := rfl
    rw [e, ← Lib.size_eq] at h4
    simp at h4
    omega)
  clear hp
  generalize nms s.data.toList = xs at *
  generalize pdir s.data.toList = d at *
  obtain ⟨i0, hi, hz0, hz1, hz2⟩ := info_parts info5
  go_enter Try.func10, Try.ntmps10
  go_wp2_with (go_at_call 12; refine (awake_any _).mono ?_; rintro e w1 ⟨rfl, hb1⟩)
  refine (hP _).mono ?_
  rintro e w2 ⟨A, c, rfl, o2, hb2⟩
  have p2 := Box.new w2 (.slice A xs.length c) (.bool d) 25
  have u2 := o2.strs.below (below_alloc w2 (.cells #[.slice A xs.length c, .bool d] 25))
  replace hb1 := hb1.trans ((hb2.trans ((below_alloc w2 (.cells #[.slice A xs.length c, .bool d] 25)).mono hb2.size)).mono hb1.size)
  clear o2 hb2
  go_wp2_with fail
  have bWA : Below (w2.heap.size + 1) (w2.alloc (.cells #[.slice A xs.length c, .bool d] 25)) (((w2.alloc (.cells #[.slice A xs.length c, .bool d] 25)).alloc (.cells #[] 5)).alloc (.cells #[] 5)) :=
    ((Below.refl _ _).alloc (by simp) _).alloc (by simp) _
  go_loopg [5, 6, 7] (s.size + 1) (fun g v5 v6 i wr => ∃ (k : Nat) (W P : Bs) (Bp : Nat), k ≤ s.size + 1 ∧ g + k = s.size + 1 ∧ i = .int .i64 k ∧
    Hid ((k ≤ s.size → wantA [] s.data.toList = W ++ wantA P (s.data.toList.drop k)) ∧ (k = s.size + 1 → wantA [] s.data.toList = W)) ∧ W.length + P.length ≤ k ∧
    Bown wr (w2.heap.size + 1) v5 W ∧ Bown wr Bp v6 P ∧ Hid (∀ g, v5.ownBlock = some g → g < Bp) ∧ Bp ≤ wr.heap.size ∧ w2.heap.size + 1 ≤ Bp ∧ Below (w2.heap.size + 1) (w2.alloc (.cells #[.slice A xs.length c, .bool d] 25)) wr)
  case atStart =>
    refine ⟨0, [], [], w2.heap.size + 1 + 1, by omega, by omega, rfl, ⟨fun _ => rfl, fun h => by omega⟩, by simp, ?_, ?_, ?_, by simp, by omega, bWA⟩
    · have := (Bown.lit (w2.alloc (.cells #[.slice A xs.length c, .bool d] 25)) (w2.heap.size + 1) (by simp)).alloc (.cells #[] 5)
      simpa [Bown] using this
    · have := Bown.lit ((w2.alloc (.cells #[.slice A xs.length c, .bool d] 25)).alloc (.cells #[] 5)) (w2.heap.size + 1 + 1) (by simp)
      simpa [Bown] using this
    · intro g hg
      simp [Value.ownBlock] at hg
      omega
  case round =>
    obtain ⟨k, W, P, Bp, hk, hg, rfl, HI, hlen, ho5, ho6, HS, hBp, hBp0, hbr⟩ := hrel
    have hcv := row_string ho6
    have HO6 := Lib.hid ho6
    have hne : u5.ownBlock = none ∨ u5.ownBlock ≠ u6.ownBlock := by
      cases h5 : u5.ownBlock with
      | none => exact .inl rfl
      | some g5 =>
        refine .inr (fun e => ?_)
        have h1 := HS.out g5 h5
        have h2 := (ho6.lt g5 (by rw [← e])).1
        omega
    have HNE := Lib.hid hne
    clear hne
    by_cases hkn : k < s.size
    · have hkL : k < s.data.toList.length := by rw [← HL.out]; exact hkn
      have hdrop : s.data.toList.drop k = s[k] :: s.data.toList.drop (k + 1) := by rw [List.drop_eq_getElem_cons hkL, getD_data s k hkn]
      have HD := Lib.hid hdrop
      clear hdrop
      by_cases h47 : s[k] = 47
      · have hT : (((s[k]).toNat : Int) != 47) = false := by rw [h47]; rfl
        have HW2 := Lib.hid (show (k + 1 ≤ s.size → wantA [] s.data.toList = (W ++ keepP P) ++ wantA [] (s.data.toList.drop (k + 1))) ∧ (k + 1 = s.size + 1 → wantA [] s.data.toList = W ++ keepP P) from
          ⟨fun _ => by rw [HI.out.1 (by omega), HD.out, h47, wantA_slash, List.append_assoc], fun h => by omega⟩)
        clear h47
        by_cases hd : P = [46]
        · subst hd
          have hk0 := Lib.hid (show keepP [46] = [] from rfl)
          go_wp2
          go_roundg (gk - 1)
          case measure => omega
          case rel =>
            refine ⟨k + 1, W, [], wr.heap.size, by omega, by omega, by go_num, ?_, by simp at hlen ⊢; omega, World.ownsRow.alloc ho5 _, Bown.lit wr _ (Nat.le_refl _), Lib.hid (fun g hg => (World.ownsRow.lt ho5 g hg).2), by simp, by omega, hbr.alloc (by omega) _⟩
            have := HW2.out
            rw [hk0.out, List.append_nil] at this
            exact this
        · have hdB : (!P == [46]) = true := by simp [hd]
          have hk0 := Lib.hid (show keepP P = P by unfold keepP; rw [if_neg hd])
          clear hd
          go_wp2_with (at_builtin; go_must (refine wpList_append_row _ rfl (.tmp 46) (.tmp 47) rfl (w2.heap.size + 1) u5 W rfl ho5 Bp u6 P rfl HO6.out (by omega) (by omega) ?_); intro v1 w3 hown1 hgrow1)
          go_roundg (gk - 1)
          case measure => omega
          case rel =>
            refine ⟨k + 1, W ++ P, [], w3.heap.size, by omega, by omega, by go_num, ?_, by simp; omega, World.ownsRow.alloc hown1 _, Bown.lit w3 _ (Nat.le_refl _), Lib.hid (fun g hg => (World.ownsRow.lt hown1 g hg).2), by simp, by have := hgrow1.size; omega, ?_⟩
            · have := HW2.out
              rw [hk0.out] at this
              exact this
            · exact (hbr.grown hgrow1 (by omega) (fun g hg' => (World.ownsRow.lt ho5 g hg').1)).alloc (by have := hgrow1.size; omega) _
      · have hT : (((s[k]).toNat : Int) != 47) = true := by
          simp only [bne_iff_ne, ne_eq]
          intro h
          exact h47 (UInt8.toNat_inj.1 (by have : s[k].toNat = 47 := by omega
                                           simpa using this))
        have HW2 := Lib.hid (show wantA P (s.data.toList.drop k) = wantA (P ++ [s[k]]) (s.data.toList.drop (k + 1)) by rw [HD.out, wantA_other _ _ _ h47])
        clear h47 hcv
        go_wp2_with (at_builtin; go_must (refine wpList_append_own _ rfl (.tmp 37) (.tmp 41) 41 rfl Bp 5 i0 _ 1 1 Try.underlying41 hi hz0 hz1 hz2 rfl (by decide) u6 P.length (bcells P) rfl (World.ownsRow.alloc HO6.out _) ⟨wr.heap.size, 0, none⟩ 1 1 [.int .u8 (s[k].toNat : Int)] rfl rfl (cell_one_new _ _ _) (by intro u hu; simp at hu; subst hu; rfl) (by unfold maxLen; omega) (by omega) (by simp; omega) ?_); intro v1 w3 hown1 hgrow1 _)
        go_roundg (gk - 1)
        case measure => omega
        case rel =>
          refine ⟨k + 1, W, P ++ [s[k]], Bp, by omega, by omega, by go_num, ⟨fun _ => ?_, fun h => by omega⟩, by simp; omega, ?_, ?_, HS, ?_, hBp0, ?_⟩
          · rw [HI.out.1 (by omega), HW2.out]
          · exact (World.ownsRow.alloc ho5 _).kept hgrow1 HNE.out
          · unfold Bown
            rw [List.length_append, bcells_app]
            exact hown1
          · have := hgrow1.size; simp at this; omega
          · exact (hbr.alloc (by have := hbr.size; simp at this; omega) _).grown hgrow1 (by have := hbr.size; simp at this ⊢; omega) (fun g hg' => by have := (HO6.out.lt g hg').1; omega)
    · by_cases hkn2 : k = s.size
      · have HW2 := Lib.hid (show (k + 1 ≤ s.size → wantA [] s.data.toList = (W ++ keepP P) ++ wantA [] (s.data.toList.drop (k + 1))) ∧ (k + 1 = s.size + 1 → wantA [] s.data.toList = W ++ keepP P) from
          ⟨fun h => by omega, fun _ => by rw [HI.out.1 (by omega), List.drop_eq_nil_of_le (by rw [← HL.out]; omega)]; rfl⟩)
        have hkl : ¬ ((k : Int) < (s.size : Int)) := by omega
        have hkl2 : (k : Int) ≤ (s.size : Int) := by omega
        clear hkn2 hkn
        by_cases hd : P = [46]
        · subst hd
          have hk0 := Lib.hid (show keepP [46] = [] from rfl)
          go_wp2
          go_roundg (gk - 1)
          case measure => omega
          case rel =>
            refine ⟨k + 1, W, [], wr.heap.size, by omega, by omega, by go_num, ?_, by simp at hlen ⊢; omega, World.ownsRow.alloc ho5 _, Bown.lit wr _ (Nat.le_refl _), Lib.hid (fun g hg => (World.ownsRow.lt ho5 g hg).2), by simp, by omega, hbr.alloc (by omega) _⟩
            have := HW2.out
            rw [hk0.out, List.append_nil] at this
            exact this
        · have hdB : (!P == [46]) = true := by simp [hd]
          have hk0 := Lib.hid (show keepP P = P by unfold keepP; rw [if_neg hd])
          clear hd
          go_wp2_with (at_builtin; go_must (refine wpList_append_row _ rfl (.tmp 46) (.tmp 47) rfl (w2.heap.size + 1) u5 W rfl ho5 Bp u6 P rfl HO6.out (by omega) (by omega) ?_); intro v1 w3 hown1 hgrow1)
          go_roundg (gk - 1)
          case measure => omega
          case rel =>
            refine ⟨k + 1, W ++ P, [], w3.heap.size, by omega, by omega, by go_num, ?_, by simp; omega, World.ownsRow.alloc hown1 _, Bown.lit w3 _ (Nat.le_refl _), Lib.hid (fun g hg => (World.ownsRow.lt hown1 g hg).2), by simp, by have := hgrow1.size; omega, ?_⟩
            · have := HW2.out
              rw [hk0.out] at this
              exact this
            · exact (hbr.grown hgrow1 (by omega) (fun g hg' => (World.ownsRow.lt ho5 g hg').1)).alloc (by have := hgrow1.size; omega) _
      · have hke : k = s.size + 1 := by omega
        have hnl : ¬ ((k : Int) ≤ (s.size : Int)) := by omega
        have HWE := Lib.hid (HI.out.2 hke)
        clear hke hkn2 hkn hcv
        have q0 := (hbr.cell (p := ⟨w2.heap.size, 0, none⟩) (by simp)).trans p2.c0
        have q1 : w2.heap.size < wr.heap.size := by omega
        go_wp2_with fail
        have HF := Lib.hid (show ∀ m, (xs.take m).flatten.length ≤ 402 by
          intro m
          have h1 : xs.flatten = (xs.take m).flatten ++ (xs.drop m).flatten := by rw [← List.flatten_append, List.take_append_drop]
          have h2 := flat_len xs
          rw [h1, List.length_append] at h2
          have := h60.out
          omega)
        have ur := u2.below (hbr.mono (by omega))
        have hW : W = xs.flatten := by rw [← HWE.out, HW.out]
        subst hW
        clear HWE HI hlen HS HNE HO6 ho6
        have hbrA := hb1.trans (hbr.mono (by have := hb1.size; simp at this; omega))
        clear hb1 bWA
        have HOW := Lib.hid ho5
        clear ho5
        generalize wr = wA at *
        go_loopg [8, 54] xs.length (fun g v8 i wy => ∃ m : Nat, m ≤ xs.length ∧ g + m = xs.length ∧ i = .int .i64 m ∧ Bown wy wA.heap.size v8 (xs.take m).flatten ∧ Below wA.heap.size wA wy)
        case atStart => exact ⟨0, by omega, by omega, rfl, Bown.lit wA _ (Nat.le_refl _), below_alloc wA _⟩
        case round =>
          obtain ⟨m, hm, hg2, rfl, ho8, hby⟩ := hrel
          have q0y := (hby.cell (p := ⟨w2.heap.size, 0, none⟩) q1).trans q0
          by_cases hmn : m < xs.length
          · obtain ⟨ad, x, rfl, hab, hx, hcx⟩ := (ur.below (hby.mono (by omega))).get hmn
            have HX := Lib.hid (flat_take xs m x hx)
            have hxl : x.length + (xs.take m).flatten.length ≤ 402 := by
              have := HF.out (m + 1)
              rw [HX.out, List.length_append] at this
              omega
            have HO8 := Lib.hid ho8
            clear ho8 hx
            go_wp2_with (at_builtin; go_must (refine Lib.wpList_append_own_string _ rfl (.tmp 57) (.tmp 62) 41 9 rfl wA.heap.size 5 i0 Try.underlying41 Try.underlying9 hi hz0 hz1 hz2 u8 (xs.take m).flatten.length (bcells (xs.take m).flatten) rfl HO8.out ⟨x.toArray⟩ rfl (by rw [Lib.size_eq]; unfold maxLen; simp at hxl ⊢; omega) (by rw [Lib.size_eq]; simp at hxl ⊢; omega) hby.size ?_); intro v1 w3 hown1 hgrow1 _)
            go_roundg (gk - 1)
            case measure => omega
            case rel =>
              refine ⟨m + 1, by omega, by omega, by go_num, ?_, ?_⟩
              · unfold Bown
                rw [HX.out, List.length_append, bcells_app]
                rw [strCells_b, Lib.size_eq] at hown1
                simpa using hown1
              · exact hby.grown hgrow1 hby.size (fun g hg' => (HO8.out.lt g hg').1)
          · have hme : m = xs.length := by omega
            have hml : ¬ ((m : Int) < (xs.length : Int)) := by omega
            rw [hme, List.take_length] at ho8
            clear hme hmn
            have ho5 : Bown wA (w2.heap.size + 1) u5 xs.flatten := HOW.out
            have ho5y : Bown _ (w2.heap.size + 1) u5 xs.flatten := World.ownsRow.kept (row := none) ho5 ⟨hby.os, hby.tape, hby.output, hby.size, fun k hk _ => hby.block k hk⟩ (by cases hv : u5.ownBlock <;> simp)
            have hc5 := row_string ho5y
            have hc8 := row_string ho8
            clear ho5 ho5y ho8
            go_wp2
            go_ret
            exact ⟨rfl, hbrA.trans (hby.mono (by have := hbrA.size; omega))⟩

theorem walk (s : ByteArray) (_w0 : s.size ≤ maxLen) (w : World) : Calls Try.prog 10 #[.string s] w (AwakeE w) := by
  by_cases hp : perr s.data.toList = 0
  · exact walk_yes s w hp
  · exact walk_no s w hp

set_option maxRecDepth 100000 in
theorem lifted (os : Os) (started : os.Started) (H : Type) (enc : TypeId × Value → H) :
    ReturnsInHanded {} Try.checked os 10 .any (Rows.pathUpSpec.pre6 enc Try.prog Try.f10 Rows.pathUpRow.domain false) (Rows.pathUpSpec.post enc Try.prog Try.f10 false true false false) := by
  refine returnsInHanded_of_change (C := Try.checked) own started (by kernel_rfl) Try.func10
    (ChangeSpec.witness6 (enc := enc) (C := Try.checked) false ⟨#[], #[.string ByteArray.empty], []⟩ 8 (by kernel_rfl) (by kernel_rfl) (by kernel_rfl) (by kernel_rfl)) ?_
  intro W base args ds gs before hval0 hW hcnd _
  have hval : ∀ (j : Nat) t v, Try.f10.params[j]? = some t → args[j]? = some v → Value.okWide Try.prog W .any base t v := hval0
  have hW' := hW
  obtain ⟨p, q, hA0, hV, rfl, hfz, hnd⟩ := hW
  have hA : DataW.TrodAll enc Try.prog W 0 (fun _ => true) true Try.f10.params.toList args.toList ds p := hA0
  rw [Try.params10] at hA hval
  obtain ⟨v0, vs0, d0, ds0, p0, q0, hargs, rfl, rfl, h0, r0⟩ := trodAll_cons hA
  obtain ⟨rfl, rfl, rfl⟩ := trodAll_nil r0
  obtain rfl : args = #[v0] := by cases args; simp_all
  obtain ⟨rfl, rfl⟩ := trodVars_none hV
  obtain ⟨a0, rfl, rfl, rfl, w0⟩ := open_string Try.underlying9 (hval 0 9 v0 rfl rfl) h0
  clear hA0 hval0
  simp only [List.append_nil] at hW'
  refine (walk a0 w0 W).mono fun e W' ⟨he, hg⟩ => ?_
  subst he
  exact ⟨_, rfl, law_post (pa := []) (pv := []) hW' (fun _ _ _ => (trodAll_cons_mk (shut_bool Try.underlying4 _) trodAll_mk0)) (fun sp _ => (trodAll_cons_mk (shut_string Try.underlying9 w0) trodAll_mk0)) (fun _ _ => rfl) rfl
    hg (ok_one (by kernel_rfl) rfl (okWide_bool_mk Try.underlying4 _))⟩

theorem over : Rows.pathUpRow.holds Try.pinned (OpenSpec.ofChange Rows.pathUpSpec) :=
  OpenClaim.holds_of_wide 10 Try.f10 rfl rfl rfl rfl rfl rfl rfl ⟨rfl, rfl, rfl, rfl, rfl⟩ rfl rfl rfl rfl rfl (by kernel_rfl) Try.func10 (by kernel_rfl)
    (of_decide_eq_true (by kernel_rfl)) (by unfold Func.isWrapper; first | (rw [if_pos (by decide +kernel)]; kernel_rfl) | (rw [if_neg (by decide +kernel)]; exact ⟨rfl, rfl⟩))
    (fun os started H enc _ => lifted os started H enc)

/-- The statement. -/
theorem proved : Rows.PathUpSaid :=
  over
end Go.Proofs.Ytlaceeiodlpmdaa.pathUp
