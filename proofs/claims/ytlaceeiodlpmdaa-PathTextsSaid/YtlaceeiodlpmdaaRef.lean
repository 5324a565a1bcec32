/- The document's answer by definition: 'has', 'Name', 'Parts': what they hand back. -/
import Derived.Test.YtlaceeiodlpmdaaComps
import Derived.Test.YtlaceeiodlpmdaaName
import Derived.Test.YtlaceeiodlpmdaaAwake
namespace Go.Proofs.Ytlaceeiodlpmdaa
open Go.RowKit

set_option maxHeartbeats 1000000 in
theorem rhas_any (s : ByteArray) (c : UInt8) (b : Bool) (w : World) (hm : s.size ≤ 9223372036854775807) (hb : decide (c ∈ s.data.toList) = b) : Calls Try.prog 30 #[.string s, .int .u8 (c.toNat : Int)] w fun e w' => e = .returned (.bool b) ∧ w = w' := by
  have HB := Lib.hid hb
  clear hb
  go_enter Try.func30, Try.ntmps30
  go_wp2_with fail
  go_loopg [5] s.size (fun g i wr => ∃ j : Nat, j ≤ s.size ∧ g + j = s.size ∧ i = .int .i64 j ∧ Hid (∀ x ∈ s.data.toList.take j, x ≠ c) ∧ w = wr)
  case atStart => exact ⟨0, by omega, by omega, rfl, (by show ∀ _, _; simp), rfl⟩
  case round =>
    obtain ⟨j, hj, hg, rfl, HN, rfl⟩ := hrel
    by_cases hjl : j < s.size
    · have hjL : j < s.data.toList.length := by rw [← Lib.size_eq]; exact hjl
      by_cases h : s[j] = c
      · have hT : (((s[j]).toNat : Int) == (c.toNat : Int)) = true := by rw [h]; simp
        have hbt : b = true := by
          rw [← HB.out]
          exact decide_eq_true (by rw [← h, getD_data s j hjl]; exact List.getElem_mem _)
        subst hbt
        clear h
        go_wp2_with fail
        try rw [Exit.noGoto_ret]
        go_ret
        exact ⟨rfl, rfl⟩
      · have hT : (((s[j]).toNat : Int) == (c.toNat : Int)) = false := by
          rw [beq_eq_false_iff_ne]
          intro e
          exact h (UInt8.toNat_inj.1 (by omega))
        have HN' : Hid (∀ x ∈ s.data.toList.take (j + 1), x ≠ c) := by
          show ∀ _, _
          rw [List.take_succ_eq_append_getElem hjL]
          intro x hx
          rw [List.mem_append, List.mem_singleton] at hx
          rcases hx with hx | rfl
          · exact HN.out x hx
          · rw [← getD_data s j hjl]; exact h
        clear h
        go_wp2_with fail
        go_roundg (gk - 1)
        case measure => omega
        case rel => exact ⟨j + 1, by omega, by omega, by go_num, HN', rfl⟩
    · have hbt : b = false := by
        rw [← HB.out]
        refine decide_eq_false (fun hc => ?_)
        have := HN.out c (by rw [List.take_of_length_le (by rw [← Lib.size_eq]; omega)]; exact hc)
        exact this rfl
      subst hbt
      have hkl : ¬ ((j : Int) < (s.size : Int)) := by omega
      clear hjl
      go_wp2_with fail
      go_ret
      exact ⟨rfl, rfl⟩

theorem rhas0 (s : ByteArray) (b : Bool) (w : World) (hm : s.size ≤ 9223372036854775807) (hb : decide ((0 : UInt8) ∈ s.data.toList) = b) : Calls Try.prog 30 #[.string s, .int .u8 0] w fun e w' => e = .returned (.bool b) ∧ w = w' := rhas_any s 0 b w hm hb
theorem rhas47 (s : ByteArray) (b : Bool) (w : World) (hm : s.size ≤ 9223372036854775807) (hb : decide ((47 : UInt8) ∈ s.data.toList) = b) : Calls Try.prog 30 #[.string s, .int .u8 47] w fun e w' => e = .returned (.bool b) ∧ w = w' := rhas_any s 47 b w hm hb

set_option maxHeartbeats 1000000 in
theorem rname_any (s : ByteArray) (w : World) (hm : s.size ≤ 9223372036854775807) : Calls Try.prog 17 #[.string s] w (NameE w s.data.toList) := by
  by_cases h0 : s.size = 0
  · have HR := Lib.hid (show nerr s.data.toList = 2 by unfold nerr; rw [if_pos (List.eq_nil_of_length_eq_zero (by rw [← Lib.size_eq]; exact h0))])
    go_enter Try.func17, Try.ntmps17
    go_wp2_with fail
    go_ret
    exact ⟨by rw [HR.out]; rfl, Below.refl _ _⟩
  · have hne : s.data.toList ≠ [] := fun e => h0 (by rw [Lib.size_eq, e]; rfl)
    by_cases h60 : 60 < s.size
    · have HR := Lib.hid (show nerr s.data.toList = 36 by unfold nerr; rw [if_neg hne, if_pos (by rw [← Lib.size_eq]; exact h60)])
      clear hne
      go_enter Try.func17, Try.ntmps17
      go_wp2_with fail
      go_ret
      exact ⟨by rw [HR.out]; rfl, Below.refl _ _⟩
    · have HF := Lib.hid (show nerr s.data.toList = if (decide ((0 : UInt8) ∈ s.data.toList) || decide ((47 : UInt8) ∈ s.data.toList)) = true then 22 else 0 by
        unfold nerr; rw [if_neg hne, if_neg (by rw [← Lib.size_eq]; exact h60)]; simp)
      clear hne
      have hA := fun w => rhas0 s _ w hm rfl
      have hB := fun w => rhas47 s _ w hm rfl
      generalize decide ((0 : UInt8) ∈ s.data.toList) = b0 at *
      generalize decide ((47 : UInt8) ∈ s.data.toList) = b47 at *
      unfold NameE
      cases b0
      · cases b47
        · go_enter Try.func17, Try.ntmps17
          go_wp2_with fail
          refine (hA _).mono ?_
          rintro e w' ⟨rfl, rfl⟩
          go_wp2_with fail
          refine (hB _).mono ?_
          rintro e w' ⟨rfl, rfl⟩
          go_wp2_with fail
          go_ret
          exact ⟨by rw [HF.out]; rfl, Below.refl _ _⟩
        · go_enter Try.func17, Try.ntmps17
          go_wp2_with fail
          refine (hA _).mono ?_
          rintro e w' ⟨rfl, rfl⟩
          go_wp2_with fail
          refine (hB _).mono ?_
          rintro e w' ⟨rfl, rfl⟩
          go_wp2_with fail
          go_ret
          exact ⟨by rw [HF.out]; rfl, Below.refl _ _⟩
      · go_enter Try.func17, Try.ntmps17
        go_wp2_with fail
        refine (hA _).mono ?_
        rintro e w' ⟨rfl, rfl⟩
        go_wp2_with fail
        go_ret
        exact ⟨by rw [HF.out]; rfl, Below.refl _ _⟩

theorem strs_lit (w : World) (B : Nat) (hB : B ≤ w.heap.size) : (w.alloc (.cells #[] 9)).ownsRow B 9 1 (.slice (some ⟨w.heap.size, 0, none⟩) 0 0) 0 [] :=
  World.ownsRow_lit w #[] 0 hB (by unfold maxLen; omega) (by simp)

set_option maxHeartbeats 2000000 in
theorem parts_any (s : ByteArray) (w : World) (hs : s.size ≤ 400) :
    Calls Try.prog 31 #[.string s] w (OwnE w (comps s.data.toList)) := by
  obtain ⟨i0, hi, hz0, hz1, hz2⟩ := info_parts info9
  have HL := Lib.hid (Lib.size_eq s)
  go_enter Try.func31, Try.ntmps31
  go_wp2_with fail
  go_loopg [3, 4, 5] (s.size + 1) (fun g v f i wr => ∃ (k j : Nat) (pre : List Bs), k ≤ j ∧ j ≤ s.size + 1 ∧ g + j = s.size + 1 ∧ f = .int .i64 k ∧ i = .int .i64 j ∧ (j = s.size + 1 → k = s.size + 1) ∧ pre.length ≤ k ∧
      Hid (comps s.data.toList = pre ++ comps (s.data.toList.drop k)) ∧ Hid (∀ c ∈ (s.data.toList.drop k).take (j - k), c ≠ 47) ∧
      wr.ownsRow w.heap.size 9 1 v pre.length (pre.map Sv) ∧ Below w.heap.size w wr)
  case atStart => exact ⟨0, 0, [], by omega, by omega, by omega, rfl, rfl, by omega, by simp, (by show _ = _; simp), (by show ∀ _, _; simp), strs_lit w _ (Nat.le_refl _), below_alloc w _⟩
  case round =>
    obtain ⟨k, j, pre, hkj, hj, hg, rfl, rfl, hend, hp, HC, HN, hown, hb⟩ := hrel
    by_cases hjl : j < s.size
    · have hjL : j < s.data.toList.length := by rw [← Lib.size_eq]; exact hjl
      clear hend
      by_cases h47 : s[j] = 47
      · have hT : (((s[j]).toNat : Int) == 47) = true := by rw [h47]; rfl
        have HS := Lib.hid (comps_step s.data.toList k j hkj hjL HN.out (by rw [← getD_data s j hjl]; exact h47))
        clear h47
        by_cases hjk : k < j
        · go_wp2_with (at_builtin; go_must (refine wpList_append_own _ rfl (.tmp 26) (.tmp 31) 23 rfl w.heap.size 9 i0 _ 1 16 Try.underlying23 hi hz0 hz1 hz2 rfl (by decide) u3 pre.length (pre.map Sv) rfl (hown.alloc _) ⟨wr.heap.size, 0, none⟩ 1 1 [.string (s.extract k j)] rfl rfl (cell_one_new _ _ _) (by intro u hu; simp at hu; subst hu; rfl) (by unfold maxLen; omega) (by omega) (by have := hb.size; simp; omega) ?_); intro v1 w1 hown1 hgrow1 _)
          go_roundg (gk - 1)
          case measure => omega
          case rel =>
            have HS' := HS.out
            rw [one_ne _ (by intro h; have := congrArg List.length h; simp at this; omega)] at HS'
            refine ⟨j + 1, j + 1, pre ++ [(s.data.toList.drop k).take (j - k)], by omega, by omega, by omega, by go_num, by go_num, by omega, by simp; omega, ?_, ?_, ?_, ?_⟩
            · show _ = _
              rw [HC.out, HS', List.append_assoc]
            · show ∀ _, _
              simp
            · rw [ex_list] at hown1
              simpa using hown1
            · exact (hb.alloc hb.size _).grown hgrow1 (by have := hb.size; simp; omega) (fun g hg' => (hown.lt g hg').1)
        · have hje : j = k := by omega
          subst hje
          go_wp2_with fail
          go_roundg (gk - 1)
          case measure => omega
          case rel =>
            have HS' := HS.out
            rw [Nat.sub_self, List.take_zero, one_nil, List.nil_append] at HS'
            exact ⟨j + 1, j + 1, pre, by omega, by omega, by omega, by go_num, by go_num, by omega, by omega, (by show _ = _; rw [HC.out, HS']), (by show ∀ _, _; simp), hown, hb⟩
      · have hT : (((s[j]).toNat : Int) == 47) = false := by
          rw [beq_eq_false_iff_ne]
          intro h
          exact h47 (UInt8.toNat_inj.1 (by have : s[j].toNat = 47 := by omega
                                           simpa using this))
        have HN' : Hid (∀ c ∈ (s.data.toList.drop k).take (j + 1 - k), c ≠ 47) := by
          show ∀ _, _
          rw [drop_take_snoc _ _ _ hkj hjL]
          intro c hc
          rw [List.mem_append, List.mem_singleton] at hc
          rcases hc with hc | rfl
          · exact HN.out c hc
          · rw [← getD_data s j hjl]; exact h47
        clear h47
        go_wp2_with fail
        go_roundg (gk - 1)
        case measure => omega
        case rel => exact ⟨k, j + 1, pre, by omega, by omega, by omega, rfl, by go_num, by omega, hp, HC, HN', hown, hb⟩
    · by_cases hje : j = s.size
      · subst hje
        clear hend
        by_cases hjk : k < s.size
        · have HS := Lib.hid (comps_last s.data.toList k (by rw [← Lib.size_eq]; exact hjk) (by rw [← Lib.size_eq]; exact HN.out))
          go_wp2_with (at_builtin; go_must (refine wpList_append_own _ rfl (.tmp 26) (.tmp 31) 23 rfl w.heap.size 9 i0 _ 1 16 Try.underlying23 hi hz0 hz1 hz2 rfl (by decide) u3 pre.length (pre.map Sv) rfl (hown.alloc _) ⟨wr.heap.size, 0, none⟩ 1 1 [.string (s.extract k s.size)] rfl rfl (cell_one_new _ _ _) (by intro u hu; simp at hu; subst hu; rfl) (by unfold maxLen; omega) (by omega) (by have := hb.size; simp; omega) ?_); intro v1 w1 hown1 hgrow1 _)
          go_roundg (gk - 1)
          case measure => omega
          case rel =>
            refine ⟨s.size + 1, s.size + 1, pre ++ [(s.data.toList.drop k).take (s.size - k)], by omega, by omega, by omega, by go_num, by go_num, by omega, by simp; omega, ?_, ?_, ?_, ?_⟩
            · show _ = _
              have e1 : s.data.toList.drop (s.size + 1) = [] := List.drop_eq_nil_of_le (by rw [← HL.out]; omega)
              rw [e1, comps_nil, List.append_nil, HC.out, HS.out, ← HL.out]
            · show ∀ _, _
              simp
            · rw [ex_list] at hown1
              simpa using hown1
            · exact (hb.alloc hb.size _).grown hgrow1 (by have := hb.size; simp; omega) (fun g hg' => (hown.lt g hg').1)
        · have hke : k = s.size := by omega
          subst hke
          go_wp2_with fail
          go_roundg (gk - 1)
          case measure => omega
          case rel =>
            refine ⟨s.size + 1, s.size + 1, pre, by omega, by omega, by omega, by go_num, by go_num, by omega, by omega, ?_, ?_, hown, hb⟩
            · show _ = _
              rw [HC.out, List.drop_eq_nil_of_le (by rw [← HL.out]; omega), List.drop_eq_nil_of_le (by rw [← HL.out]; omega)]
            · show ∀ _, _
              simp
      · have hk1 := hend (by omega)
        have HF := Lib.hid (show comps s.data.toList = pre by rw [HC.out, List.drop_eq_nil_of_le (by rw [← HL.out]; omega), comps_nil, List.append_nil])
        have hkl : ¬ ((j : Int) ≤ (s.size : Int)) := by omega
        clear hend hjl hje hk1
        go_wp2_with fail
        go_ret
        rw [HF.out]
        exact ownE_of hown hb
end Go.Proofs.Ytlaceeiodlpmdaa
