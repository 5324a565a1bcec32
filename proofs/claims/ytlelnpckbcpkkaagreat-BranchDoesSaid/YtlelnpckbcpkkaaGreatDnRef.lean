/- The document's answer by definition: 'has', 'Name', 'Less': what they hand back. -/
import Derived.Test.YtlelnpckbcpkkaaGreatZa
import Derived.RegionTactic
import Derived.BigRegion
namespace Go.Proofs.YtlelnpckbcpkkaaGreat.dn
open Go.RowKit Go.Shelf
set_option linter.unusedVariables false


theorem getD_data (s : ByteArray) (j : Nat) (h : j < s.size) : s[j] = s.data.toList[j]'(by rw [← Lib.size_eq]; exact h) := by rfl

set_option maxRecDepth 100000 in
set_option maxHeartbeats 1000000 in
theorem rhas_any (s : ByteArray) (c : UInt8) (b : Bool) (w : World) (hm : s.size ≤ 9223372036854775807) (hb : decide (c ∈ s.data.toList) = b) : Calls Tryz.prog 132 #[.string s, .int .u8 (c.toNat : Int)] w fun e w' => e = .returned (.bool b) ∧ w = w' := by
  have HB := Lib.hid hb
  clear hb
  go_enter Tryz.func132, Tryz.ntmps132
  go_wp2_with fail
  go_loopg [5] s.size (fun g i wr => ∃ j : Nat, j ≤ s.size ∧ g + j = s.size ∧ i = .int .i64 j ∧ Hid (∀ x ∈ s.data.toList.take j, x ≠ c) ∧ w = wr)
  case atStart => exact ⟨0, by omega, by omega, rfl, (by show ∀ _, _; simp), rfl⟩
  case round =>
    obtain ⟨j, hj, hg, rfl, HN, rfl⟩ := hrel
    by_cases hjl : j < s.size
    · have hjL : j < s.data.toList.length := by rw [← Lib.size_eq]; exact hjl
      by_cases h : s[j] = c
      · have hT : (((s[j]).toNat : Int) == (c.toNat : Int)) = true := by rw [h]; simp
        have hbt : b = true := by
          rw [← HB.out]
          exact decide_eq_true (by rw [← h, getD_data s j hjl]; exact List.getElem_mem _)
        subst hbt
        clear h
        go_wp2_with fail
        try rw [Exit.noGoto_ret]
        go_ret
        exact ⟨rfl, rfl⟩
      · have hT : (((s[j]).toNat : Int) == (c.toNat : Int)) = false := by
          rw [beq_eq_false_iff_ne]
          intro e
          exact h (UInt8.toNat_inj.1 (by omega))
        have HN' : Hid (∀ x ∈ s.data.toList.take (j + 1), x ≠ c) := by
          show ∀ _, _
          rw [List.take_succ_eq_append_getElem hjL]
          intro x hx
          rw [List.mem_append, List.mem_singleton] at hx
          rcases hx with hx | rfl
          · exact HN.out x hx
          · rw [← getD_data s j hjl]; exact h
        clear h
        go_wp2_with fail
        go_roundg (gk - 1)
        case measure => omega
        case rel => exact ⟨j + 1, by omega, by omega, by go_num, HN', rfl⟩
    · have hbt : b = false := by
        rw [← HB.out]
        refine decide_eq_false (fun hc => ?_)
        have := HN.out c (by rw [List.take_of_length_le (by rw [← Lib.size_eq]; omega)]; exact hc)
        exact this rfl
      subst hbt
      have hkl : ¬ ((j : Int) < (s.size : Int)) := by omega
      clear hjl
      go_wp2_with fail
      go_ret
      exact ⟨rfl, rfl⟩

set_option maxRecDepth 100000 in
theorem rhas0 (s : ByteArray) (b : Bool) (w : World) (hm : s.size ≤ 9223372036854775807) (hb : decide ((0 : UInt8) ∈ s.data.toList) = b) : Calls Tryz.prog 132 #[.string s, .int .u8 0] w fun e w' => e = .returned (.bool b) ∧ w = w' := rhas_any s 0 b w hm hb
set_option maxRecDepth 100000 in
theorem rhas47 (s : ByteArray) (b : Bool) (w : World) (hm : s.size ≤ 9223372036854775807) (hb : decide ((47 : UInt8) ∈ s.data.toList) = b) : Calls Tryz.prog 132 #[.string s, .int .u8 47] w fun e w' => e = .returned (.bool b) ∧ w = w' := rhas_any s 47 b w hm hb

set_option maxRecDepth 100000 in
set_option maxHeartbeats 1000000 in
theorem rname_any (s : ByteArray) (w : World) (hm : s.size ≤ 9223372036854775807) : Calls Tryz.prog 124 #[.string s] w (NameE w s.data.toList) := by
  by_cases h0 : s.size = 0
  · have HR := Lib.hid (show nerr s.data.toList = 2 by unfold nerr; rw [if_pos (List.eq_nil_of_length_eq_zero (by rw [← Lib.size_eq]; exact h0))])
    go_enter Tryz.func124, Tryz.ntmps124
    go_wp2_with fail
    go_ret
    exact ⟨by rw [HR.out]; rfl, Below.refl _ _⟩
  · have hne : s.data.toList ≠ [] := fun e => h0 (by rw [Lib.size_eq, e]; rfl)
    by_cases h60 : 60 < s.size
    · have HR := Lib.hid (show nerr s.data.toList = 36 by unfold nerr; rw [if_neg hne, if_pos (by rw [← Lib.size_eq]; exact h60)])
      clear hne
      go_enter Tryz.func124, Tryz.ntmps124
      go_wp2_with fail
      go_ret
      exact ⟨by rw [HR.out]; rfl, Below.refl _ _⟩
    · have HF := Lib.hid (show nerr s.data.toList = if (decide ((0 : UInt8) ∈ s.data.toList) || decide ((47 : UInt8) ∈ s.data.toList)) = true then 22 else 0 by
        unfold nerr; rw [if_neg hne, if_neg (by rw [← Lib.size_eq]; exact h60)]; simp)
      clear hne
      have hA := fun w => rhas0 s _ w hm rfl
      have hB := fun w => rhas47 s _ w hm rfl
      generalize decide ((0 : UInt8) ∈ s.data.toList) = b0 at *
      generalize decide ((47 : UInt8) ∈ s.data.toList) = b47 at *
      unfold NameE
      cases b0
      · cases b47
        · go_enter Tryz.func124, Tryz.ntmps124
          go_wp2_with fail
          refine (hA _).mono ?_
          rintro e w' ⟨rfl, rfl⟩
          go_wp2_with fail
          refine (hB _).mono ?_
          rintro e w' ⟨rfl, rfl⟩
          go_wp2_with fail
          go_ret
          exact ⟨by rw [HF.out]; rfl, Below.refl _ _⟩
        · go_enter Tryz.func124, Tryz.ntmps124
          go_wp2_with fail
          refine (hA _).mono ?_
          rintro e w' ⟨rfl, rfl⟩
          go_wp2_with fail
          refine (hB _).mono ?_
          rintro e w' ⟨rfl, rfl⟩
          go_wp2_with fail
          go_ret
          exact ⟨by rw [HF.out]; rfl, Below.refl _ _⟩
      · go_enter Tryz.func124, Tryz.ntmps124
        go_wp2_with fail
        refine (hA _).mono ?_
        rintro e w' ⟨rfl, rfl⟩
        go_wp2_with fail
        go_ret
        exact ⟨by rw [HF.out]; rfl, Below.refl _ _⟩

theorem bl_pre (p a b : Bs) : Op.bytesLess (p ++ a) (p ++ b) = Op.bytesLess a b := by
  induction p with
  | nil => rfl
  | cons x p ih => simp [Op.bytesLess, ih]
theorem bl_at (a b : Bs) (j : Nat) (h : a.take j = b.take j) : Op.bytesLess a b = Op.bytesLess (a.drop j) (b.drop j) := by
  conv => lhs; rw [← List.take_append_drop j a, ← List.take_append_drop j b, h]
  exact bl_pre _ _ _
theorem bl_head (x y : UInt8) (a b : Bs) (h : x ≠ y) : Op.bytesLess (x :: a) (y :: b) = decide (x.toNat < y.toNat) := by
  have h2 : (x == y) = false := by simpa using h
  simp only [Op.bytesLess, h2, Bool.false_and, Bool.or_false]
  by_cases hl : x < y
  · rw [decide_eq_true hl, decide_eq_true (UInt8.lt_iff_toNat_lt.1 hl)]
  · rw [decide_eq_false hl, decide_eq_false (fun e => hl (UInt8.lt_iff_toNat_lt.2 e))]
theorem bl_nil (a b : Bs) (h : a = [] ∨ b = []) : Op.bytesLess a b = decide (a.length < b.length) := by
  cases a with
  | nil => cases b <;> simp [Op.bytesLess]
  | cons x a =>
    rcases h with h | h
    · exact absurd h (by simp)
    · subst h; simp [Op.bytesLess]

set_option maxRecDepth 100000 in
set_option maxHeartbeats 2000000 in
theorem rless_any (a b : ByteArray) (w : World) (ha : a.size ≤ 9223372036854775807) (hb : b.size ≤ 9223372036854775807) : Calls Tryz.prog 125 #[.string a, .string b] w fun e w' => e = .returned (.bool (lessB a b)) ∧ Below w.heap.size w w' := by
  have HB : ∀ r, Op.bytesLess a.data.toList b.data.toList = r → Hid (lessB a b = r) := fun r h => Lib.hid (by rw [← h]; simp [lessB, Lib.toList_data])
  go_enter Tryz.func125, Tryz.ntmps125
  go_wp2_with fail
  go_loopg [5] a.size (fun g i wr => ∃ j : Nat, j ≤ a.size ∧ j ≤ b.size ∧ g + j = a.size ∧ i = .int .i64 j ∧ Hid (a.data.toList.take j = b.data.toList.take j) ∧ Below w.heap.size w wr)
  case atStart => exact ⟨0, by omega, by omega, by omega, rfl, Lib.hid (by simp), Below.refl _ _⟩
  case round =>
    obtain ⟨j, hja, hjb, hg, rfl, HT, hbr⟩ := hrel
    by_cases h1 : j < a.size
    · by_cases h2 : j < b.size
      · have hA : j < a.data.toList.length := by rw [← Lib.size_eq]; exact h1
        have hB : j < b.data.toList.length := by rw [← Lib.size_eq]; exact h2
        have dA : a.data.toList.drop j = a[j] :: a.data.toList.drop (j + 1) := by rw [List.drop_eq_getElem_cons hA, getD_data a j h1]
        have dB : b.data.toList.drop j = b[j] :: b.data.toList.drop (j + 1) := by rw [List.drop_eq_getElem_cons hB, getD_data b j h2]
        by_cases h : a[j] = b[j]
        · have hT : (((a[j]).toNat : Int) != ((b[j]).toNat : Int)) = false := by rw [h]; simp
          have HT' := Lib.hid (show a.data.toList.take (j + 1) = b.data.toList.take (j + 1) by
            rw [List.take_succ_eq_append_getElem hA, List.take_succ_eq_append_getElem hB, HT.out, ← getD_data a j h1, ← getD_data b j h2, h])
          clear h dA dB HB
          go_wp2_with fail
          go_region
          all_goals
            go_wp2_with fail
            go_roundg (gk - 1)
            case measure => omega
            case rel => exact ⟨j + 1, by omega, by omega, by omega, by go_num, HT', hbr.drew⟩
        · have hT : (((a[j]).toNat : Int) != ((b[j]).toNat : Int)) = true := by
            rw [bne_iff_ne]; intro e; exact h (UInt8.toNat_inj.1 (by omega))
          have HR := HB (decide ((a[j]).toNat < (b[j]).toNat)) (by rw [bl_at _ _ j HT.out, dA, dB, bl_head _ _ _ _ h])
          clear h dA dB HB
          go_wp2_with fail
          go_region
          all_goals
            go_wp2_with fail
            go_region
            all_goals
              go_wp2_with fail
              try rw [Exit.noGoto_ret]
              go_ret
              exact ⟨by rw [HR.out]; rfl, hbr.drew.drew⟩
      · have HR := HB (decide (a.size < b.size)) (by
          rw [bl_at _ _ j HT.out, bl_nil _ _ (.inr (List.drop_eq_nil_of_le (by rw [← Lib.size_eq]; omega))), List.length_drop, List.length_drop, ← Lib.size_eq, ← Lib.size_eq]
          rw [Bool.eq_iff_iff]; simp; omega)
        have hjn : ¬ ((j : Int) < (b.size : Int)) := by omega
        clear HB h2
        go_wp2_with fail
        go_ret
        exact ⟨by rw [HR.out]; rfl, hbr⟩
    · have HR := HB (decide (a.size < b.size)) (by
        rw [bl_at _ _ j HT.out, bl_nil _ _ (.inl (List.drop_eq_nil_of_le (by rw [← Lib.size_eq]; omega))), List.length_drop, List.length_drop, ← Lib.size_eq, ← Lib.size_eq]
        rw [Bool.eq_iff_iff]; simp; omega)
      have hjn : ¬ ((j : Int) < (a.size : Int)) := by omega
      clear HB h1
      go_wp2_with fail
      go_ret
      exact ⟨by rw [HR.out]; rfl, hbr⟩
end Go.Proofs.YtlelnpckbcpkkaaGreat.dn
