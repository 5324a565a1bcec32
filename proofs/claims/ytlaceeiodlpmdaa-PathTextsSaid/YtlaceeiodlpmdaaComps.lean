/- 'components': it hands back the components of any text that is not too long, in memory of its own. -/
import Derived.Test.YtlaceeiodlpmdaaMem
namespace Go.Proofs.Ytlaceeiodlpmdaa
open Go.RowKit

def OwnE (w : World) (xs : List Bs) (e : Ending) (w' : World) : Prop := ∃ A c, e = .returned (.slice A xs.length c) ∧ Own w' w.heap.size A c xs ∧ Below w.heap.size w w'

theorem ownE_of {w w' : World} {v : Value} {n : Nat} {xs : List Bs} (h : w'.ownsRow w.heap.size 9 1 v n (xs.map Sv)) (hb : Below w.heap.size w w') : OwnE w xs (.returned v) w' := by
  obtain ⟨A, c, rfl, ho, -⟩ := own_form h
  exact ⟨A, c, rfl, ho, hb⟩

theorem ex_list (s : ByteArray) (k j : Nat) : Value.string (s.extract k j) = Sv ((s.data.toList.drop k).take (j - k)) := by rw [Lib.extract_eq]

/-- One component more, in front of a slash. -/
theorem comps_step (L : Bs) (k j : Nat) (hkj : k ≤ j) (hj : j < L.length) (hn : ∀ c ∈ (L.drop k).take (j - k), c ≠ 47) (h : L[j] = 47) :
    comps (L.drop k) = one ((L.drop k).take (j - k)) ++ comps (L.drop (j + 1)) := by
  have e : L.drop k = (L.drop k).take (j - k) ++ 47 :: L.drop (j + 1) := by
    have h1 : (L.drop k).drop (j - k) = 47 :: L.drop (j + 1) := by
      rw [List.drop_drop, show k + (j - k) = j from by omega, List.drop_eq_getElem_cons hj, h]
    rw [← h1, List.take_append_drop]
  conv => lhs; rw [e]
  rw [comps_mid, comps_one _ hn]
theorem comps_last (L : Bs) (k : Nat) (hk : k < L.length) (hn : ∀ c ∈ (L.drop k).take (L.length - k), c ≠ 47) : comps (L.drop k) = [(L.drop k).take (L.length - k)] := by
  have e : L.drop k = (L.drop k).take (L.length - k) := (List.take_of_length_le (by simp)).symm
  conv => lhs; rw [e]
  rw [comps_one _ hn, one_ne]
  intro h
  have := congrArg List.length h
  simp at this
  omega

theorem getD_data (s : ByteArray) (j : Nat) (h : j < s.size) : s[j] = s.data.toList[j]'(by rw [← Lib.size_eq]; exact h) := by rfl

set_option maxHeartbeats 1000000 in
theorem components_any (s : ByteArray) (w : World) (hs : s.size ≤ 400) :
    Calls Try.prog 28 #[.string s] w (OwnE w (comps s.data.toList)) := by
  obtain ⟨i0, hi, hz0, hz1, hz2⟩ := info_parts info9
  have HL := Lib.hid (Lib.size_eq s)
  go_enter Try.func28, Try.ntmps28
  go_wp2
  go_step3
  go_wp2
  go_step3
  go_wp2
  go_loopg [3, 4] s.size (fun g v i wr => ∃ (k : Nat) (pre : List Bs), k ≤ s.size ∧ g + k = s.size ∧ i = .int .i64 k ∧ Hid (comps s.data.toList = pre ++ comps (s.data.toList.drop k)) ∧ pre.length ≤ k ∧
      wr.ownsRow w.heap.size 9 1 v pre.length (pre.map Sv) ∧ Below w.heap.size w wr)
  case atStart => exact ⟨0, [], by omega, by omega, rfl, (by show _ = _; simp), by simp, World.ownsRow_nil _ _ _ _, Below.refl _ _⟩
  case round =>
    obtain ⟨k, pre, hk, hg, rfl, HC, hp, hown, hb⟩ := hrel
    by_cases hlt : k < s.size
    · go_wp2
      go_loopg [3, 4, 5] s.size (fun g2 v3 v4 e wy => u3 = v3 ∧ v4 = .int .i64 k ∧ ∃ j : Nat, k ≤ j ∧ j ≤ s.size ∧ g2 + j = s.size + k ∧ e = .int .i64 j ∧ Hid (∀ c ∈ (s.data.toList.drop k).take (j - k), c ≠ 47) ∧ wr = wy)
      case atStart => exact ⟨rfl, rfl, k, Nat.le_refl _, hk, by omega, rfl, (by show ∀ _, _; simp), rfl⟩
      case round =>
        obtain ⟨rfl, rfl, j, hkj, hj, hg2, rfl, HN, rfl⟩ := hrel
        by_cases hjl : j < s.size
        · have hjL : j < s.data.toList.length := by rw [← Lib.size_eq]; exact hjl
          by_cases h47 : s[j] = 47
          · have hT : (((s[j]).toNat : Int) != 47) = false := by rw [h47]; rfl
            have HS := Lib.hid (comps_step s.data.toList k j hkj hjL HN.out (by rw [← getD_data s j hjl]; exact h47))
            clear h47
            by_cases hjk : k < j
            · go_wp2_with (at_builtin; refine wpList_append_own _ rfl (.tmp 24) (.tmp 29) 23 rfl w.heap.size 9 i0 _ 1 16 Try.underlying23 hi hz0 hz1 hz2 rfl (by decide) u3 pre.length (pre.map Sv) rfl (hown.alloc _) ⟨wr.heap.size, 0, none⟩ 1 1 [.string (s.extract k j)] rfl rfl (cell_one_new _ _ _) (by intro u hu; simp at hu; subst hu; rfl) (by unfold maxLen; omega) (by omega) (by have := hb.size; simp; omega) ?_; intro v1 w1 hown1 hgrow1 _)
              go_roundg (s.size - (j + 1))
              case measure => omega
              case rel =>
                have HS' := HS.out
                rw [one_ne _ (by intro h; have := congrArg List.length h; simp at this; omega)] at HS'
                refine ⟨j + 1, pre ++ [(s.data.toList.drop k).take (j - k)], by omega, by omega, by go_num, ?_, by simp; omega, ?_, ?_⟩
                · show _ = _
                  rw [HC.out, HS', List.append_assoc]
                · rw [ex_list] at hown1
                  simpa using hown1
                · exact (hb.alloc hb.size _).grown hgrow1 (by have := hb.size; simp; omega) (fun g hg' => (hown.lt g hg').1)
            · have hje : j = k := by omega
              subst hje
              go_wp2
              go_roundg (s.size - (j + 1))
              case measure => omega
              case rel =>
                have HS' := HS.out
                rw [Nat.sub_self, List.take_zero, one_nil, List.nil_append] at HS'
                exact ⟨j + 1, pre, by omega, by omega, by go_num, (by show _ = _; rw [HC.out, HS']), by omega, hown, hb⟩
          · have hT : (((s[j]).toNat : Int) != 47) = true := by
              simp only [bne_iff_ne, ne_eq]
              intro h
              exact h47 (UInt8.toNat_inj.1 (by have : s[j].toNat = 47 := by omega
                                               simpa using this))
            have HN' : Hid (∀ c ∈ (s.data.toList.drop k).take (j + 1 - k), c ≠ 47) := by
              show ∀ _, _
              rw [drop_take_snoc _ _ _ hkj hjL]
              intro c hc
              rw [List.mem_append, List.mem_singleton] at hc
              rcases hc with hc | rfl
              · exact HN.out c hc
              · rw [← getD_data s j hjl]; exact h47
            clear h47
            go_wp2
            go_roundg (gk - 1)
            case measure => omega
            case rel => exact ⟨rfl, rfl, j + 1, by omega, by omega, by omega, by go_num, HN', rfl⟩
        · have hje : j = s.size := by omega
          have HS := Lib.hid (comps_last s.data.toList k (by rw [← Lib.size_eq]; exact hlt) (by rw [← Lib.size_eq, ← hje]; exact HN.out))
          clear hjl
          have hjl : ¬ ((j : Int) < (s.size : Int)) := by omega
          clear hje
          go_wp2_with (at_builtin; refine wpList_append_own _ rfl (.tmp 33) (.tmp 37) 23 rfl w.heap.size 9 i0 _ 1 16 Try.underlying23 hi hz0 hz1 hz2 rfl (by decide) u3 pre.length (pre.map Sv) rfl (hown.alloc _) ⟨wr.heap.size, 0, none⟩ 1 1 [.string (s.extract k s.size)] rfl rfl (cell_one_new _ _ _) (by intro u hu; simp at hu; subst hu; rfl) (by unfold maxLen; omega) (by omega) (by have := hb.size; simp; omega) ?_; intro v1 w1 hown1 hgrow1 _)
          try rw [Exit.noGoto_ret]
          go_ret
          have hfin : comps s.data.toList = pre ++ [(s.data.toList.drop k).take (s.size - k)] := by rw [HC.out, HS.out, HL.out]
          rw [hfin]
          rw [ex_list] at hown1
          refine ownE_of (n := pre.length + 1) (by simpa using hown1) ?_
          exact (hb.alloc hb.size _).grown hgrow1 (by have := hb.size; simp; omega) (fun g hg' => (hown.lt g hg').1)
    · have hje : k = s.size := by omega
      have hfin : comps s.data.toList = pre := by
        rw [HC.out, List.drop_eq_nil_of_le (by rw [← Lib.size_eq]; omega), comps_nil, List.append_nil]
      have HF := Lib.hid hfin
      have hkl : ¬ ((k : Int) < (s.size : Int)) := by omega
      clear hje hfin hlt
      go_wp2
      try rw [Exit.noGoto_ret]
      go_ret
      rw [HF.out]
      exact ownE_of hown hb
end Go.Proofs.Ytlaceeiodlpmdaa
