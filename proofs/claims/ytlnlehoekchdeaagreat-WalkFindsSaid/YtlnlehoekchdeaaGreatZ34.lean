/- The document's own 'Set'. -/
import Derived.Test.YtlnlehoekchdeaaGreatZ33
section
namespace Go.Proofs.YtlnlehoekchdeaaGreat.dn
open Go.RowKit Go.Shelf
set_option linter.unusedVariables false


/-- One round of the document's Set: what is laid out so far, and whether the new entry is in. -/
def rstep (s : ByteArray) (v : Int) (st : List En × Bool) (x : En) : List En × Bool :=
  let st1 := if !st.2 && !lessB x.1 s then (st.1 ++ [(s, v)], true) else st
  (if x.1 = s then st1.1 else st1.1 ++ [x], st1.2)
def rfold (s : ByteArray) (v : Int) (l : List En) : List En × Bool := l.foldl (rstep s v) ([], false)
theorem rfold_next {s : ByteArray} {v : Int} {L : List En} {k : Nat} {x : En} (hx : L[k]? = some x) : rfold s v (L.take (k + 1)) = rstep s v (rfold s v (L.take k)) x := by
  unfold rfold
  rw [List.take_add_one, hx, List.foldl_append]
  rfl
theorem rfold_done (s : ByteArray) (v : Int) (l : List En) (out : List En) (h : ∀ x ∈ l, x.1 ≠ s) : l.foldl (rstep s v) (out, true) = (out ++ l, true) := by
  induction l generalizing out with
  | nil => simp
  | cons x l ih =>
    rw [List.foldl_cons]
    have : rstep s v (out, true) x = (out ++ [x], true) := by simp [rstep, h x (by simp)]
    rw [this, ih _ (fun y hy => h y (by simp [hy]))]
    simp
theorem rfold_lset (s : ByteArray) (v : Int) (l out : List En) (h : Sorted l) : (let st := l.foldl (rstep s v) (out, false); if st.2 then st.1 else st.1 ++ [(s, v)]) = out ++ lset s v l := by
  induction l generalizing out with
  | nil => simp [lset]
  | cons x l ih =>
    obtain ⟨h1, h2⟩ := h.cons
    rw [List.foldl_cons]
    unfold lset
    by_cases hx : lessB x.1 s = true
    · rw [if_pos hx]
      have : rstep s v (out, false) x = (out ++ [x], false) := by simp [rstep, hx, less_ne hx]
      rw [this, ih _ h1]
      simp
    · rw [if_neg hx]
      have hx' : lessB x.1 s = false := by simpa using hx
      by_cases hs : x.1 = s
      · rw [if_pos hs]
        have : rstep s v (out, false) x = (out ++ [(s, v)], true) := by simp [rstep, hs, less_irrefl]
        rw [this, rfold_done s v l _ (fun y hy e => less_ne (h2 y hy) (hs.trans e.symm))]
        simp
      · rw [if_neg hs]
        have : rstep s v (out, false) x = (out ++ [(s, v)] ++ [x], true) := by simp [rstep, hx', hs]
        rw [this, rfold_done s v l _ (fun y hy e => less_ne (less_trans (less_of hs hx') (h2 y hy)) e.symm)]
        simp
theorem rfold_all {s : ByteArray} {v : Int} {L K : List En} {d : Bool} (h : Sorted L) (hf : rfold s v L = (K, d)) : lset s v L = if d then K else K ++ [(s, v)] := by
  have := rfold_lset s v L [] h
  unfold rfold at hf
  rw [hf] at this
  simpa using this.symm

set_option maxRecDepth 100000 in
set_option maxHeartbeats 1000000 in
theorem rset_name (D lo c : Nat) (o : Option Nat) (L : List En) (s : ByteArray) (v : Int) (w : World) (hm : s.size ≤ 9223372036854775807) (h : Du w D lo o c L) (he : nerr s.data.toList ≠ 0) :
    Calls Tryz.prog 54 #[Pq D, .string s, .int .i64 v] w (StepE w D lo o (.int .i64 (nerr s.data.toList)) L) := by
  have HN := Lib.hid (rname_any s w hm)
  unfold NameE at HN
  have HF := Lib.hid (fun w' hb => stepE_same (v := .int .i64 (nerr s.data.toList)) (w' := w') h hb)
  generalize nerr s.data.toList = r at *
  have hr : (r != 0) = true := by simpa using he
  have hr2 : (r == 0) = false := by simpa using he
  clear h he
  go_enter Tryz.func54, Tryz.ntmps54
  go_wp2_with fail
  refine HN.out.mono ?_
  rintro e w2 ⟨rfl, hb2⟩
  go_wp2_with fail
  go_ret
  exact HF.out _ hb2
set_option maxRecDepth 100000 in
set_option maxHeartbeats 1000000 in
theorem rset_dot (D lo c : Nat) (o : Option Nat) (L : List En) (s : ByteArray) (v : Int) (w : World) (hm : s.size ≤ 9223372036854775807) (h : Du w D lo o c L) (he : nerr s.data.toList = 0) (hd : dotB s = true ∨ v < 1) :
    Calls Tryz.prog 54 #[Pq D, .string s, .int .i64 v] w (StepE w D lo o (.int .i64 22) L) := by
  have HN := Lib.hid (rname_any s w hm)
  unfold NameE at HN
  rw [he] at HN
  have HF := Lib.hid (fun w' hb => stepE_same (v := .int .i64 22) (w' := w') h hb)
  unfold dotB at hd
  obtain ⟨q1, h1⟩ : ∃ a, (s.toList == [46]) = a := ⟨_, rfl⟩
  obtain ⟨q2, h2⟩ : ∃ a, (s.toList == [46, 46]) = a := ⟨_, rfl⟩
  rw [h1, h2] at hd
  clear h he
  have hd' : q1 = true ∨ (q1 = false ∧ q2 = true) ∨ (q1 = false ∧ q2 = false ∧ v < 1) := by
    cases q1 <;> cases q2 <;> simp at hd ⊢ <;> exact hd
  clear hd
  rcases hd' with rfl | ⟨rfl, rfl⟩ | ⟨rfl, rfl, hv⟩
  all_goals
    go_enter Tryz.func54, Tryz.ntmps54
    go_wp2_with fail
    refine HN.out.mono ?_
    rintro e w2 ⟨rfl, hb2⟩
    go_wp2_with fail
    go_ret
    exact HF.out _ hb2

set_option maxHeartbeats 8000000 in
set_option maxRecDepth 100000 in
theorem rset_ok (D lo c : Nat) (o : Option Nat) (L : List En) (s : ByteArray) (v : Int) (w : World) (hm : s.size ≤ 9223372036854775807) (hL : ∀ e ∈ L, e.1.size ≤ 9223372036854775807) (h : Du w D lo o c L) (hlo : lo ≤ w.heap.size) (hs : Sorted L) (hN : L.length ≤ 400000) (he : nerr s.data.toList = 0) (hd : dotB s = false) (hv : ¬ v < 1) :
    Calls Tryz.prog 54 #[Pq D, .string s, .int .i64 v] w (StepE w D lo o (.int .i64 0) (lset s v L)) := by
  obtain ⟨i0, hi, hz0, hz1, hz2⟩ := info_parts info37
  have HNA := Lib.hid (rname_any s w hm)
  unfold NameE at HNA
  rw [he] at HNA
  have HH := Lib.hid h
  have HLS := Lib.hid hL
  have HSO := Lib.hid hs
  have HLO := Lib.hid hlo
  have HST := Lib.hid (fun (w4 : World) (gg cap m : Nat) hb hg hr (hm : m = (lset s v L).length) => Du.laid (w4 := w4) (gg := gg) (cap := cap) (K := lset s v L) (vv := .int .i64 0) h hlo hb hg hr hm)
  have HALL := Lib.hid (fun K d (hf : rfold s v L = (K, d)) => rfold_all hs hf)
  have hq : (s.toList == [46]) = false ∧ (s.toList == [46, 46]) = false := by simpa [dotB] using hd
  obtain ⟨hq1, hq2⟩ := hq
  have HNX := Lib.hid (fun k x (hx : L[k]? = some x) => rfold_next (s := s) (v := v) hx)
  have H1 := Lib.hid (encL_one [(s, v)])
  generalize hn : L.length = n at *
  generalize hKK : lset s v L = KK at *
  have HN2 := Lib.hid hn
  have HKK := Lib.hid hKK
  clear hn h hlo hs he hd hL hKK
  go_enter Tryz.func54, Tryz.ntmps54
  go_wp2_with fail
  refine HNA.out.mono ?_
  rintro e w2 ⟨rfl, hb2⟩
  have HB2 := Lib.hid hb2
  have hE0 := Lib.hid (row_new w2)
  have HB0 := Lib.hid (below_step hb2 (below_alloc w2 (.cells #[] 123)))
  have hlg0 := hb2.size
  have d0 := (HH.out.below HB0.out).d0
  clear hb2 HNA
  go_wp2_with fail
  go_loopg [8, 9, 10] n (fun g s8 s9 s10 wr => ∃ (k m gg cap : Nat) (K : List En) (d : Bool), g + k = n ∧ s10 = .int .i64 k ∧ s9 = .bool d ∧ s8 = .slice (some ⟨gg, 0, none⟩) m cap ∧ m ≤ 2 * k ∧ w.heap.size ≤ gg ∧ Hid (rfold s v (L.take k) = (K, d)) ∧ Hid (m = K.length) ∧ Hid (ERow wr gg cap K) ∧ Hid (Below w.heap.size w wr))
  case atStart => exact ⟨0, 0, w2.heap.size, 0, [], false, by omega, rfl, rfl, rfl, Nat.le_refl _, hlg0, Lib.hid rfl, Lib.hid rfl, hE0, HB0⟩
  case round =>
    clear hE0 HB0 d0
    obtain ⟨k, m, gg, cap, K, d, hgk, rfl, rfl, rfl, hmk, hlg, HR, HM, HE, HB⟩ := hrel
    have HDr := Lib.hid (HH.out.below HB.out)
    have d0 := HDr.out.d0
    rw [HN2.out] at d0
    by_cases hkn : k < n
    · have hx : L[k]? = some (L[k]'(by rw [HN2.out]; exact hkn)) := List.getElem?_eq_getElem _
      have hxz := HLS.out _ (List.mem_of_getElem? hx)
      obtain ⟨G, rfl, f0, f1⟩ := HDr.out.at_ hx
      generalize L[k]'(by rw [HN2.out]; exact hkn) = x at *
      have HRN := Lib.hid ((HNX.out k x hx).trans (by rw [HR.out]))
      have HXK := Lib.hid hx
      obtain ⟨xs, xv⟩ := x
      dsimp only at f0 f1 hxz
      have HX1 := Lib.hid (encL_one [(xs, xv)])
      have HFA := Lib.hid (fun W (hb : Below w.heap.size w W) => (by
        obtain ⟨G4, hG4, q0, q1⟩ := (HH.out.below hb).at_ HXK.out
        obtain rfl : G = G4 := by injection hG4
        exact ⟨q0, q1⟩ : W.cell? ⟨G, k * 2, none⟩ = some (.string xs) ∧ W.cell? ⟨G, k * 2 + 1, none⟩ = some (.int .i64 xv)))
      have HC := Lib.hid (rless_any xs s wr hxz hm)
      obtain ⟨q, hq⟩ : ∃ q, lessB xs s = q := ⟨_, rfl⟩
      rw [hq] at HC
      have HQ := Lib.hid hq
      clear hx hq hxz HST HALL HNX
      cases d
      · cases q
        · by_cases hs : xs = s
          · have hqq : (xs.toList == s.toList) = true := by rw [beq_names]; exact decide_eq_true hs
            have HRS := Lib.hid (HRN.out.trans (show _ = (K ++ [(s, v)], true) by simp [rstep, hs, less_irrefl]))
            clear hs HRN
            go_wp2_with fail
            refine HC.out.mono ?_
            rintro e w3 ⟨rfl, hb3⟩
            have HB3 := Lib.hid (below_step HB.out hb3)
            have HE3 := Lib.hid (HE.out.of_block (hb3.block gg HE.out.lt))
            have d3 := (HH.out.below HB3.out).d0
            rw [HN2.out] at d3
            clear hb3 HC d0 f0 f1
            have HO4 := Lib.hid (app_owns HE3.out HM.out (below_alloc w3 (.cells #[.string s, .int .i64 v] 123)))
            have HX4 := Lib.hid (cells_of_box (x := (s, v)) (heap_alloc_new w3 (.cells #[.string s, .int .i64 v] 123)))
            have HBA4 := Lib.hid (below_step HB3.out (below_alloc w3 (.cells #[.string s, .int .i64 v] 123)))
            go_upto_region 13 with (at_builtin; refine wpList_append_lies _ (by rfl) _ _ _ (by rfl) 0 123 i0 _ 2 24 Tryz.underlying97 hi hz0 hz1 hz2 (by rfl) (by decide) _ _ _ (by rfl) HO4.out ⟨w3.heap.size, 0, none⟩ 1 1 (encL [(s, v)]) (by rfl) (by rfl) HX4.out H1.out (by omega) (by unfold maxLen; omega) (by omega) (Nat.zero_le _) _ rfl ?_; intro g4 cap4 w4 hown4 hgrow4 hat4 hlt4; have dd4 := (HH.out.below (below_grown_far HBA4.out hgrow4 hlg)).d0; rw [HN2.out] at dd4; have fa4 := (HFA.out _ (below_grown_far HBA4.out hgrow4 hlg)).1; have fb4 := (HFA.out _ (below_grown_far HBA4.out hgrow4 hlg)).2)
            have HE5 := Lib.hid (app_row hown4 HM.out)
            have HB5 := Lib.hid (below_grown_far HBA4.out hgrow4 hlg)
            have hg5 := lo_next hlg HBA4.out.size hat4
            clear hown4 hgrow4 hat4 hlt4 d3
            go_wp2_with fail
            go_roundg (gk - 1)
            case measure => omega
            case rel => exact ⟨k + 1, m + 1, g4, cap4, _, true, by omega, by go_num, rfl, rfl, by omega, hg5, HRS, Lib.hid (by rw [List.length_append, ← HM.out]; rfl), HE5, HB5⟩
          · have hqq : (xs.toList == s.toList) = false := by rw [beq_names]; exact decide_eq_false hs
            have HRS := Lib.hid (HRN.out.trans (show _ = (K ++ [(s, v)] ++ [(xs, xv)], true) by simp [rstep, HQ.out, hs]))
            clear hs HRN
            go_wp2_with fail
            refine HC.out.mono ?_
            rintro e w3 ⟨rfl, hb3⟩
            have HB3 := Lib.hid (below_step HB.out hb3)
            have HE3 := Lib.hid (HE.out.of_block (hb3.block gg HE.out.lt))
            have d3 := (HH.out.below HB3.out).d0
            rw [HN2.out] at d3
            clear hb3 HC d0 f0 f1
            have HO4 := Lib.hid (app_owns HE3.out HM.out (below_alloc w3 (.cells #[.string s, .int .i64 v] 123)))
            have HX4 := Lib.hid (cells_of_box (x := (s, v)) (heap_alloc_new w3 (.cells #[.string s, .int .i64 v] 123)))
            have HBA4 := Lib.hid (below_step HB3.out (below_alloc w3 (.cells #[.string s, .int .i64 v] 123)))
            go_upto_region 13 with (at_builtin; refine wpList_append_lies _ (by rfl) _ _ _ (by rfl) 0 123 i0 _ 2 24 Tryz.underlying97 hi hz0 hz1 hz2 (by rfl) (by decide) _ _ _ (by rfl) HO4.out ⟨w3.heap.size, 0, none⟩ 1 1 (encL [(s, v)]) (by rfl) (by rfl) HX4.out H1.out (by omega) (by unfold maxLen; omega) (by omega) (Nat.zero_le _) _ rfl ?_; intro g4 cap4 w4 hown4 hgrow4 hat4 hlt4; have dd4 := (HH.out.below (below_grown_far HBA4.out hgrow4 hlg)).d0; rw [HN2.out] at dd4; have fa4 := (HFA.out _ (below_grown_far HBA4.out hgrow4 hlg)).1; have fb4 := (HFA.out _ (below_grown_far HBA4.out hgrow4 hlg)).2)
            have HE5 := Lib.hid (app_row hown4 HM.out)
            have HB5 := Lib.hid (below_grown_far HBA4.out hgrow4 hlg)
            have hg5 := lo_next hlg HBA4.out.size hat4
            have HM5 := Lib.hid (show m + 1 = (K ++ [(s, v)]).length by rw [List.length_append, ← HM.out]; rfl)
            clear hown4 hgrow4 hat4 hlt4 d3
            have HO6 := Lib.hid (app_owns HE5.out HM5.out (below_alloc w4 (.cells #[.string xs, .int .i64 xv] 123)))
            have HX6 := Lib.hid (cells_of_box (x := (xs, xv)) (heap_alloc_new w4 (.cells #[.string xs, .int .i64 xv] 123)))
            have HBA6 := Lib.hid (below_step HB5.out (below_alloc w4 (.cells #[.string xs, .int .i64 xv] 123)))
            go_wp2_with (at_builtin; refine wpList_append_lies _ (by rfl) _ _ _ (by rfl) 0 123 i0 _ 2 24 Tryz.underlying97 hi hz0 hz1 hz2 (by rfl) (by decide) _ _ _ (by rfl) HO6.out ⟨w4.heap.size, 0, none⟩ 1 1 (encL [(xs, xv)]) (by rfl) (by rfl) HX6.out HX1.out (by omega) (by unfold maxLen; omega) (by omega) (Nat.zero_le _) _ rfl ?_; intro g6 cap6 w6 hown6 hgrow6 hat6 hlt6; have dd6 := (HH.out.below (below_grown_far HBA6.out hgrow6 hg5)).d0; rw [HN2.out] at dd6; have fa6 := (HFA.out _ (below_grown_far HBA6.out hgrow6 hg5)).1; have fb6 := (HFA.out _ (below_grown_far HBA6.out hgrow6 hg5)).2)
            have HE7 := Lib.hid (app_row hown6 HM5.out)
            have HB7 := Lib.hid (below_grown_far HBA6.out hgrow6 hg5)
            have hg7 := lo_next hg5 HBA6.out.size hat6
            clear hown6 hgrow6 hat6 hlt6
            go_wp2_with fail
            go_roundg (gk - 1)
            case measure => omega
            case rel => exact ⟨k + 1, m + 1 + 1, g6, cap6, _, true, by omega, by go_num, rfl, rfl, by omega, hg7, HRS, Lib.hid (by rw [List.length_append, ← HM5.out]; rfl), HE7, HB7⟩
        · have hs : xs ≠ s := less_ne HQ.out
          have hqq : (xs.toList == s.toList) = false := by rw [beq_names]; exact decide_eq_false hs
          have HRS := Lib.hid (HRN.out.trans (show _ = (K ++ [(xs, xv)], false) by simp [rstep, HQ.out, hs]))
          clear hs HRN
          go_wp2_with fail
          refine HC.out.mono ?_
          rintro e w3 ⟨rfl, hb3⟩
          have HB3 := Lib.hid (below_step HB.out hb3)
          have HE3 := Lib.hid (HE.out.of_block (hb3.block gg HE.out.lt))
          have d3 := (HH.out.below HB3.out).d0
          rw [HN2.out] at d3
          have h0 := (HFA.out _ HB3.out).1
          have h1 := (HFA.out _ HB3.out).2
          clear hb3 HC d0 f0 f1
          have HO4 := Lib.hid (app_owns HE3.out HM.out (below_alloc w3 (.cells #[.string xs, .int .i64 xv] 123)))
          have HX4 := Lib.hid (cells_of_box (x := (xs, xv)) (heap_alloc_new w3 (.cells #[.string xs, .int .i64 xv] 123)))
          have HBA4 := Lib.hid (below_step HB3.out (below_alloc w3 (.cells #[.string xs, .int .i64 xv] 123)))
          go_wp2_with (at_builtin; refine wpList_append_lies _ (by rfl) _ _ _ (by rfl) 0 123 i0 _ 2 24 Tryz.underlying97 hi hz0 hz1 hz2 (by rfl) (by decide) _ _ _ (by rfl) HO4.out ⟨w3.heap.size, 0, none⟩ 1 1 (encL [(xs, xv)]) (by rfl) (by rfl) HX4.out HX1.out (by omega) (by unfold maxLen; omega) (by omega) (Nat.zero_le _) _ rfl ?_; intro g4 cap4 w4 hown4 hgrow4 hat4 hlt4; have dd4 := (HH.out.below (below_grown_far HBA4.out hgrow4 hlg)).d0; rw [HN2.out] at dd4; have fa4 := (HFA.out _ (below_grown_far HBA4.out hgrow4 hlg)).1; have fb4 := (HFA.out _ (below_grown_far HBA4.out hgrow4 hlg)).2)
          have HE5 := Lib.hid (app_row hown4 HM.out)
          have HB5 := Lib.hid (below_grown_far HBA4.out hgrow4 hlg)
          have hg5 := lo_next hlg HBA4.out.size hat4
          clear hown4 hgrow4 hat4 hlt4 d3 h0 h1
          go_wp2_with fail
          go_roundg (gk - 1)
          case measure => omega
          case rel => exact ⟨k + 1, m + 1, g4, cap4, _, false, by omega, by go_num, rfl, rfl, by omega, hg5, HRS, Lib.hid (by rw [List.length_append, ← HM.out]; rfl), HE5, HB5⟩
      · by_cases hs : xs = s
        · have hqq : (xs.toList == s.toList) = true := by rw [beq_names]; exact decide_eq_true hs
          have HRS := Lib.hid (HRN.out.trans (show _ = (K, true) by simp [rstep, hs]))
          clear hs HRN HC
          go_wp2_with fail
          go_roundg (gk - 1)
          case measure => omega
          case rel => exact ⟨k + 1, m, gg, cap, K, true, by omega, by go_num, rfl, rfl, by omega, hlg, HRS, HM, HE, HB⟩
        · have hqq : (xs.toList == s.toList) = false := by rw [beq_names]; exact decide_eq_false hs
          have HRS := Lib.hid (HRN.out.trans (show _ = (K ++ [(xs, xv)], true) by simp [rstep, hs]))
          clear hs HRN HC
          have HO4 := Lib.hid (app_owns HE.out HM.out (below_alloc wr (.cells #[.string xs, .int .i64 xv] 123)))
          have HX4 := Lib.hid (cells_of_box (x := (xs, xv)) (heap_alloc_new wr (.cells #[.string xs, .int .i64 xv] 123)))
          have HBA4 := Lib.hid (below_step HB.out (below_alloc wr (.cells #[.string xs, .int .i64 xv] 123)))
          go_wp2_with (at_builtin; refine wpList_append_lies _ (by rfl) _ _ _ (by rfl) 0 123 i0 _ 2 24 Tryz.underlying97 hi hz0 hz1 hz2 (by rfl) (by decide) _ _ _ (by rfl) HO4.out ⟨wr.heap.size, 0, none⟩ 1 1 (encL [(xs, xv)]) (by rfl) (by rfl) HX4.out HX1.out (by omega) (by unfold maxLen; omega) (by omega) (Nat.zero_le _) _ rfl ?_; intro g4 cap4 w4 hown4 hgrow4 hat4 hlt4; have dd4 := (HH.out.below (below_grown_far HBA4.out hgrow4 hlg)).d0; rw [HN2.out] at dd4; have fa4 := (HFA.out _ (below_grown_far HBA4.out hgrow4 hlg)).1; have fb4 := (HFA.out _ (below_grown_far HBA4.out hgrow4 hlg)).2)
          have HE5 := Lib.hid (app_row hown4 HM.out)
          have HB5 := Lib.hid (below_grown_far HBA4.out hgrow4 hlg)
          have hg5 := lo_next hlg HBA4.out.size hat4
          clear hown4 hgrow4 hat4 hlt4 d0 f0 f1
          go_wp2_with fail
          go_roundg (gk - 1)
          case measure => omega
          case rel => exact ⟨k + 1, m + 1, g4, cap4, _, true, by omega, by go_num, rfl, rfl, by omega, hg5, HRS, Lib.hid (by rw [List.length_append, ← HM.out]; rfl), HE5, HB5⟩
    · have hte : L.take k = L := List.take_of_length_le (by rw [HN2.out]; omega)
      have hkk := HR.out
      rw [hte] at hkk
      have hall := HALL.out K d hkk
      have hjn : ¬ ((k : Int) < (n : Int)) := by omega
      have hm2 : m ≤ 2 * n := by omega
      cases d
      · have hKe : KK = K ++ [(s, v)] := by simpa using hall
        have HKE := Lib.hid hKe
        clear hkn hte hkk hall HR hKe HNX
        have HO4 := Lib.hid (app_owns HE.out HM.out (below_alloc wr (.cells #[.string s, .int .i64 v] 123)))
        have HX4 := Lib.hid (cells_of_box (x := (s, v)) (heap_alloc_new wr (.cells #[.string s, .int .i64 v] 123)))
        have HBA4 := Lib.hid (below_step HB.out (below_alloc wr (.cells #[.string s, .int .i64 v] 123)))
        go_upto_region 18 with (at_builtin; refine wpList_append_lies _ (by rfl) _ _ _ (by rfl) 0 123 i0 _ 2 24 Tryz.underlying97 hi hz0 hz1 hz2 (by rfl) (by decide) _ _ _ (by rfl) HO4.out ⟨wr.heap.size, 0, none⟩ 1 1 (encL [(s, v)]) (by rfl) (by rfl) HX4.out H1.out (by omega) (by unfold maxLen; omega) (by omega) (Nat.zero_le _) _ rfl ?_; intro g4 cap4 w4 hown4 hgrow4 hat4 hlt4; have dd4 := (HH.out.below (below_grown_far HBA4.out hgrow4 hlg)).d0; rw [HN2.out] at dd4)
        have HE5 := Lib.hid (app_row hown4 HM.out)
        have HB5 := Lib.hid (below_grown_far HBA4.out hgrow4 hlg)
        have hg5 := lo_next hlg HBA4.out.size hat4
        rw [← HKE.out] at HE5
        obtain ⟨c0, c1, hst⟩ := HST.out w4 g4 cap4 (m + 1) HB5.out hg5 HE5.out (by rw [HKE.out, List.length_append, ← HM.out]; rfl)
        have HRR := Lib.hid hst
        clear hown4 hgrow4 hat4 hlt4 hst HST d0
        go_wp2_with fail
        go_ret
        exact HRR.out
      · have hKe : KK = K := by simpa using hall
        rw [← hKe] at HE HM
        obtain ⟨c0, c1, hst⟩ := HST.out wr gg cap m HB.out hlg HE.out HM.out
        have HRR := Lib.hid hst
        clear hst HST d0 hte hkk hall HR hKe HNX hkn
        go_wp2_with fail
        go_ret
        exact HRR.out

/-- The document's Set, whatever the name and the number. -/
theorem rset_any (D lo c : Nat) (o : Option Nat) (L : List En) (s : ByteArray) (v : Int) (w : World) (hm : s.size ≤ 9223372036854775807) (hL : ∀ e ∈ L, e.1.size ≤ 9223372036854775807) (h : Du w D lo o c L) (hlo : lo ≤ w.heap.size) (hs : Sorted L) (hN : L.length ≤ 400000) :
    Calls Tryz.prog 54 #[Pq D, .string s, .int .i64 v] w (StepE w D lo o (.int .i64 (serr s v)) (lsetE s v L)) := by
  unfold lsetE serr
  by_cases he : nerr s.data.toList = 0
  · rw [if_neg (by simpa using he)]
    by_cases hd : dotB s = true ∨ v < 1
    · rw [if_pos hd, if_neg (by decide)]
      exact rset_dot D lo c o L s v w hm h he hd
    · rw [if_neg hd, if_pos rfl]
      have hd1 : dotB s = false := by simpa using fun e => hd (.inl e)
      have hv : ¬ v < 1 := fun e => hd (.inr e)
      exact rset_ok D lo c o L s v w hm hL h hlo hs hN he hd1 hv
  · rw [if_pos (by simpa using he), if_neg he]
    exact rset_name D lo c o L s v w hm h he
end Go.Proofs.YtlnlehoekchdeaaGreat.dn
end
