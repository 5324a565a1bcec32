/- The document's 'Peek', 'Pop', 'Has', 'Drop' by definition. -/
import Derived.Test.YtadkhnenklkbmaaRPush
namespace Go.Proofs.Ytadkhnenklkbmaa
open Go.RowKit
set_option linter.unusedVariables false

set_option maxHeartbeats 1000000 in
theorem rpeek_any (R lo : Nat) (L : List KN) (w : World) (hN : L.length ≤ 900000) (h : RQ w R lo L) : Calls Try.prog 17 #[.pointer (some ⟨R, 0, none⟩)] w (fun e w' => e = .returned (popV L) ∧ Below w.heap.size w w') := by
  obtain ⟨A, c, q0, hg, _, _⟩ := h.get
  cases L with
  | nil =>
    clear hg h
    rw [show popV [] = .tuple #[.int .i64 0, .int .i64 0, .bool false] from rfl]
    go_enter Try.func17, Try.ntmps17
    go_wp2_with fail
    go_ret3
    exact ⟨rfl, Below.refl _ _⟩
  | cons a l =>
    obtain ⟨rb, rfl, hrb, r0, r1⟩ := hg 0 a rfl
    obtain ⟨ak, an⟩ := a
    rw [show popV ((ak, an) :: l) = .tuple #[.int .i64 ak, .int .i64 an, .bool true] from rfl]
    simp only [Nat.zero_mul, Nat.zero_add] at r0 r1
    rw [List.length_cons] at q0 hN
    have hb0 : ((l.length : Int) + 1 == 0) = false := by rw [beq_eq_false_iff_ne]; omega
    have hpos : (0 : Int) < (l.length : Int) + 1 := by omega
    generalize l.length = n at *
    clear hg h
    go_enter Try.func17, Try.ntmps17
    go_wp2_with fail
    go_quiet (fail)
    go_wp2_with fail
    go_ret3
    exact ⟨rfl, ⟨rfl, rfl, rfl, Nat.le_refl _, fun _ _ => rfl⟩⟩

theorem cells_tail {w : World} {rb : Nat} {a : KN} {l : List KN} (h : ∀ k (y : KN), (a :: l)[k]? = some y → w.cell? ⟨rb, k * 2, none⟩ = some (.int .i64 y.1) ∧ w.cell? ⟨rb, k * 2 + 1, none⟩ = some (.int .i64 y.2)) :
    ∀ j u, (cellsK l)[j]? = some u → w.cell? ((⟨rb, 2, none⟩ : Addr).add j) = some u := by
  intro j u hu
  rw [Go.WideShapes.add_plain]
  have hj := (List.getElem?_eq_some_iff.1 hu).1
  rw [cellsK_len] at hj
  obtain ⟨y, hy⟩ : ∃ y, l[j / 2]? = some y := ⟨l[j / 2]'(by omega), List.getElem?_eq_getElem _⟩
  obtain ⟨c0, c1⟩ := cellsK_get l (j / 2) y hy
  obtain ⟨d0, d1⟩ := h (j / 2 + 1) y (by simpa using hy)
  by_cases hp : j % 2 = 0
  · have e : j / 2 * 2 = j := by omega
    rw [e] at c0
    rw [c0] at hu
    injection hu with hu
    subst hu
    rw [show 2 + j = (j / 2 + 1) * 2 by omega]
    exact d0
  · have e : j / 2 * 2 + 1 = j := by omega
    rw [e] at c1
    rw [c1] at hu
    injection hu with hu
    subst hu
    rw [show 2 + j = (j / 2 + 1) * 2 + 1 by omega]
    exact d1

set_option maxHeartbeats 2000000 in
theorem rpop_any (R lo : Nat) (L : List KN) (w : World) (hlo : lo ≤ w.heap.size) (hN : L.length ≤ 900000) (h : RQ w R lo L) : Calls Try.prog 13 #[.pointer (some ⟨R, 0, none⟩)] w (RStep w R lo (popV L) L.tail) := by
  have HP := Lib.hid (rpeek_any R lo L w hN h)
  cases L with
  | nil =>
    have HE := Lib.hid (show ∀ w', Below w.heap.size w w' → RStep w R lo (.tuple #[.int .i64 0, .int .i64 0, .bool false]) [] (.returned (.tuple #[.int .i64 0, .int .i64 0, .bool false])) w' from fun w' hb => ⟨rfl, h.below hb, Fr.below hb, .inr (hb.cell (p := ⟨R, 0, none⟩) h.lt)⟩)
    rw [show popV [] = .tuple #[.int .i64 0, .int .i64 0, .bool false] from rfl] at HP ⊢
    rw [show ([] : List KN).tail = [] from rfl]
    clear h
    go_enter Try.func13, Try.ntmps13
    go_wp2_with fail
    refine HP.out.mono ?_
    rintro e w1 ⟨rfl, hb⟩
    have HB := Lib.hid hb
    clear hb HP
    go_wp2_with fail
    go_ret3
    exact HE.out _ HB.out
  | cons a l =>
    obtain ⟨i0, hi, hz0, hz1, hz2⟩ := info_parts info55
    obtain ⟨A, c, q0, hg, hlc, hcm⟩ := h.get
    obtain ⟨rb, rfl, hrb, r0, r1⟩ := hg 0 a rfl
    have hcells : ∀ k (y : KN), (a :: l)[k]? = some y → w.cell? ⟨rb, k * 2, none⟩ = some (.int .i64 y.1) ∧ w.cell? ⟨rb, k * 2 + 1, none⟩ = some (.int .i64 y.2) := fun k y hy => by
      obtain ⟨b, e, _, x0, x1⟩ := hg k y hy
      injection e with e
      injection e with e
      subst e
      exact ⟨x0, x1⟩
    have HC := Lib.hid (cells_tail hcells)
    have HONE := Lib.hid (cellsK_one l)
    have HLEN := Lib.hid (cellsK_len l)
    obtain ⟨ak, an⟩ := a
    rw [List.length_cons] at q0 hN hlc
    have HRF := Lib.hid (fun w1 hb => rframe (w1 := w1) h hb)
    have HST := Lib.hid (fun w1 v n hb hown hn => rstep_of (w1 := w1) (M := l) (v := v) (n := n) (u := .tuple #[.int .i64 ak, .int .i64 an, .bool true]) h hlo hb hown hn)
    have hfz := h.fz
    have hR := h.lt
    rw [show popV ((ak, an) :: l) = .tuple #[.int .i64 ak, .int .i64 an, .bool true] from rfl] at HP ⊢
    rw [show ((ak, an) :: l).tail = l from rfl]
    obtain ⟨n, hn⟩ : ∃ n, l.length = n := ⟨_, rfl⟩
    have HNN := Lib.hid hn
    rw [hn] at q0 hN hlc HLEN
    clear hg h r0 r1 hcells hn
    by_cases hc1 : c = 1
    · subst hc1
      have hn0 : n = 0 := by omega
      subst hn0
      have HL0 := Lib.hid (List.eq_nil_of_length_eq_zero HNN.out)
      go_enter Try.func13, Try.ntmps13
      go_wp2_with fail
      refine HP.out.mono ?_
      rintro e w1 ⟨rfl, hb⟩
      have HB := Lib.hid hb
      have c0 := (HRF.out w1 hb).1.trans q0
      have hsz := hb.size
      have hlit := Lib.hid (own_lit w1 w.heap.size hb.size)
      have c0a := fun o => ((below_alloc w1 o).cell (p := ⟨R, 0, none⟩) (Nat.lt_of_lt_of_le hR hb.size)).trans c0
      clear hb HP
      go_wp2_with (at_builtin; refine wpList_append_own _ rfl (.tmp 16) (.tmp 21) 27 rfl w.heap.size 55 i0 _ 2 16 Try.underlying27 hi hz0 hz1 hz2 rfl (by decide) (.slice (some ⟨w1.heap.size, 0, none⟩) 0 0) 0 (cellsK []) rfl hlit.out ⟨rb, 0, none⟩ 0 0 [] rfl rfl (by simp) (by simp) (by unfold maxLen; omega) (by omega) (by simp; omega) ?_; intro v1 w3 hown1 hgrow1 _; have HB3 := Lib.hid ((HB.out.alloc HB.out.size _).grown hgrow1 (by have := HB.out.size; simp; omega) (fun g h => by simp [Value.ownBlock] at h; omega)); have d0 := (HRF.out w3 HB3.out).1.trans q0; have d1 := (HRF.out w3 HB3.out).2.trans hfz; obtain ⟨A2, cc2, rfl⟩ := own_slice hown1; have HO := Lib.hid hown1; clear hown1 hgrow1)
      go_ret3
      exact HST.out w3 _ _ HB3.out (by rw [HL0.out]; exact HO.out) HNN.out.symm
    · go_enter Try.func13, Try.ntmps13
      go_wp2_with fail
      refine HP.out.mono ?_
      rintro e w1 ⟨rfl, hb⟩
      have HB := Lib.hid hb
      have c0 := (HRF.out w1 hb).1.trans q0
      have hsz := hb.size
      have hlit := Lib.hid (own_lit w1 w.heap.size hb.size)
      have c0a := fun o => ((below_alloc w1 o).cell (p := ⟨R, 0, none⟩) (Nat.lt_of_lt_of_le hR hb.size)).trans c0
      have HCW := Lib.hid (fun W (hW : Below w.heap.size w W) j u hu => (hW.cell (p := (⟨rb, 2, none⟩ : Addr).add j) (by rw [Go.WideShapes.add_plain]; exact hrb)).trans (HC.out j u hu))
      clear hb HP
      go_wp2_with (at_builtin; refine wpList_append_own _ rfl (.tmp 16) (.tmp 21) 27 rfl w.heap.size 55 i0 _ 2 16 Try.underlying27 hi hz0 hz1 hz2 rfl (by decide) (.slice (some ⟨w1.heap.size, 0, none⟩) 0 0) 0 (cellsK []) rfl hlit.out ⟨rb, 2, none⟩ n (c - 1) (cellsK l) rfl HLEN.out (HCW.out _ (HB.out.alloc HB.out.size _)) HONE.out (by unfold maxLen; omega) (by omega) (by simp; omega) ?_; intro v1 w3 hown1 hgrow1 _; have HB3 := Lib.hid ((HB.out.alloc HB.out.size _).grown hgrow1 (by have := HB.out.size; simp; omega) (fun g h => by simp [Value.ownBlock] at h; omega)); have d0 := (HRF.out w3 HB3.out).1.trans q0; have d1 := (HRF.out w3 HB3.out).2.trans hfz; obtain ⟨A2, cc2, rfl⟩ := own_slice hown1; have HO := Lib.hid hown1; clear hown1 hgrow1)
      go_ret3
      exact HST.out w3 _ _ HB3.out (by have := HO.out; rw [show cellsK [] ++ cellsK l = cellsK l from rfl, Nat.zero_add] at this; exact this) HNN.out.symm

theorem any_take {L : List KN} {m : Int} {k : Nat} {y : KN} (h : (L.take k).any (fun x => x.2 == m) = false) (hy : L[k]? = some y) (hm : y.2 ≠ m) : (L.take (k + 1)).any (fun x => x.2 == m) = false := by
  rw [take_succ_k hy, List.any_append, h]
  simpa using hm
theorem any_hit {L : List KN} {m : Int} {k : Nat} {y : KN} (hy : L[k]? = some y) (hm : y.2 = m) : L.any (fun x => x.2 == m) = true := by
  rw [List.any_eq_true]
  exact ⟨y, List.mem_of_getElem? hy, by simpa using hm⟩
set_option maxHeartbeats 2000000 in
theorem rhas_any (R lo : Nat) (L : List KN) (m : Int) (w : World) (hN : L.length ≤ 900000) (h : RQ w R lo L) : Calls Try.prog 20 #[.pointer (some ⟨R, 0, none⟩), .int .i64 m] w (RetB w (L.any (fun x => x.2 == m))) := by
  obtain ⟨A, c, q0, hg, _, _⟩ := h.get
  have HG := Lib.hid hg
  obtain ⟨r, hr⟩ : ∃ r, L.any (fun x => x.2 == m) = r := ⟨_, rfl⟩
  rw [hr]
  have HR := Lib.hid hr
  obtain ⟨n, hn⟩ : ∃ n, L.length = n := ⟨_, rfl⟩
  have HN := Lib.hid hn
  rw [hn] at q0 hN
  clear hg h hn hr
  go_enter Try.func20, Try.ntmps20
  go_wp2_with fail
  go_loopg [5] n (fun g i wr => ∃ k : Nat, k ≤ n ∧ g + k = n ∧ i = .int .i64 k ∧ Hid ((L.take k).any (fun x => x.2 == m) = false) ∧ w = wr)
  case atStart => exact ⟨0, by omega, by omega, rfl, Lib.hid (by simp), rfl⟩
  case round =>
    obtain ⟨k, hk, hgk, rfl, HK, rfl⟩ := hrel
    by_cases hlt : k < n
    · obtain ⟨y, hy⟩ : ∃ y, L[k]? = some y := ⟨L[k]'(by have := HN.out; omega), List.getElem?_eq_getElem _⟩
      obtain ⟨rb, rfl, hrb, r0, r1⟩ := HG.out k y hy
      have HMISS := Lib.hid (fun h => any_take (m := m) HK.out hy h)
      have HHIT := Lib.hid (fun h => any_hit (m := m) hy h)
      obtain ⟨yk, yn⟩ := y
      dsimp only at r0 r1 HMISS HHIT
      clear hy
      by_cases hx : yn = m
      · have hxb : (yn == m) = true := by simpa using hx
        have HE := Lib.hid ((HHIT.out hx).symm.trans HR.out)
        clear hx
        go_wp2_with fail
        go_ret
        exact ⟨by rw [← HE.out]; rfl, Below.refl _ _⟩
      · have hxb : (yn == m) = false := by simpa using hx
        have HX := Lib.hid hx
        clear hx
        go_wp2_with fail
        go_roundg (gk - 1)
        case measure => omega
        case rel => exact ⟨k + 1, by omega, by omega, by go_num, Lib.hid (HMISS.out HX.out), rfl⟩
    · have HE := Lib.hid (show false = r by have := HK.out; rw [List.take_of_length_le (by have := HN.out; omega), HR.out] at this; exact this.symm)
      have hge : ¬ ((k : Int) < (n : Int)) := by omega
      clear hlt
      go_wp2_with fail
      go_ret
      exact ⟨by rw [← HE.out]; rfl, Below.refl _ _⟩

theorem filt_keep {L : List KN} {m : Int} {k : Nat} {y : KN} {M : List KN} (h : M = (L.take k).filter (keepN m)) (hy : L[k]? = some y) (hm : y.2 ≠ m) : M ++ [y] = (L.take (k + 1)).filter (keepN m) := by
  have hk : keepN m y = true := by simpa [keepN] using hm
  rw [take_succ_k hy, List.filter_append, h]
  simp [hk]
theorem filt_skip {L : List KN} {m : Int} {k : Nat} {y : KN} {M : List KN} (h : M = (L.take k).filter (keepN m)) (hy : L[k]? = some y) (hm : y.2 = m) : M = (L.take (k + 1)).filter (keepN m) := by
  have hk : keepN m y = false := by simpa [keepN] using hm
  rw [take_succ_k hy, List.filter_append, h]
  simp [hk]
set_option maxHeartbeats 4000000 in
set_option maxRecDepth 100000 in
theorem rdrop_any (R lo : Nat) (L : List KN) (m : Int) (w : World) (hlo : lo ≤ w.heap.size) (hN : L.length ≤ 900000) (h : RQ w R lo L) :
    Calls Try.prog 15 #[.pointer (some ⟨R, 0, none⟩), .int .i64 m] w (RStep w R lo (.int .i64 ((L.length : Int) - ((L.filter (keepN m)).length : Int))) (L.filter (keepN m))) := by
  obtain ⟨i0, hi, hz0, hz1, hz2⟩ := info_parts info55
  obtain ⟨A, c, q0, hg, _, _⟩ := h.get
  have HG := Lib.hid hg
  have hR := h.lt
  have HRF := Lib.hid (fun w1 hb => rframe (w1 := w1) h hb)
  have HST := Lib.hid (fun w1 M v n u hb hown hn => rstep_of (w1 := w1) (M := M) (v := v) (n := n) (u := u) h hlo hb hown hn)
  have hfz := h.fz
  have HLIT := Lib.hid (own_lit w w.heap.size (Nat.le_refl _))
  obtain ⟨n, hn⟩ : ∃ n, L.length = n := ⟨_, rfl⟩
  have HN := Lib.hid hn
  rw [hn] at q0 hN ⊢
  generalize hFF : L.filter (keepN m) = FF
  have HFF := Lib.hid hFF
  clear hg h hlo hn hFF
  go_enter Try.func15, Try.ntmps15
  go_wp2_with fail
  go_loopg [5, 6] n (fun g v i wr => ∃ (k : Nat) (M : List KN), k ≤ n ∧ g + k = n ∧ i = .int .i64 k ∧ Hid (M = (L.take k).filter (keepN m)) ∧ Hid (wr.ownsRow w.heap.size 55 2 v M.length (cellsK M)) ∧ Hid (Below w.heap.size w wr))
  case atStart => exact ⟨0, [], by omega, by omega, rfl, Lib.hid rfl, HLIT, Lib.hid (below_alloc _ _)⟩
  case round =>
    obtain ⟨k, M, hk, hgk, rfl, HM, HO, HB⟩ := hrel
    have c0 := (HRF.out wr HB.out).1.trans q0
    have hml : M.length ≤ n := by
      have h1 := congrArg List.length HM.out
      have h2 := List.length_filter_le (keepN m) (L.take k)
      rw [List.length_take] at h2
      omega
    obtain ⟨ml, hmle⟩ : ∃ ml, M.length = ml := ⟨_, rfl⟩
    have HML := Lib.hid hmle
    rw [hmle] at hml HO
    clear hmle
    have hsz := HB.out.size
    by_cases hlt : k < n
    · obtain ⟨y, hy⟩ : ∃ y, L[k]? = some y := ⟨L[k]'(by have := HN.out; omega), List.getElem?_eq_getElem _⟩
      obtain ⟨rb, rfl, hrb, r0, r1⟩ := HG.out k y hy
      have HKEEP := Lib.hid (fun h => filt_keep HM.out hy h)
      have HSKIP := Lib.hid (fun h => filt_skip HM.out hy h)
      obtain ⟨yk, yn⟩ := y
      have e0 := (HB.out.cell (p := ⟨rb, k * 2, none⟩) hrb).trans r0
      have e1 := (HB.out.cell (p := ⟨rb, k * 2 + 1, none⟩) hrb).trans r1
      dsimp only at e0 e1 HKEEP HSKIP
      clear hy
      by_cases hx : yn = m
      · have hxb : (yn != m) = false := by simpa using hx
        have HX := Lib.hid hx
        clear hx
        go_wp2_with fail
        go_roundg (gk - 1)
        case measure => omega
        case rel => exact ⟨k + 1, M, by omega, by omega, by go_num, Lib.hid (HSKIP.out HX.out), Lib.hid (by rw [HML.out]; exact HO.out), HB⟩
      · have hxb : (yn != m) = true := by simpa using hx
        have HX := Lib.hid hx
        clear hx
        go_wp2_with (at_builtin; refine wpList_append_own _ rfl (.tmp 28) (.tmp 36) 27 rfl w.heap.size 55 i0 _ 2 16 Try.underlying27 hi hz0 hz1 hz2 rfl (by decide) _ ml (cellsK M) rfl (HO.out.alloc _) ⟨wr.heap.size, 0, none⟩ 1 1 (ck (yk, yn)) rfl rfl (news2 _ _ _) (by intro u hu; simp [ck] at hu; rcases hu with rfl | rfl <;> rfl) (by unfold maxLen; omega) (by omega) (by simp; omega) ?_; intro v1 w3 hown1 hgrow1 _)
        go_roundg (gk - 1)
        case measure => omega
        case rel => exact ⟨k + 1, M ++ [(yk, yn)], by omega, by omega, by go_num, Lib.hid (HKEEP.out HX.out), Lib.hid (own_snoc hown1 HML.out), Lib.hid (below_app HB.out HO.out hgrow1)⟩
    · have HE := Lib.hid (show M = FF by rw [← HFF.out, HM.out, List.take_of_length_le (by have := HN.out; omega)])
      have z0 := (HRF.out wr HB.out).2.trans hfz
      obtain ⟨A1, cc1, rfl⟩ := own_slice HO.out
      have HR := Lib.hid (HST.out wr M _ ml (.int .i64 ((n : Int) - (ml : Int))) HB.out HO.out HML.out.symm)
      have HL := Lib.hid (show (FF.length : Int) = (ml : Int) by rw [← HE.out, HML.out])
      have hge : ¬ ((k : Int) < (n : Int)) := by omega
      clear hlt
      go_wp2_with fail
      go_ret
      rw [HL.out, ← HE.out]
      exact HR.out
end Go.Proofs.Ytadkhnenklkbmaa
