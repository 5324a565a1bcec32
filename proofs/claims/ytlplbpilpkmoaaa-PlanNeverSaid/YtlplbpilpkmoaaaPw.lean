/- Tasks that take what they want in the order: the law's walk. -/
import Derived.Test.YtlplbpilpkmoaaaPj
import Derived.Deep.RegionWith
import Derived.Deep.CutRange
import Derived.Deep.CutBlock
import Derived.Deep.RegionHeld3
namespace Go.Proofs.Ytlplbpilpkmoaaa.sc
open Go.RowKit Go.Shelf
open pl (Wt wlt gw gw_get gw_mem mem_gw OW encW encW_len encW_app IsOrd Rows2)
set_option linter.unusedVariables false
set_option linter.unusedSimpArgs false

theorem PL.push {w3 w4 w5 : World} {lo : Nat} {v v1 v9 : Value} {vs : List Value} {ll : List (List Wt)} {o : List Wt} (h : PL w3 lo v vs ll) (ho : OW w3 lo 39 v9 o) (hne : ∀ g, v9.ownBlock = some g → v.ownBlock ≠ some g)
    (hal : Below w3.heap.size w3 w4) (hown : w5.ownsRow lo 22 1 v1 (vs.length + 1) (vs ++ [v9])) (hg : w4.grownBy w5 v.ownBlock) (hat : v1.ownBlock = v.ownBlock ∨ v1.ownBlock = some w4.heap.size) : PL w5 lo v1 (vs ++ [v9]) (ll ++ [o]) := by
  have hk : ∀ g, g < w3.heap.size → v.ownBlock ≠ some g → w5.heap[g]? = w3.heap[g]? := fun g hl hn => (hg.block g (Nat.lt_of_lt_of_le hl hal.size) (fun e => hn e.symm)).trans (hal.block g hl)
  have hkeep : ∀ u x, OW w3 lo 39 u x → (∀ g, u.ownBlock = some g → v.ownBlock ≠ some g) → OW w5 lo 39 u x ∧ ∀ g, u.ownBlock = some g → v1.ownBlock ≠ some g := fun u x hu hn =>
    ⟨hu.keep fun g e => hk g (hu.olt e).2 (hn g e), fun g e e2 => by
      rcases hat with h1 | h1
      · exact hn g e (h1 ▸ e2)
      · rw [h1] at e2; injection e2 with e2; have := (hu.olt e).2; have := hal.size; omega⟩
  refine ⟨by rw [List.length_append]; exact hown, by rw [List.length_append, List.length_append, h.len]; rfl, fun i hi => ?_, fun i g hi e => ?_⟩
  · rw [List.length_append, List.length_singleton] at hi
    by_cases e : i = ll.length
    · subst e
      have e1 : (vs ++ [v9]).getD ll.length undef = v9 := by rw [← h.len]; simp [List.getD]
      have e2 : (ll ++ [o]).getD ll.length [] = o := by simp [List.getD]
      rw [e1, e2]
      exact (hkeep v9 o ho hne).1
    · have e1 : (vs ++ [v9]).getD i undef = vs.getD i undef := by simp [List.getD, List.getElem?_append_left (show i < vs.length by rw [h.len]; omega)]
      have e2 : (ll ++ [o]).getD i [] = ll.getD i [] := by simp [List.getD, List.getElem?_append_left (show i < ll.length by omega)]
      rw [e1, e2]
      exact (hkeep _ _ (h.each i (by omega)) (fun g => h.apart i g (by omega))).1
  · rw [List.length_append, List.length_singleton] at hi
    by_cases e9 : i = ll.length
    · subst e9
      have e1 : (vs ++ [v9]).getD ll.length undef = v9 := by rw [← h.len]; simp [List.getD]
      rw [e1] at e
      exact (hkeep v9 o ho hne).2 g e
    · have e1 : (vs ++ [v9]).getD i undef = vs.getD i undef := by simp [List.getD, List.getElem?_append_left (show i < vs.length by rw [h.len]; omega)]
      rw [e1] at e
      exact (hkeep _ _ (h.each i (by omega)) (fun g => h.apart i g (by omega))).2 g e
/-- The blocks from a to b. -/
def Xr (a b : Nat) : Nat → Prop := fun k => a ≤ k ∧ k < b
theorem upb_id {f : Nat → Bool} {t : Nat} {v : Bool} (h : f t = v) : upb f t v = f := funext fun x => by
  by_cases e : x = t
  · subst e; rw [upb_self, h]
  · rw [upb_ne e]
set_option maxRecDepth 100000 in
set_option maxHeartbeats 16000000 in
theorem never_any (A1 : Option Addr) (c1 : Nat) (l1 : List (List Nat)) (A2 : Option Addr) (c2 : Nat) (l2 : List Nat) (w : World) (hc1 : l1.length ≤ c1 ∧ c1 ≤ maxLen) (h1 : Rows2 w w.heap.size A1 l1) (hc2 : l2.length ≤ c2 ∧ c2 ≤ maxLen) (h2 : pl.Byts w w.heap.size A2 l2) :
    Calls Try.prog 6 #[.slice A1 l1.length c1, .slice A2 l2.length c2] w (pl.RetB w true) := by
  have HAW := Lib.hid (pl.awake_any w)
  have H1 := Lib.hid h1
  have H2 := Lib.hid h2
  obtain ⟨n1, hn1⟩ : ∃ n, l1.length = n := ⟨_, rfl⟩
  obtain ⟨n2, hn2⟩ : ∃ n, l2.length = n := ⟨_, rfl⟩
  rw [hn1] at hc1 ⊢
  rw [hn2] at hc2 ⊢
  have HN1 := Lib.hid hn1
  have HN2 := Lib.hid hn2
  obtain ⟨i0, hi, hz0, hz1, hz2⟩ := pl.info_parts pl.info_want
  have HI := Lib.hid hi
  have HZ := Lib.hid (show i0.zero = some (pl.Wv ⟨0, 0, false⟩) ∧ i0.size = 3 ∧ i0.bytes = 24 from ⟨hz0, hz1, hz2⟩)
  obtain ⟨i1, hi', hz0', hz1', hz2'⟩ := pl.info_parts info22
  have HI' := Lib.hid hi'
  have HZ' := Lib.hid (show i1.zero = some (.slice none 0 0) ∧ i1.size = 1 ∧ i1.bytes = 24 from ⟨hz0', hz1', hz2'⟩)
  have hnx : n1 ≤ 9223372036854775807 := by have := hc1.1; have := hc1.2; unfold maxLen at this; omega
  clear h1 h2 hn1 hn2 hc1 hc2 hi hz0 hz1 hz2 hi' hz0' hz1' hz2'
  unfold pl.RetB at HAW ⊢
  go_enter Try.func6, Try.ntmps6
  go_wp2_with fail
  refine HAW.out.mono ?_
  rintro _ w1 ⟨rfl, hb1⟩
  have HW1 := Lib.hid hb1
  clear hb1 HAW
  go_upto_region 3 with fail
  go_cut [5] (fun v wx => ∃ N : Nat, v = .int .i64 N ∧ N ≤ n1 ∧ N ≤ 16 ∧ wx = w1)
  case first =>
    go_wp2_with fail
    all_goals
      go_meet
      case rel => first | exact ⟨n1, rfl, by omega, by omega, rfl⟩ | exact ⟨16, rfl, by omega, by omega, rfl⟩ | exact ⟨min n1 16, by congr 1; omega, by omega, by omega, rfl⟩
  case rest =>
    obtain ⟨n, rfl, hnn, hn16, rfl⟩ := hcut
    have KN := Lib.hid (y_new HW1.out n (by omega))
    go_wp2_with fail
    refine KN.out.mono ?_
    rintro _ w2 ⟨P, rfl, h2, hb2⟩
    have HSY := Lib.hid h2
    have HWW := Lib.hid h2.bel
    obtain ⟨m2, hm2⟩ : ∃ m, w2.heap.size = m := ⟨_, rfl⟩
    have HM2 := Lib.hid hm2
    have HMW := Lib.hid (show w.heap.size ≤ m2 from by rw [← hm2]; exact h2.bel.size)
    clear h2 hb2 KN hm2
    go_wp2_with fail
    go_loopg [7, 8] n (fun gk u7 u8 wx => ∃ (i : Nat) (vs : List Value) (ll : List (List Wt)), u8 = .int .i64 i ∧ gk + i = n ∧ ll.length = i ∧ Hid (PL wx m2 u7 vs ll) ∧ Hid (∀ t, t < i → IsOrd (rowM (l1.getD t []) (min (l1.getD t []).length 8) (min (l1.getD t []).length 8)) (ll.getD t [])) ∧ Hid (Below m2 w2 wx))
    case atStart =>
      refine ⟨0, [], [], rfl, by omega, rfl, Lib.hid ⟨?_, rfl, fun i hi => by simp at hi, fun i g hi => by simp at hi⟩, Lib.hid (fun t ht => by omega), Lib.hid ?_⟩
      · exact World.ownsRow_lit w2 #[] 0 (by rw [HM2.out]; exact Nat.le_refl _) (by unfold maxLen; omega) rfl
      · rw [← HM2.out]; exact below_alloc _ _
    case round =>
      obtain ⟨i, vs, ll, rfl, hg, hll, HPL, HOR, HB⟩ := hrel
      obtain ⟨wr1, hwr1⟩ : ∃ w, w = wr := ⟨_, rfl⟩
      subst hwr1
      obtain ⟨gJ, hJ⟩ : ∃ g, gk = g := ⟨_, rfl⟩
      have HSM := Lib.hid (show m2 ≤ wr1.heap.size from by have := HB.out.size; rw [HM2.out] at this; exact this)
      have HBW := Lib.hid (show Below w.heap.size w wr1 from HWW.out.trans (HB.out.mono (by exact HMW.out)))
      by_cases hi : i < n
      · have hi2 : (i : Int) < (n : Int) := by omega
        have hin1 : i < n1 := by omega
        obtain ⟨g1, o1, rfl, hg1, A', c', x1, hcc, HBY⟩ := (H1.out.below HBW.out) i (by rw [HN1.out]; exact hin1)
        have HBYT := Lib.hid HBY
        obtain ⟨b, hbb⟩ : ∃ b, l1.getD i [] = b := ⟨_, rfl⟩
        have HBB := Lib.hid hbb
        rw [hbb] at HBYT x1 hcc
        obtain ⟨q, hq⟩ : ∃ q, b.length = q := ⟨_, rfl⟩
        have HQ := Lib.hid hq
        rw [hq] at x1 hcc
        have hqx : q ≤ 9223372036854775807 := by have := hcc.1; have := hcc.2; unfold maxLen at this; omega
        obtain ⟨m, hm⟩ : ∃ m, min q 8 = m := ⟨_, rfl⟩
        have hm8 : m ≤ 8 := by omega
        have hmq : m ≤ q := by omega
        have HMM := Lib.hid hm
        clear hbb hq hcc HBY hm
        go_wp2_with fail
        go_loopg [9, 10] m (fun gk u9 u10 wx => ∃ k : Nat, u10 = .int .i64 k ∧ gk + k = m ∧ Hid (OW wx wr1.heap.size 39 u9 (rowM b k 0)) ∧ Hid (Below wr1.heap.size wr1 wx))
        case atStart =>
          refine ⟨0, rfl, by omega, Lib.hid ?_, Lib.hid (below_alloc _ _)⟩
          exact World.ownsRow_lit wr1 #[] 0 (Nat.le_refl _) (by unfold maxLen; omega) rfl
        case round =>
          obtain ⟨k, rfl, hgk, HO, HB2⟩ := hrel
          obtain ⟨gJ2, hJ2⟩ : ∃ g, gk = g := ⟨_, rfl⟩
          have x1' := (HB2.out.cell (p := ⟨g1, o1 + i, none⟩) (Nat.lt_of_lt_of_le hg1 HBW.out.size)).trans x1
          by_cases hk : k < m
          · have hkq : (k : Int) < (q : Int) := by omega
            have hk8 : (k : Int) < 8 := by omega
            obtain ⟨g2, o2, rfl, hg2, y1, y256⟩ := (HBYT.out.below (HB2.out.mono HBW.out.size)) k (by rw [HQ.out]; omega)
            have HRM := Lib.hid (rowM_more b k)
            obtain ⟨x, hx⟩ : ∃ x, b.getD k 0 = x := ⟨_, rfl⟩
            rw [hx] at y1 y256 HRM
            obtain ⟨dx, hdx⟩ : ∃ d, x * 7 % 5 = d := ⟨_, rfl⟩
            obtain ⟨nx, hnx2⟩ : ∃ d, x % 16 = d := ⟨_, rfl⟩
            obtain ⟨bx, hbx⟩ : ∃ b, decide (127 < x) = b := ⟨_, rfl⟩
            have htm : ((x : Int) * 7).tmod 5 = (dx : Int) := by rw [tmod5, hdx]
            have han : bits .and .i64 (x : Int) 15 = (nx : Int) := by rw [and15 x y256, hnx2]
            have hgt : decide ((127 : Int) < (x : Int)) = bx := by rw [← hbx, decide_eq_decide]; omega
            have HWA := Lib.hid (show want0 x = ⟨(dx : Int), (nx : Int), bx⟩ from by unfold want0; rw [hdx, hnx2, hbx])
            rw [HWA.out] at HRM
            have HOW := Lib.hid (show wr.ownsRow wr1.heap.size 39 3 u9 k (encW (rowM b k 0)) from by have := HO.out; unfold OW at this; rw [rowM_len] at this; exact this)
            have HS2 := Lib.hid HB2.out.size
            clear hx hdx hnx2 hbx
            go_wp2_with (at_builtin; go_loud (refine wpList_append_own_at _ rfl (.tmp 60) (.tmp 69) 22 rfl wr1.heap.size 39 i0 _ 3 24 Try.underlying22 HI.out HZ.out.1 HZ.out.2.1 HZ.out.2.2 rfl (by decide) u9 k (encW (rowM b k 0)) rfl (HOW.out.alloc _) ⟨wr.heap.size, 0, none⟩ 1 1 [.int .i64 dx, .int .i64 nx, .bool bx] rfl rfl (World.news_of_block (cs := #[.int .i64 dx, .int .i64 nx, .bool bx]) (t := 39) (fr := (0, 0)) (heap_alloc_new wr _)) (by intro u hu; simp at hu; rcases hu with rfl | rfl | rfl <;> rfl) (by unfold maxLen; omega) (by omega) (by have := HS2.out; simp; omega) ?_; intro v1 w5 hown1 hgrow1 _ hat1))
            have hz : (wr.alloc (.cells #[.int .i64 dx, .int .i64 nx, .bool bx] 39)).heap.size = wr.heap.size + 1 := by simp
            have HB5 := Lib.hid ((HB2.out.alloc HS2.out _).grown hgrow1 (by rw [hz]; have := HS2.out; omega) (fun g e => (HOW.out.lt g e).1))
            have HO5 := Lib.hid (show OW w5 wr1.heap.size 39 v1 (rowM b (k + 1) 0) from by
              unfold OW
              rw [HRM.out, List.length_append, rowM_len, encW_app]
              exact hown1)
            clear hown1 hgrow1 hat1 hz
            go_roundg (gJ2 - 1)
            case measure => omega
            case rel => exact ⟨k + 1, by go_num, by omega, HO5, HB5⟩
          · have hkm : k = m := by omega
            subst hkm
            obtain ⟨A9, c9, rfl⟩ := HO.out.form
            rw [rowM_len] at HO ⊢
            have HKQ := Lib.hid HMM.out
            have HC9 := Lib.hid (show k ≤ q from hmq)
            go_upto_region 13 with fail
            go_cut [49] (fun v wx => v = .bool false ∧ wr = wx)
            case first =>
              by_cases hkq : (k : Int) < (q : Int)
              · have hk8 : ¬ (k : Int) < 8 := by have := HMM.out; omega
                go_wp2_with fail
                go_meet
                case rel => exact ⟨rfl, rfl⟩
              · go_wp2_with fail
                go_meet
                case rel => exact ⟨rfl, rfl⟩
            case rest =>
              obtain ⟨rfl, hww⟩ := hcut
              obtain rfl := hww
              go_wp2_with fail
              go_loopg [73] k (fun gk u73 wx => ∃ j : Nat, u73 = .int .i64 j ∧ gk + j = k ∧ Hid (OW wx wr1.heap.size 39 (.slice A9 k c9) (rowM b k j)) ∧ Hid (Below wr1.heap.size wr1 wx))
              case atStart => exact ⟨0, rfl, by omega, HO, HB2⟩
              case round =>
                clear HO HB2
                obtain ⟨j, rfl, hgj, HO, HB2⟩ := hrel
                obtain ⟨gJ3, hJ3⟩ : ∃ g, gk = g := ⟨_, rfl⟩
                by_cases hj : j < k
                · have hj2 : (j : Int) < (k : Int) := by omega
                  obtain ⟨g9, c9', e9, hlo9, hlt9⟩ := HO.out.some_ (by rw [rowM_len]; omega)
                  rw [rowM_len] at e9
                  injection e9 with e9 _ e10
                  subst e9 e10
                  obtain ⟨b2, o2, e, _, y0, y1, y2⟩ := HO.out.wan j (by rw [rowM_len]; exact hj)
                  injection e with e
                  injection e with e1 e2
                  subst e1 e2
                  rw [gw_rowM b hj, if_neg (Nat.lt_irrefl j), Nat.zero_add] at y0 y1
                  have HST := Lib.hid (rowM_set b hj)
                  obtain ⟨x, hx⟩ : ∃ x, b.getD j 0 = x := ⟨_, rfl⟩
                  rw [hx] at y0 y1 HST
                  unfold want0 at y0 y1
                  dsimp only at y0 y1
                  obtain ⟨nx, hnx2⟩ : ∃ d, x % 16 = d := ⟨_, rfl⟩
                  have hn16' : nx < 16 := by omega
                  rw [hnx2] at y1 HST
                  obtain ⟨dx, hdx⟩ : ∃ d, dep nx = d := ⟨_, rfl⟩
                  have htm : ((nx : Int) * 7).tmod 5 = (dx : Int) := by rw [tmod5, ← hdx]; rfl
                  rw [hdx] at HST
                  have FZ := fun o => (show OW wr wr1.heap.size 39 (.slice (some ⟨g9, 0, none⟩) (rowM b k j).length c9) (rowM b k j) from by rw [rowM_len]; exact HO.out).frz o
                  have HDP := Lib.hid ((show OW wr wr1.heap.size 39 (.slice (some ⟨g9, 0, none⟩) (rowM b k j).length c9) (rowM b k j) from by rw [rowM_len]; exact HO.out).dp (i := j) (by rw [rowM_len]; exact hj) (dx : Int))
                  rw [HST.out, rowM_len] at HDP
                  have HLO := Lib.hid hlo9
                  clear hx hnx2 hdx y2 HO
                  go_wp2_with fail
                  go_roundg (gJ3 - 1)
                  case measure => omega
                  case rel => exact ⟨j + 1, by go_num, by omega, HDP, Lib.hid (HB2.out.setCell HLO.out _)⟩
                · have hjk : j = k := by omega
                  subst hjk
                  have HMK := Lib.hid (show min (l1.getD i []).length 8 = j from by rw [HBB.out, HQ.out]; exact HMM.out)
                  have HORD := Lib.hid (pl.order_own HO.out rowM_wf (by rw [rowM_len]; omega))
                  unfold pl.OrdE at HORD
                  clear hj
                  go_wp2_with fail
                  refine HORD.out.mono ?_
                  rintro _ w6 ⟨v90, o, rfl, hord, how, hb⟩
                  obtain ⟨A90, c90, rfl⟩ := how.form
                  have HOD := Lib.hid hord
                  have HB6 := Lib.hid (below_step HB2.out hb)
                  have HPL6 := Lib.hid (HPL.out.below HB6.out)
                  have HS6 := Lib.hid (show m2 ≤ wr.heap.size ∧ wr1.heap.size ≤ wr.heap.size ∧ wr.heap.size ≤ w6.heap.size from ⟨Nat.le_trans HSM.out HB2.out.size, HB2.out.size, hb.size⟩)
                  have HOW6 := Lib.hid (how.weak HS6.out.1)
                  have HNE := Lib.hid (fun g (e : (Value.slice A90 o.length c90).ownBlock = some g) => (show u7.ownBlock ≠ some g from fun e2 => by
                    have h3 := (how.olt e).1
                    have h4 := (HPL.out.row.lt g e2).2
                    have := HS6.out.2.1
                    omega))
                  have HVL := Lib.hid (show vs.length = i from by rw [HPL.out.len, hll])
                  have HRW := Lib.hid (show w6.ownsRow m2 22 1 u7 i vs from by have := HPL6.out.row; rw [HVL.out] at this; exact this)
                  clear hord how hb HORD HO HB2
                  go_wp2_with (at_builtin; go_loud (refine wpList_append_own_at _ rfl (.tmp 88) (.tmp 91) 46 rfl m2 22 i1 _ 1 24 Try.underlying46 HI'.out HZ'.out.1 HZ'.out.2.1 HZ'.out.2.2 rfl (by decide) u7 i vs rfl (HRW.out.alloc _) ⟨w6.heap.size, 0, none⟩ 1 1 [.slice A90 o.length c90] rfl rfl (cell_one_new _ _ _) (by intro u hu; simp at hu; subst hu; rfl) (by unfold maxLen; omega) (by omega) (by have := HS6.out; simp; omega) ?_; intro v1 w5 hown1 hgrow1 _ hat1))
                  have HP5 := Lib.hid (PL.push HPL6.out HOW6.out HNE.out (below_alloc w6 _) (by rw [HVL.out]; exact hown1) hgrow1 hat1)
                  have HB5 := Lib.hid (show Below m2 w2 w5 from ((HB.out.trans (HB6.out.mono HSM.out)).alloc (Nat.le_trans HS6.out.1 HS6.out.2.2) _).grown hgrow1 (by rw [World.size_alloc]; have := HS6.out; omega) (fun g e => (HRW.out.lt g e).1))
                  have HOR5 := Lib.hid (show ∀ t, t < i + 1 → IsOrd (rowM (l1.getD t []) (min (l1.getD t []).length 8) (min (l1.getD t []).length 8)) ((ll ++ [o]).getD t []) from fun t ht => by
                    by_cases e : t = i
                    · subst e
                      have e2 : (ll ++ [o]).getD t [] = o := by rw [← hll]; simp [List.getD]
                      rw [e2, HMK.out, HBB.out]
                      exact HOD.out
                    · have e2 : (ll ++ [o]).getD t [] = ll.getD t [] := by simp [List.getD, List.getElem?_append_left (show t < ll.length by omega)]
                      rw [e2]
                      exact HOR.out t (by omega))
                  clear hown1 hgrow1 hat1
                  go_roundg (gJ - 1)
                  case measure => omega
                  case rel => exact ⟨i + 1, _, ll ++ [o], by go_num, by omega, by rw [List.length_append, hll]; rfl, HP5, HOR5, HB5⟩
      · have hin : i = n := by omega
        subst hin
        have hn0 : i ≤ 16 := hn16
        have HPF0 := Lib.hid HPL.out.read
        rw [hll] at HPF0
        obtain ⟨o, ho⟩ : ∃ o : Nat → List Wt, (fun t => ll.getD t []) = o := ⟨_, rfl⟩
        rw [ho] at HPF0
        have HOT := Lib.hid (show ∀ t, t < i → IsOrd (rowM (l1.getD t []) (min (l1.getD t []).length 8) (min (l1.getD t []).length 8)) (o t) from by rw [← ho]; exact HOR.out)
        have HWN := Lib.hid (show ∀ t, t < i → ∀ k, k < (o t).length → Wf (gw (o t) k).n from fun t ht k hk => by
          obtain ⟨z, z1, z2, _⟩ := ord_dep (HOT.out t ht) (gw_mem hk)
          rw [z2]; exact wf_small (by omega) (by omega))
        have hrk := rk_rows (o := o) HOT.out (fun t ht => Nat.min_le_right _ _)
        obtain ⟨M, hM⟩ : ∃ M : Nat → Nat, (fun t => (o t).length) = M := ⟨_, rfl⟩
        obtain ⟨L, hL⟩ : ∃ L : Nat → Nat → Int, (fun t k => (gw (o t) k).n) = L := ⟨_, rfl⟩
        rw [hM, hL] at hrk
        have HRK := Lib.hid hrk
        have HMO := Lib.hid (show ∀ t, M t = (o t).length from fun t => by rw [← hM])
        have HLO := Lib.hid (show ∀ t k, L t k = (gw (o t) k).n from fun t k => by rw [← hL])
        obtain ⟨w3, hmk3, hr3, hb3, hs3⟩ := make_row wr1 i (by omega)
        obtain ⟨w4, hmk4, hr4, hb4, hs4⟩ := make_brow w3 i (by omega)
        obtain ⟨ga, hga⟩ : ∃ g, wr1.heap.size = g := ⟨_, rfl⟩
        obtain ⟨gb, hgb⟩ : ∃ g, w3.heap.size = g := ⟨_, rfl⟩
        obtain ⟨m6, hm6⟩ : ∃ g, w4.heap.size = g := ⟨_, rfl⟩
        have HGG := Lib.hid (show ga ≠ gb ∧ w.heap.size ≤ ga ∧ w.heap.size ≤ gb ∧ m2 ≤ ga ∧ m2 ≤ gb ∧ ga < m6 ∧ gb < m6 ∧ ga < gb from by have := HSM.out; have := HMW.out; omega)
        have HS4 := Lib.hid (show SY w w4 P (Xr m2 m6) (Sd.new i) from ((HSY.out.over (w' := w4) (by
            have h1 := HB.out
            rw [← HM2.out] at h1
            exact below_step (below_step h1 hb3) hb4)).weaken fun b hb => .inr (by rw [HM2.out, hm6]; exact hb)))
        have HPF := Lib.hid (show PF w4 m2 ga u7 i o from by
          rw [← hga]
          exact HPF0.out.keep fun b _ hl => (hb4.block b (by omega)).trans (hb3.block b hl))
        rw [hga] at hmk3 hr3
        rw [hgb] at hmk4 hr4
        have HA4 := Lib.hid (hr3.below hb4)
        have HW4 := Lib.hid hr4
        clear hr3 hb3 hs3 hr4 hb4 hs4 hga hgb hm6 hrk hM hL ho HPF0 HPL HOR HB hi
        go_wp2_with fail
        go_loopg [15] 2000 (fun gk u15 wx => ∃ (p : Nat) (s : Sd) (ax : Nat → Nat) (wt : Nat → Bool), u15 = .int .i64 p ∧ gk + p = 2000 ∧ p ≤ 25 * i ∧ Hid (SY w wx P (Xr m2 m6) s) ∧ Hid (NRow wx ga i ax) ∧ Hid (BRow wx gb i wt) ∧ Hid (Pv M L i s ax wt) ∧ Hid (sumN i (costP M s ax wt) + p ≤ 25 * i ∧ s.N ≤ p) ∧ Hid (PF wx m2 ga u7 i o))
        case atStart => exact ⟨0, Sd.new i, fun _ => 0, fun _ => false, rfl, by omega, by omega, HS4, HA4, HW4, Lib.hid (pv_new M L i), Lib.hid ⟨by have := costP_start (M := M) (n := i) HRK.out.m8; omega, Nat.le_refl _⟩, HPF⟩
        case round =>
          clear HS4 HA4 HW4 HPF hmk3 hmk4
          obtain ⟨p, s, ax, wt, rfl, hgp, hp25, HS, HA, HW, HV, HC, HPF⟩ := hrel
          obtain ⟨gJ4, hJ4⟩ : ∃ g, gk = g := ⟨_, rfl⟩
          have hlt : p < 2000 := by omega
          have hlt2 : (p : Int) < 2000 := by omega
          go_upto_region 29 with fail
          go_cut [108] (fun v wx => ∃ b : Bool, v = .bool b ∧ (b = true → 0 < n2) ∧ wx = wr)
          case first =>
            by_cases h3 : 0 < n2
            · by_cases h4 : p < 800
              · go_wp2_with fail
                go_meet
                case rel => exact ⟨true, by simp <;> omega, fun _ => h3, rfl⟩
              · go_wp2_with fail
                go_meet
                case rel => exact ⟨false, by simp <;> omega, fun h => (nomatch h), rfl⟩
            · go_wp2_with fail
              go_meet
              case rel => exact ⟨false, by simp, fun h => (nomatch h), rfl⟩
          case rest =>
            obtain ⟨b3, rfl, hb3, hwq⟩ := hcut
            subst hwq
            have HB33 := Lib.hid hb3
            have HWC := Lib.hid HS.out.bel
            clear hb3
            go_upto_if 108 with (fail)
            go_cut [16] from 97 to 215 (fun v16 wx => ∃ pk : Nat, v16 = .int .i64 pk ∧ pk ≤ 2000 ∧ wx = wc)
            case first =>
              cases b3 with
              | true =>
                have hn3 := HB33.out rfl
                obtain ⟨d, hd⟩ : ∃ d, p % n2 = d := ⟨_, rfl⟩
                have hdl : d < n2 := by rw [← hd]; exact Nat.mod_lt _ hn3
                have hr : (p : Int).tmod (n2 : Int) = (d : Int) := by rw [Int.tmod_eq_emod_of_nonneg (by omega), ← hd]; exact (Int.natCast_emod p n2).symm
                have hmz : (n2 : Int) ≠ 0 := by omega
                obtain ⟨g3, o3, rfl, _, x3, h256⟩ := (H2.out.below HWC.out) d (by rw [HN2.out]; exact hdl)
                obtain ⟨x, hx⟩ : ∃ x, l2.getD d 0 = x := ⟨_, rfl⟩
                rw [hx] at x3 h256
                clear hd hx
                go_wp2_with fail
                go_meet
                case rel => exact ⟨x, rfl, by omega, rfl⟩
              | false =>
                go_wp2_with fail
                go_meet
                case rel => exact ⟨p, rfl, by omega, rfl⟩
            case rest =>
              obtain ⟨pk, rfl, hpk, hwq⟩ := hcut
              subst hwq
              have KP := Lib.hid (y_pick HS.out pk (by omega))
              by_cases hz : (s.at_ 0).length = 0
              · rw [pick_none hz] at KP
                have hf := HV.out.free HRK.out hz
                have HF1 := Lib.hid hf
                have HST := Lib.hid (stuck_free hf)
                unfold PickE at KP
                dsimp only [Option.getD_none, Option.isSome_none] at KP
                clear hz hf
                go_wp2_with fail
                refine KP.out.mono ?_
                rintro _ w5 ⟨rfl, hb5⟩
                have H5 := Lib.hid (HS.out.below hb5)
                have KS := Lib.hid (y_stuck H5.out)
                rw [HST.out] at KS
                unfold RetB at KS
                clear hb5 KP
                go_wp2_with fail
                refine KS.out.mono ?_
                rintro _ w6 ⟨rfl, hb6⟩
                have H6 := Lib.hid (H5.out.below hb6)
                have KW := Lib.hid (y_waiting H6.out)
                clear hb6 KS
                go_wp2_with fail
                refine KW.out.mono ?_
                rintro _ w7 hE
                obtain ⟨A7, c7, rfl, ho7, hb7⟩ := hE.lift (Below.refl _ _)
                rw [HF1.out]
                have HF := Lib.hid (below_step H6.out.bel hb7)
                clear hE ho7 hb7 KW
                go_wp2_with fail
                go_ret
                exact ⟨rfl, HF.out⟩
              · obtain ⟨mz, hm⟩ : ∃ m, (s.at_ 0).length = m := ⟨_, rfl⟩
                obtain ⟨t, hpick, htm⟩ := pick_in (p := pk) hm (by omega)
                rw [hpick] at KP
                have HST := Lib.hid (stuck_not hz)
                have HTN := Lib.hid (show t < i ∧ s.T.st t = 0 from by have := at_mem.1 htm; rw [HV.out.c.num] at this; exact this)
                unfold PickE at KP
                dsimp only [Option.getD_some, Option.isSome_some] at KP
                clear hz hm hpick htm
                go_wp2_with fail
                refine KP.out.mono ?_
                rintro _ w5 ⟨rfl, hb5⟩
                have H5 := Lib.hid (HS.out.below hb5)
                have KS := Lib.hid (y_stuck H5.out)
                rw [HST.out] at KS
                unfold RetB at KS
                have HB5 := Lib.hid hb5
                clear hb5 KP
                go_wp2_with fail
                refine KS.out.mono ?_
                rintro _ w6 ⟨rfl, hb6⟩
                have HB6 := Lib.hid (below_step HB5.out hb6)
                have H6 := Lib.hid (HS.out.below HB6.out)
                have HA6 := Lib.hid (HA.out.below HB6.out)
                have HW6 := Lib.hid (HW.out.below HB6.out)
                have HPF6 := Lib.hid (HPF.out.keep (w' := w6) fun b _ hl => HB6.out.block b (Nat.lt_trans hl HA.out.1))
                have htn := HTN.out.1
                have htn2 : (t : Int) < (i : Int) := by omega
                have xa := HA6.out.2.1 t htn
                have xw := HW6.out.2.1 t htn
                have fa := HA6.out.2.2
                have fw := HW6.out.2.2
                obtain ⟨A, c, rfl, hpf⟩ := HPF6.out.form
                obtain ⟨gp, rfl, hgp1, hgp2, A', c', z1, hpz⟩ := hpf t htn
                have HPZ := Lib.hid hpz
                have HCO := Lib.hid HC.out
                have hle16 := HV.out.c.le t htn
                have HMT := Lib.hid (HMO.out t)
                obtain ⟨m, hm⟩ : ∃ m, (o t).length = m := ⟨_, rfl⟩
                have HOM := Lib.hid hm
                have HMM := Lib.hid (show M t = m from by rw [HMT.out, hm])
                have hm8 : m ≤ 8 := by have := HRK.out.m8 t htn; rw [HMM.out] at this; exact this
                obtain ⟨a, ha⟩ : ∃ a, ax t = a := ⟨_, rfl⟩
                obtain ⟨v, hv⟩ : ∃ v, wt t = v := ⟨_, rfl⟩
                have HAE := Lib.hid ha
                have HVE := Lib.hid hv
                rw [ha] at xa hle16
                rw [HMM.out] at hle16
                rw [hv] at xw
                rw [hm] at z1 HPZ
                have HNE := Lib.hid HGG.out.1
                clear hb6 KS ha hv hm hpz hpf
                cases v
                · by_cases h8 : a < m
                  · have h8i : (a : Int) < (m : Int) := by omega
                    as_aux_lemma =>
                      obtain ⟨g, rfl, hg1, hg2, z2, z3⟩ := HPZ.out a h8
                      have HLT := Lib.hid (HLO.out t a)
                      have HWL := Lib.hid (HWN.out t htn a (by rw [HOM.out]; exact h8))
                      obtain ⟨ln, hln⟩ : ∃ l, (gw (o t) a).n = l := ⟨_, rfl⟩
                      obtain ⟨bw, hbw⟩ : ∃ b, (gw (o t) a).w = b := ⟨_, rfl⟩
                      rw [hln] at z2 HLT HWL
                      rw [hbw] at z3
                      have HNV := Lib.hid (HV.out.lock HRK.out htn HVE.out HTN.out.2 (by rw [HAE.out, HMM.out]; exact h8) bw)
                      rw [HAE.out, HLT.out] at HNV
                      have H6d := Lib.hid (H6.out.below (Below.refl _ _).drew)
                      have HA6d := Lib.hid (HA6.out.below (Below.refl _ _).drew)
                      have HW6d := Lib.hid (HW6.out.below (Below.refl _ _).drew)
                      have HP6d := Lib.hid (show PF w6.drew m2 ga (.slice (some ⟨gp, 0, none⟩) i c) i o from HPF6.out.keep fun b _ hl => rfl)
                      have KL := Lib.hid (y_lock H6d.out (t := (t : Int)) (l := ln) (by have := HCO.out.1; have := HCO.out.2; omega) HWL.out bw)
                      have HLN := Lib.hid (lock_N s (t : Int) ln bw)
                      have HCG := Lib.hid (costP_got HV.out (l := ln) (b := bw) htn HVE.out HTN.out.2 (by rw [HAE.out, HMM.out]; exact h8))
                      have HCW := Lib.hid (costP_wait HV.out (l := ln) (b := bw) htn HVE.out HTN.out.2 (by rw [HAE.out, HMM.out]; exact h8))
                      unfold YL at KL
                      obtain ⟨r, hr⟩ : ∃ r, s.lock (t : Int) ln bw = r := ⟨_, rfl⟩
                      rw [hr] at KL HLN HNV HCG HCW
                      obtain ⟨r1, r2, r3⟩ := r
                      dsimp only at KL HLN HNV HCG HCW
                      have hr2 := HNV.out.1
                      subst hr2
                      have HGX := Lib.hid (show Xr m2 m6 g from ⟨hg1, by have := HGG.out.2.2.2.2.2.1; omega⟩)
                      have S0 : w6.drew.cell? ⟨g, a * 3 + 1, none⟩ = some (.int .i64 ln) ∧ w6.drew.cell? ⟨g, a * 3 + 2, none⟩ = some (.bool bw) := ⟨z2, z3⟩
                      have HZ2 := Lib.hid S0
                      clear hr hln hbw z2 z3
                      go_wp2_with fail
                      go_region_held3 (fun w' => w'.cell? ⟨g, a * 3 + 1, none⟩ = some (.int .i64 ln) ∧ w'.cell? ⟨g, a * 3 + 2, none⟩ = some (.bool bw))
                        (first | with_reducible exact S0 | with_reducible exact S7 | assumption | go_keep)
                        (first | (go_at_call 24; ((with_reducible refine KL.out.mono ?_); rintro _ w7 ⟨rfl, h7, hs7⟩; have H7 := Lib.hid h7; have HS7 := Lib.hid hs7; have S7 : w7.cell? ⟨g, a * 3 + 1, none⟩ = some (.int .i64 ln) ∧ w7.cell? ⟨g, a * 3 + 2, none⟩ = some (.bool bw) := ⟨(World.cell?_of_block (a := ⟨g, a * 3 + 1, none⟩) (hs7 g HGX.out)).trans HZ2.out.1, (World.cell?_of_block (a := ⟨g, a * 3 + 2, none⟩) (hs7 g HGX.out)).trans HZ2.out.2⟩; clear h7 hs7)))
                      all_goals
                        clear S0 S7
                        have HXA := Lib.hid (show Xr m2 m6 ga from ⟨HGG.out.2.2.2.1, HGG.out.2.2.2.2.2.1⟩)
                        have HXB := Lib.hid (show Xr m2 m6 gb from ⟨HGG.out.2.2.2.2.1, HGG.out.2.2.2.2.2.2.1⟩)
                        have HA7 := Lib.hid (HA6d.out.keep (H7.out.lt HXA.out) (HS7.out ga HXA.out))
                        have HW7 := Lib.hid (HW6d.out.keep (H7.out.lt HXB.out) (HS7.out gb HXB.out))
                        have HP7 := Lib.hid (HP6d.out.keep (w' := w7) fun b hb1 hl => HS7.out b ⟨hb1, by have := HGG.out.2.2.2.2.2.1; omega⟩)
                        have yw := HW7.out.2.1 t htn
                        have ywf := HW7.out.2.2
                        rw [HVE.out] at yw
                        obtain ⟨w8, hw8⟩ : ∃ w8, w7.setCell ⟨gb, t, none⟩ (.bool (!r1)) = w8 := ⟨_, rfl⟩
                        have HW8 := Lib.hid (show BRow w8 gb i (upb wt t (!r1)) from by rw [← hw8]; exact HW7.out.put htn (!r1))
                        have HA8 := Lib.hid (show NRow w8 ga i ax from by rw [← hw8]; exact HA7.out.other (fun e => HNE.out e) _)
                        have H8 := Lib.hid (show SY w w8 P (Xr m2 m6) r3 from by rw [← hw8]; exact H7.out.cell HXB.out HGG.out.2.2.1 _)
                        have HP8 := Lib.hid (show PF w8 m2 ga (.slice (some ⟨gp, 0, none⟩) i c) i o from by rw [← hw8]; exact HP7.out.keep fun b _ hl => Below.heap_setCell _ _ _ _ (by have := HGG.out.2.2.2.2.2.2.2; show ¬ b = gb; omega))
                        have ya := HA8.out.2.1 t htn
                        have yf := HA8.out.2.2
                        rw [HAE.out] at ya
                        cases r1 with
                        | true =>
                          have HV9 := Lib.hid (HNV.out.2.1 rfl)
                          rw [← HAE.out] at HV9
                          have HW8' := Lib.hid (show BRow w8 gb i wt from by have := HW8.out; rw [upb_id (show wt t = !true from HVE.out)] at this; exact this)
                          obtain ⟨w9, hw9⟩ : ∃ w9, w8.setCell ⟨ga, t, none⟩ (.int .i64 ((a + 1 : Nat) : Int)) = w9 := ⟨_, rfl⟩
                          have HA9 := Lib.hid (show NRow w9 ga i (upn ax t (ax t + 1)) from by rw [← hw9, HAE.out]; exact HA8.out.put htn (a + 1))
                          have HW9 := Lib.hid (show BRow w9 gb i wt from by rw [← hw9]; exact HW8'.out.other (fun e => HNE.out e.symm) _)
                          have H9 := Lib.hid (show SY w w9 P (Xr m2 m6) r3 from by rw [← hw9]; exact H8.out.cell HXA.out HGG.out.2.1 _)
                          have HP9 := Lib.hid (show PF w9 m2 ga (.slice (some ⟨gp, 0, none⟩) i c) i o from by rw [← hw9]; exact HP8.out.keep fun b _ hl => Below.heap_setCell _ _ _ _ (by show ¬ b = ga; omega))
                          rw [show ((a + 1 : Nat) : Int) = (a : Int) + 1 by omega] at hw9
                          simp only [Bool.not_true] at hw8
                          have HCS := Lib.hid HCG.out
                          clear fa fw xw xa
                          go_wp2_with fail
                          go_roundg (gJ4 - 1)
                          case measure => omega
                          case rel => exact ⟨p + 1, r3, upn ax t (ax t + 1), wt, by go_num, by omega, by have := HCO.out.1; have := HCS.out; omega, H9, HA9, HW9, HV9, Lib.hid ⟨by have := HCO.out.1; have := HCS.out; omega, by have := HCO.out.2; have := HLN.out.1; omega⟩, HP9⟩
                        | false =>
                          have HV9 := Lib.hid (HNV.out.2.2 rfl)
                          simp only [Bool.not_false] at hw8 HW8
                          have HCS := Lib.hid HCW.out
                          clear fa fw xw xa
                          go_wp2_with fail
                          go_roundg (gJ4 - 1)
                          case measure => omega
                          case rel => exact ⟨p + 1, r3, ax, upb wt t true, by go_num, by omega, by have := HCO.out.1; have := HCS.out; omega, H8, HA8, HW8, HV9, Lib.hid ⟨by have := HCO.out.1; have := HCS.out; omega, by have := HCO.out.2; have := HLN.out.1; omega⟩, HP8⟩
                  · have h8i : ¬ (a : Int) < (m : Int) := by omega
                    by_cases h16 : a < 2 * m
                    · have h16i : (a : Int) < 2 * (m : Int) := by omega
                      as_aux_lemma =>
                        obtain ⟨d8, hd8⟩ : ∃ d, a - m = d := ⟨_, rfl⟩
                        have hd9 : (a : Int) - (m : Int) = (d8 : Int) := by omega
                        have hdm : d8 < m := by omega
                        have hdmi : (d8 : Int) < (m : Int) := by omega
                        obtain ⟨g, rfl, hg1, hg2, z2, z3⟩ := HPZ.out d8 hdm
                        have HLT := Lib.hid (HLO.out t d8)
                        have HWL := Lib.hid (HWN.out t htn d8 (by rw [HOM.out]; exact hdm))
                        obtain ⟨ln, hln⟩ : ∃ l, (gw (o t) d8).n = l := ⟨_, rfl⟩
                        rw [hln] at z2 HLT HWL
                        have HAD := Lib.hid (show ax t - M t = d8 from by rw [HAE.out, HMM.out]; exact hd8)
                        have HNV := Lib.hid (HV.out.unlock HRK.out htn HVE.out HTN.out.2 (by rw [HAE.out, HMM.out]; omega) (by rw [HAE.out, HMM.out]; exact h16))
                        rw [HAD.out, HLT.out] at HNV
                        have KU := Lib.hid (y_unlock H6.out (t := (t : Int)) (l := ln) (by have := HCO.out.1; have := HCO.out.2; omega) HWL.out)
                        have HUN := Lib.hid (unlock_N s (t : Int) ln)
                        have HCB := Lib.hid (costP_back HV.out (l := ln) htn HVE.out HTN.out.2 (by rw [HAE.out, HMM.out]; omega) (by rw [HAE.out, HMM.out]; exact h16))
                        unfold YU at KU
                        obtain ⟨r, hr⟩ : ∃ r, s.unlock (t : Int) ln = r := ⟨_, rfl⟩
                        rw [hr] at KU HUN HNV HCB
                        obtain ⟨r1, r3⟩ := r
                        dsimp only at KU HUN HNV HCB
                        have hr1 := HNV.out.1
                        subst hr1
                        have HV9 := Lib.hid HNV.out.2
                        have HXA := Lib.hid (show Xr m2 m6 ga from ⟨HGG.out.2.2.2.1, HGG.out.2.2.2.2.2.1⟩)
                        have HXB := Lib.hid (show Xr m2 m6 gb from ⟨HGG.out.2.2.2.2.1, HGG.out.2.2.2.2.2.2.1⟩)
                        clear hr hln z3 hd8
                        go_wp2_with fail
                        refine KU.out.mono ?_
                        rintro _ w7 ⟨rfl, h7, hs7⟩
                        have H7 := Lib.hid h7
                        have HA7 := Lib.hid (HA6.out.keep (h7.lt HXA.out) (hs7 ga HXA.out))
                        have HW7 := Lib.hid (HW6.out.keep (h7.lt HXB.out) (hs7 gb HXB.out))
                        have HP7 := Lib.hid (HPF6.out.keep (w' := w7) fun b hb1 hl => hs7 b ⟨hb1, by have := HGG.out.2.2.2.2.2.1; omega⟩)
                        clear h7 hs7 KU xa xw fa fw z2
                        have ya := HA7.out.2.1 t htn
                        have yf := HA7.out.2.2
                        rw [HAE.out] at ya
                        obtain ⟨w9, hw9⟩ : ∃ w9, w7.setCell ⟨ga, t, none⟩ (.int .i64 ((a + 1 : Nat) : Int)) = w9 := ⟨_, rfl⟩
                        have HA9 := Lib.hid (show NRow w9 ga i (upn ax t (ax t + 1)) from by rw [← hw9, HAE.out]; exact HA7.out.put htn (a + 1))
                        have HW9 := Lib.hid (show BRow w9 gb i wt from by rw [← hw9]; exact HW7.out.other (fun e => HNE.out e.symm) _)
                        have H9 := Lib.hid (show SY w w9 P (Xr m2 m6) r3 from by rw [← hw9]; exact H7.out.cell HXA.out HGG.out.2.1 _)
                        have HP9 := Lib.hid (show PF w9 m2 ga (.slice (some ⟨gp, 0, none⟩) i c) i o from by rw [← hw9]; exact HP7.out.keep fun b _ hl => Below.heap_setCell _ _ _ _ (by show ¬ b = ga; omega))
                        rw [show ((a + 1 : Nat) : Int) = (a : Int) + 1 by omega] at hw9
                        have HCS := Lib.hid HCB.out
                        go_wp2_with fail
                        go_roundg (gJ4 - 1)
                        case measure => omega
                        case rel => exact ⟨p + 1, r3, upn ax t (ax t + 1), wt, by go_num, by omega, by have := HCO.out.1; have := HCS.out; omega, H9, HA9, HW9, HV9, Lib.hid ⟨by have := HCO.out.1; have := HCS.out; omega, by have := HCO.out.2; have := HUN.out.1; omega⟩, HP9⟩
                    · have h16i : ¬ (a : Int) < 2 * (m : Int) := by omega
                      as_aux_lemma =>
                        have ha16 : a = 2 * m := by omega
                        have KD := Lib.hid (y_done H6.out (t : Int))
                        have HN := Lib.hid (HV.out.done htn HVE.out HTN.out.2 (by rw [HAE.out, HMM.out]; exact ha16))
                        have HDN := Lib.hid (done_N s (t : Int))
                        unfold YU at KD
                        obtain ⟨r, hr⟩ : ∃ r, s.done (t : Int) = r := ⟨_, rfl⟩
                        rw [hr] at KD HN HDN
                        obtain ⟨r1, r3⟩ := r
                        dsimp only at KD HN HDN
                        have hr1 := HN.out.1
                        subst hr1
                        have HCS := Lib.hid (costP_done (M := M) (ax := ax) (wx := wt) htn HTN.out.2 (by rw [HAE.out, HMM.out]; exact ha16) HN.out.2.2.1 HN.out.2.2.2)
                        have HXA := Lib.hid (show Xr m2 m6 ga from ⟨HGG.out.2.2.2.1, HGG.out.2.2.2.2.2.1⟩)
                        have HXB := Lib.hid (show Xr m2 m6 gb from ⟨HGG.out.2.2.2.2.1, HGG.out.2.2.2.2.2.2.1⟩)
                        clear hr ha16
                        go_wp2_with fail
                        refine KD.out.mono ?_
                        rintro _ w7 ⟨rfl, h7, hs7⟩
                        have H7 := Lib.hid h7
                        have HA7 := Lib.hid (HA6.out.keep (h7.lt HXA.out) (hs7 ga HXA.out))
                        have HW7 := Lib.hid (HW6.out.keep (h7.lt HXB.out) (hs7 gb HXB.out))
                        have HP7 := Lib.hid (HPF6.out.keep (w' := w7) fun b hb1 hl => hs7 b ⟨hb1, by have := HGG.out.2.2.2.2.2.1; omega⟩)
                        clear h7 hs7 KD
                        go_wp2_with fail
                        go_roundg (gJ4 - 1)
                        case measure => omega
                        case rel => exact ⟨p + 1, r3, ax, wt, by go_num, by omega, by have := HCO.out.1; have := HCS.out; omega, H7, HA7, HW7, Lib.hid HN.out.2.1, Lib.hid ⟨by have := HCO.out.1; have := HCS.out; omega, by have := HCO.out.2; have := HDN.out.1; omega⟩, HP7⟩
                · as_aux_lemma =>
                    obtain ⟨w7, hw7⟩ : ∃ w7, w6.setCell ⟨gb, t, none⟩ (.bool false) = w7 := ⟨_, rfl⟩
                    have HA7 := Lib.hid (show NRow w7 ga i ax from by rw [← hw7]; exact HA6.out.other (fun e => HNE.out e) _)
                    have HW7 := Lib.hid (show BRow w7 gb i (upb wt t false) from by rw [← hw7]; exact HW6.out.put htn false)
                    have H7 := Lib.hid (show SY w w7 P (Xr m2 m6) s from by rw [← hw7]; exact H6.out.cell ⟨HGG.out.2.2.2.2.1, HGG.out.2.2.2.2.2.2.1⟩ HGG.out.2.2.1 _)
                    have HP7 := Lib.hid (show PF w7 m2 ga (.slice (some ⟨gp, 0, none⟩) i c) i o from by rw [← hw7]; exact HPF6.out.keep fun b _ hl => Below.heap_setCell _ _ _ _ (by have := HGG.out.2.2.2.2.2.2.2; show ¬ b = gb; omega))
                    have ya := HA7.out.2.1 t htn
                    have yf := HA7.out.2.2
                    rw [HAE.out] at ya
                    obtain ⟨w8, hw8⟩ : ∃ w8, w7.setCell ⟨ga, t, none⟩ (.int .i64 ((a + 1 : Nat) : Int)) = w8 := ⟨_, rfl⟩
                    have HA8 := Lib.hid (show NRow w8 ga i (upn ax t (ax t + 1)) from by rw [← hw8, HAE.out]; exact HA7.out.put htn (a + 1))
                    have HW8 := Lib.hid (show BRow w8 gb i (upb wt t false) from by rw [← hw8]; exact HW7.out.other (fun e => HNE.out e.symm) _)
                    have H8 := Lib.hid (show SY w w8 P (Xr m2 m6) s from by rw [← hw8]; exact H7.out.cell ⟨HGG.out.2.2.2.1, HGG.out.2.2.2.2.2.1⟩ HGG.out.2.1 _)
                    have HP8 := Lib.hid (show PF w8 m2 ga (.slice (some ⟨gp, 0, none⟩) i c) i o from by rw [← hw8]; exact HP7.out.keep fun b _ hl => Below.heap_setCell _ _ _ _ (by show ¬ b = ga; omega))
                    have HV8 := Lib.hid (HV.out.next htn HVE.out HTN.out.2)
                    have HCS := Lib.hid (costP_next HV.out htn HVE.out HTN.out.2)
                    rw [show ((a + 1 : Nat) : Int) = (a : Int) + 1 by omega] at hw8
                    go_wp2_with fail
                    go_roundg (gJ4 - 1)
                    case measure => omega
                    case rel => exact ⟨p + 1, s, _, _, by go_num, by omega, by have := HCO.out.1; have := HCS.out; omega, H8, HA8, HW8, HV8, Lib.hid ⟨by have := HCO.out.1; have := HCS.out; omega, by have := HCO.out.2; omega⟩, HP8⟩
end Go.Proofs.Ytlplbpilpkmoaaa.sc
