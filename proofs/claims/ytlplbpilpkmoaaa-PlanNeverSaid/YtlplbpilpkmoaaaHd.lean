/- container/heap's 'down', over the interface value of a queue's items. -/
import Derived.Test.YtlplbpilpkmoaaaHu
namespace Go.Proofs.Ytlplbpilpkmoaaa.hp
open Go.RowKit
set_option linter.unusedVariables false

def DownE (w : World) (Q G c : Nat) (ys : Array It) (e : Ending) (w' : World) : Prop := (∃ b, e = .returned (.bool b)) ∧ Hp w' Q G c ys ∧ w.grownBy w' (some G)

set_option maxHeartbeats 4000000 in
theorem down_any (Q G c N i0 m : Nat) (xs : Array It) (w : World) (hn : N = xs.size) (hi0 : i0 ≤ m) (hm : m ≤ N) (hN : N ≤ 1000000) (h : Hp w Q G c xs) :
    Calls Try.prog 40 #[.iface 60 (Pq Q), .int .i64 i0, .int .i64 m] w (DownE w Q G c (down xs i0 m)) := by
  have E50 := e50
  have E51 := e51
  unfold Enters at E50 E51
  generalize hr : down xs i0 m = rs
  have HR := Lib.hid hr
  have HN := Lib.hid hn
  have HW := Lib.hid h
  clear hr hn h
  go_enter Try.func40, Try.ntmps40
  go_wp2_with fail
  go_loopg [7] (m - i0) (fun k s wr => ∃ (i : Nat) (ys : Array It), s = .int .i64 i ∧ k + i = m ∧ Hid (N = ys.size) ∧ Hid (Hp wr Q G c ys) ∧ Hid (down ys i m = rs) ∧ w.grownBy wr (some G))
  case atStart => exact ⟨i0, xs, rfl, by omega, HN, HW, HR, grownBy_refl _ _⟩
  case round =>
    clear HR HN HW
    obtain ⟨i, ys, rfl, hk, HN, HP, HR, hgr⟩ := hrel
    obtain ⟨a1, ha1⟩ : ∃ a, 2 * i + 1 = a := ⟨_, rfl⟩
    obtain ⟨a2, ha2⟩ : ∃ a, a1 + 1 = a := ⟨_, rfl⟩
    have hj1 : 2 * (i : Int) + 1 = (a1 : Int) := by omega
    have hj2 : (a1 : Int) + 1 = (a2 : Int) := by omega
    have hpos : ¬ ((a1 : Int) < 0) := by omega
    by_cases h0 : a1 < m
    · have hge : ¬ ((m : Int) ≤ (a1 : Int)) := by omega
      by_cases h2 : a2 < m
      · have hm1 := m_less Q wr _ HP.out.cell
        rw [← HN.out] at hm1
        have HC1 := Lib.hid (fun (b : Bool) hb => HP.out.less HN.out (show a2 < N by omega) (show a1 < N by omega) hN (b := b) hb)
        by_cases hl : lt (g ys a2) (g ys a1)
        · have HCC := Lib.hid (show child ys i m = a2 by unfold child; rw [show 2 * i + 2 = a2 by omega, ha1, if_pos ⟨h2, hl⟩])
          have HB1 := Lib.hid (HC1.out true hl)
          clear hl HC1
          have HA := Lib.hid (And.intro ha1 ha2)
          have hi2 : i < a1 := by omega
          have ha12 : a2 = a1 + 1 := by omega
          have HA12 := Lib.hid ha12
          clear ha1 ha2 ha12
          go_wp2_with fail
          refine HB1.out.mono ?_
          rintro e w2 ⟨rfl, hb⟩
          have HP2 := Lib.hid (HP.out.below hb)
          have hgr2 := grownBy_trans hgr (grownBy_below hb _)
          clear hm1 HB1
          have hi3 : i < a2 := by have := HA12.out; omega
          have hcm : a2 < m := by omega
          have HC := Lib.hid (fun (b : Bool) hb => HP2.out.less HN.out (show a2 < N by omega) (show i < N by omega) hN (b := b) hb)
          have hm2 := m_less Q w2 _ HP2.out.cell
          rw [← HN.out] at hm2
          by_cases hl2 : lt (g ys a2) (g ys i)
          · have HL2 := Lib.hid hl2
            have HB := Lib.hid (HC.out true hl2)
            clear hl2 HC
            go_wp2_with fail
            refine HB.out.mono ?_
            rintro e w3 ⟨rfl, hb3⟩
            have HP3 := Lib.hid (HP2.out.below hb3)
            have hm3 := m_swap Q w3 _ HP3.out.cell
            rw [← HN.out] at hm3
            have HS := Lib.hid (swap_any G c N i a2 ys w3 HN.out (by omega) (by omega) HP3.out.row hN)
            clear hm2 HB
            go_wp2_with fail
            refine HS.out.mono ?_
            rintro e w4 hs
            obtain ⟨rfl, hs2⟩ := id hs
            have HP4 := Lib.hid (HP3.out.swap hs (size_swp _ _ _))
            have hg4 := grownBy_trans (grownBy_trans hgr2 (grownBy_below hb3 _)) hs.2.2
            have HR4 := Lib.hid (show down (swp ys i a2) a2 m = rs by
              have h1 := HR.out
              rw [down_go (by omega) (by rw [HCC.out]; exact HL2.out), HCC.out] at h1
              exact h1)
            clear hm3 hs hs2 HS
            go_wp2_with fail
            go_roundg (m - a2)
            case measure => omega
            case rel => exact ⟨a2, _, rfl, by omega, Lib.hid (by rw [size_swp]; exact HN.out), HP4, HR4, hg4⟩
          · have HB := Lib.hid (HC.out false (by simpa [lt] using hl2))
            have HR3 := Lib.hid (show ys = rs by
              have h1 := HR.out
              rw [down_stop (.inr (by rw [HCC.out]; exact hl2))] at h1
              exact h1)
            clear hl2 HC
            go_wp2_with fail
            refine HB.out.mono ?_
            rintro e w3 ⟨rfl, hb3⟩
            have HP3 := Lib.hid (HP2.out.below hb3)
            go_wp2_with fail
            go_ret
            exact ⟨⟨_, rfl⟩, by rw [← HR3.out]; exact HP3.out, grownBy_trans hgr2 (grownBy_below hb3 _)⟩
        · have HCC := Lib.hid (show child ys i m = a1 by unfold child; rw [show 2 * i + 2 = a2 by omega, ha1, if_neg (fun h => hl h.2)])
          have HB1 := Lib.hid (HC1.out false (by simpa [lt] using hl))
          clear hl HC1
          have HA := Lib.hid (And.intro ha1 ha2)
          have hi2 : i < a1 := by omega
          clear ha1 ha2
          go_wp2_with fail
          refine HB1.out.mono ?_
          rintro e w2 ⟨rfl, hb⟩
          have HP2 := Lib.hid (HP.out.below hb)
          have hgr2 := grownBy_trans hgr (grownBy_below hb _)
          clear hm1 HB1
          have hcm : a1 < m := by omega
          have HC := Lib.hid (fun (b : Bool) hb => HP2.out.less HN.out (show a1 < N by omega) (show i < N by omega) hN (b := b) hb)
          have hm2 := m_less Q w2 _ HP2.out.cell
          rw [← HN.out] at hm2
          by_cases hl2 : lt (g ys a1) (g ys i)
          · have HL2 := Lib.hid hl2
            have HB := Lib.hid (HC.out true hl2)
            clear hl2 HC
            go_wp2_with fail
            refine HB.out.mono ?_
            rintro e w3 ⟨rfl, hb3⟩
            have HP3 := Lib.hid (HP2.out.below hb3)
            have hm3 := m_swap Q w3 _ HP3.out.cell
            rw [← HN.out] at hm3
            have HS := Lib.hid (swap_any G c N i a1 ys w3 HN.out (by omega) (by omega) HP3.out.row hN)
            clear hm2 HB
            go_wp2_with fail
            refine HS.out.mono ?_
            rintro e w4 hs
            obtain ⟨rfl, hs2⟩ := id hs
            have HP4 := Lib.hid (HP3.out.swap hs (size_swp _ _ _))
            have hg4 := grownBy_trans (grownBy_trans hgr2 (grownBy_below hb3 _)) hs.2.2
            have HR4 := Lib.hid (show down (swp ys i a1) a1 m = rs by
              have h1 := HR.out
              rw [down_go (by omega) (by rw [HCC.out]; exact HL2.out), HCC.out] at h1
              exact h1)
            clear hm3 hs hs2 HS
            go_wp2_with fail
            go_roundg (m - a1)
            case measure => omega
            case rel => exact ⟨a1, _, rfl, by omega, Lib.hid (by rw [size_swp]; exact HN.out), HP4, HR4, hg4⟩
          · have HB := Lib.hid (HC.out false (by simpa [lt] using hl2))
            have HR3 := Lib.hid (show ys = rs by
              have h1 := HR.out
              rw [down_stop (.inr (by rw [HCC.out]; exact hl2))] at h1
              exact h1)
            clear hl2 HC
            go_wp2_with fail
            refine HB.out.mono ?_
            rintro e w3 ⟨rfl, hb3⟩
            have HP3 := Lib.hid (HP2.out.below hb3)
            go_wp2_with fail
            go_ret
            exact ⟨⟨_, rfl⟩, by rw [← HR3.out]; exact HP3.out, grownBy_trans hgr2 (grownBy_below hb3 _)⟩
      · have HCC := Lib.hid (show child ys i m = a1 by unfold child; rw [show 2 * i + 2 = a2 by omega, ha1, if_neg (fun h => h2 h.1)])
        have HA := Lib.hid (And.intro ha1 ha2)
        have hi2 : i < a1 := by omega
        have hnl : ¬ ((a2 : Int) < (m : Int)) := by omega
        clear ha1 ha2 h2
        have HP2 := HP
        have hgr2 := hgr
        clear HP hgr
        generalize hww : wr = w2 at *
        clear hww
        have hcm : a1 < m := by omega
        have HC := Lib.hid (fun (b : Bool) hb => HP2.out.less HN.out (show a1 < N by omega) (show i < N by omega) hN (b := b) hb)
        have hm2 := m_less Q w2 _ HP2.out.cell
        rw [← HN.out] at hm2
        by_cases hl2 : lt (g ys a1) (g ys i)
        · have HL2 := Lib.hid hl2
          have HB := Lib.hid (HC.out true hl2)
          clear hl2 HC
          go_wp2_with fail
          refine HB.out.mono ?_
          rintro e w3 ⟨rfl, hb3⟩
          have HP3 := Lib.hid (HP2.out.below hb3)
          have hm3 := m_swap Q w3 _ HP3.out.cell
          rw [← HN.out] at hm3
          have HS := Lib.hid (swap_any G c N i a1 ys w3 HN.out (by omega) (by omega) HP3.out.row hN)
          clear hm2 HB
          go_wp2_with fail
          refine HS.out.mono ?_
          rintro e w4 hs
          obtain ⟨rfl, hs2⟩ := id hs
          have HP4 := Lib.hid (HP3.out.swap hs (size_swp _ _ _))
          have hg4 := grownBy_trans (grownBy_trans hgr2 (grownBy_below hb3 _)) hs.2.2
          have HR4 := Lib.hid (show down (swp ys i a1) a1 m = rs by
            have h1 := HR.out
            rw [down_go (by omega) (by rw [HCC.out]; exact HL2.out), HCC.out] at h1
            exact h1)
          clear hm3 hs hs2 HS
          go_wp2_with fail
          go_roundg (m - a1)
          case measure => omega
          case rel => exact ⟨a1, _, rfl, by omega, Lib.hid (by rw [size_swp]; exact HN.out), HP4, HR4, hg4⟩
        · have HB := Lib.hid (HC.out false (by simpa [lt] using hl2))
          have HR3 := Lib.hid (show ys = rs by
            have h1 := HR.out
            rw [down_stop (.inr (by rw [HCC.out]; exact hl2))] at h1
            exact h1)
          clear hl2 HC
          go_wp2_with fail
          refine HB.out.mono ?_
          rintro e w3 ⟨rfl, hb3⟩
          have HP3 := Lib.hid (HP2.out.below hb3)
          go_wp2_with fail
          go_ret
          exact ⟨⟨_, rfl⟩, by rw [← HR3.out]; exact HP3.out, grownBy_trans hgr2 (grownBy_below hb3 _)⟩
    · have HR3 := Lib.hid (show ys = rs by
        have h1 := HR.out
        rw [down_stop (.inl (by omega))] at h1
        exact h1)
      have hge : (m : Int) ≤ (a1 : Int) := by omega
      clear ha1 ha2 h0
      go_wp2_with fail
      go_ret
      exact ⟨⟨_, rfl⟩, by rw [← HR3.out]; exact HP.out, hgr⟩
end Go.Proofs.Ytlplbpilpkmoaaa.hp
