/- container/heap's 'up', over the interface value of a queue's items. -/
import Derived.Test.YtlplbpilpkmoaaaHr
import Derived.Shelf.Abstract
namespace Go.Proofs.Ytlplbpilpkmoaaa.hp
open Go.RowKit
set_option linter.unusedVariables false

abbrev Pq (Q : Nat) : Value := .pointer (some ⟨Q, 0, none⟩)
theorem e49 : Enters Try.prog 63 := enters_of Try.func63 (by kernel_rfl) rfl
theorem e50 : Enters Try.prog 64 := enters_of Try.func64 (by kernel_rfl) rfl
theorem e51 : Enters Try.prog 65 := enters_of Try.func65 (by kernel_rfl) rfl
theorem e53 : Enters Try.prog 66 := enters_of Try.func66 (by kernel_rfl) rfl
theorem e54 : Enters Try.prog 67 := enters_of Try.func67 (by kernel_rfl) rfl

/-- A queue's row, and the cell that leads to it. -/
structure Hp (w : World) (Q G c : Nat) (xs : Array It) : Prop where
  row : QRow w G c xs
  cell : w.cell? ⟨Q, 0, none⟩ = some (.slice (some ⟨G, 0, none⟩) xs.size c)
  ne : Q ≠ G
theorem Hp.lt {w : World} {Q G c : Nat} {xs : Array It} (h : Hp w Q G c xs) : Q < w.heap.size := World.block_lt_of_cell? w _ h.cell
theorem Hp.below {w w' : World} {Q G c : Nat} {xs : Array It} (h : Hp w Q G c xs) (hb : Below w.heap.size w w') : Hp w' Q G c xs :=
  ⟨h.row.of_block (hb.block _ h.row.lt), (hb.cell (p := ⟨Q, 0, none⟩) h.lt).trans h.cell, h.ne⟩
theorem Hp.swap {w w' : World} {Q G c : Nat} {xs ys : Array It} {e : Ending} (h : Hp w Q G c xs) (hs : SwapE w G c ys e w') (hz : ys.size = xs.size) : Hp w' Q G c ys :=
  ⟨hs.2.1, by rw [hz, ← h.cell]; exact World.cell?_of_block (hs.2.2.block Q h.lt (fun e => h.ne (by injection e))), h.ne⟩
theorem Hp.less {w : World} {Q G c : Nat} {xs : Array It} (h : Hp w Q G c xs) {n i j : Nat} (hn : n = xs.size) (hi : i < n) (hj : j < n) (hN : n ≤ 1000000) {b : Bool} (hb : ltB (g xs i).d (g xs i).n (g xs j).d (g xs j).n = b) :
    Calls Try.prog 64 #[.slice (some ⟨G, 0, none⟩) n c, .int .i64 i, .int .i64 j] w (RetB w b) := by
  subst hb
  exact less_at G n c i j _ _ w hi hj hN (h.row.at_ (by omega)) (h.row.at_ (by omega))
def UpE (w : World) (Q G c : Nat) (ys : Array It) (e : Ending) (w' : World) : Prop := e = .returned (.tuple #[]) ∧ Hp w' Q G c ys ∧ w.grownBy w' (some G)

set_option maxHeartbeats 2000000 in
theorem up_any (Q G c n j : Nat) (xs : Array It) (w : World) (hn : n = xs.size) (hj : j < n) (hN : n ≤ 1000000) (h : Hp w Q G c xs) :
    Calls Try.prog 39 #[.iface 60 (Pq Q), .int .i64 j] w (UpE w Q G c (up xs j)) := by
  have E50 := e50
  have E51 := e51
  unfold Enters at E50 E51
  generalize hr : up xs j = rs
  have HR := Lib.hid hr
  have HN := Lib.hid hn
  have HW := Lib.hid h
  clear hr hn h
  go_enter Try.func39, Try.ntmps39
  go_wp2_with fail
  go_loopg [1] j (fun k s wr => ∃ ys, s = .int .i64 k ∧ k < n ∧ Hid (n = ys.size) ∧ Hid (Hp wr Q G c ys) ∧ Hid (up ys k = rs) ∧ w.grownBy wr (some G))
  case atStart => exact ⟨xs, rfl, hj, HN, HW, HR, grownBy_refl _ _⟩
  case round =>
    clear HR HN HW
    obtain ⟨ys, rfl, hk, HN, HP, HR, hgr⟩ := hrel
    by_cases h0 : gk = 0
    · subst h0
      go_wp2_with fail
      go_end0
      exact ⟨rfl, by have := HR.out; rw [up_stop (.inl rfl)] at this; rw [← this]; exact HP.out, hgr⟩
    · obtain ⟨p, hp⟩ : ∃ p, (gk - 1) / 2 = p := ⟨_, rfl⟩
      have hpk : p < gk := by omega
      have hdiv : ((gk : Int) - 1) / 2 = (p : Int) := by omega
      have hne : ((p : Int) == (gk : Int)) = false := by simp; omega
      have hm := m_less Q wr _ HP.out.cell
      rw [← HN.out] at hm
      have HPP := Lib.hid hp
      have HK0 := Lib.hid h0
      clear hp h0
      by_cases hl : lt (g ys gk) (g ys p)
      · have HL := Lib.hid hl
        clear hl
        have HC := Lib.hid (HP.out.less HN.out hk (show p < n by omega) hN (b := true) HL.out)
        go_wp2_with fail
        refine HC.out.mono ?_
        rintro e w2 ⟨rfl, hb⟩
        have HP2 := Lib.hid (HP.out.below hb)
        have hm2 := m_swap Q w2 _ HP2.out.cell
        rw [← HN.out] at hm2
        have HS := Lib.hid (swap_any G c n p gk ys w2 HN.out (by omega) hk HP2.out.row hN)
        clear hm HC
        go_wp2_with fail
        refine HS.out.mono ?_
        rintro e w3 hs
        obtain ⟨rfl, hs2⟩ := id hs
        have HP3 := Lib.hid (HP2.out.swap hs (size_swp _ _ _))
        have hg3 := grownBy_trans (grownBy_trans hgr (grownBy_below hb _)) hs.2.2
        have HR3 := Lib.hid (show up (swp ys p gk) p = rs by
          have h1 := HR.out
          rw [up_go HK0.out (by rw [HPP.out]; exact HL.out), HPP.out] at h1
          exact h1)
        clear hm2 hs hs2 HS
        go_wp2_with fail
        go_roundg p
        case measure => omega
        case rel => exact ⟨_, rfl, by omega, Lib.hid (by rw [size_swp]; exact HN.out), HP3, HR3, hg3⟩
      · have HC := Lib.hid (HP.out.less HN.out hk (show p < n by omega) hN (b := false) (by simpa [lt] using hl))
        have HR3 := Lib.hid (show ys = rs by
          have h1 := HR.out
          rw [up_stop (.inr (by rw [HPP.out]; exact hl))] at h1
          exact h1)
        clear hl
        go_wp2_with fail
        refine HC.out.mono ?_
        rintro e w2 ⟨rfl, hb⟩
        have HP2 := Lib.hid (HP.out.below hb)
        go_wp2_with fail
        go_end0
        exact ⟨rfl, by rw [← HR3.out]; exact HP2.out, grownBy_trans hgr (grownBy_below hb _)⟩
end Go.Proofs.Ytlplbpilpkmoaaa.hp
