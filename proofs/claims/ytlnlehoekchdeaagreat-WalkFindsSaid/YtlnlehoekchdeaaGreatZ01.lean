/- The row of a queue's items: how it is stored into; 'Swap'. container/heap's 'up', over the interface value of a queue's items. container/heap's 'down', over the interface value of a queue's items. -/
import Derived.Test.YtlnlehoekchdeaaGreatZ00
import Derived.Deep.OwnRows
import Derived.Laws.AppendOwn
import Derived.Shelf.Abstract
section
namespace Go.Proofs.YtlnlehoekchdeaaGreat.qu
open Go.RowKit
set_option linter.unusedVariables false


def Cells (f : Nat → Value) (xs : Array It) : Prop := ∀ i, i < xs.size → f (i * 3) = .int .i64 (g xs i).key ∧ f (i * 3 + 1) = .int .u64 (g xs i).turn ∧ f (i * 3 + 2) = .int .i64 (g xs i).num
/-- Block G is a row of c items, the first of which are xs. -/
def QRow (w : World) (G c : Nat) (xs : Array It) : Prop := xs.size ≤ c ∧ c ≤ maxLen ∧ ∃ f, w.rowIs G 134 (c * 3) f ∧ Cells f xs
theorem QRow.at_ {w : World} {G c : Nat} {xs : Array It} (h : QRow w G c xs) {i : Nat} (hi : i < xs.size) : At w G i (g xs i) := by
  obtain ⟨h1, h2, f, hf, hc⟩ := h
  obtain ⟨a, b, d⟩ := hc i hi
  exact ⟨by rw [hf.cell (by omega), a], by rw [hf.cell (by omega), b], by rw [hf.cell (by omega), d]⟩
theorem QRow.frozen {w : World} {G c : Nat} {xs : Array It} (h : QRow w G c xs) (o : Nat) : w.frozen? ⟨G, o, none⟩ = false := by
  obtain ⟨_, _, f, hf, _⟩ := h
  exact hf.frozen o
theorem QRow.lt {w : World} {G c : Nat} {xs : Array It} (h : QRow w G c xs) : G < w.heap.size := by
  obtain ⟨_, _, f, hf, _⟩ := h
  exact hf.lt
theorem QRow.of_block {w w' : World} {G c : Nat} {xs : Array It} (h : QRow w G c xs) (e : w'.heap[G]? = w.heap[G]?) : QRow w' G c xs := by
  obtain ⟨h1, h2, f, hf, hc⟩ := h
  exact ⟨h1, h2, f, hf.of_block e, hc⟩
theorem QRow.drew {w : World} {G c : Nat} {xs : Array It} (h : QRow w G c xs) : QRow w.drew G c xs := h.of_block rfl
/-- The world behind a store of an item. -/
def set3 (w : World) (G i : Nat) (y : It) : World := ((w.setCell ⟨G, i * 3, none⟩ (.int .i64 y.key)).setCell ⟨G, i * 3 + 1, none⟩ (.int .u64 y.turn)).setCell ⟨G, i * 3 + 2, none⟩ (.int .i64 y.num)
theorem g_set {xs : Array It} {i : Nat} (hi : i < xs.size) (y : It) (k : Nat) : g (xs.setIfInBounds i y) k = if k = i then y else g xs k := by
  unfold g
  simp only [Array.getD_eq_getD_getElem?, Array.getElem?_setIfInBounds]
  by_cases h : k = i
  · subst h; simp [hi]
  · simp [h, Ne.symm h]
theorem QRow.set {w : World} {G c : Nat} {xs : Array It} (h : QRow w G c xs) {i : Nat} (hi : i < xs.size) (y : It) : QRow (set3 w G i y) G c (xs.setIfInBounds i y) := by
  obtain ⟨h1, h2, f, hf, hc⟩ := h
  refine ⟨by simpa using h1, h2, _, ((hf.set _ _).set _ _).set _ _, fun k hk => ?_⟩
  rw [Array.size_setIfInBounds] at hk
  rw [g_set hi]
  obtain ⟨a, b, d⟩ := hc k hk
  by_cases e : k = i
  · subst e
    simp
  · have e1 : ¬ k * 3 = i * 3 := by omega
    have e2 : ¬ k * 3 = i * 3 + 1 := by omega
    have e3 : ¬ k * 3 = i * 3 + 2 := by omega
    have e4 : ¬ k * 3 + 1 = i * 3 := by omega
    have e6 : ¬ k * 3 + 2 = i * 3 := by omega
    have e7 : ¬ k * 3 + 2 = i * 3 + 1 := by omega
    simp [e, e1, e2, e3, e4, e6, e7, a, b, d]
theorem grownBy_trans {w w1 w2 : World} {r : Option Nat} (h : w.grownBy w1 r) (h' : w1.grownBy w2 r) : w.grownBy w2 r :=
  ⟨h'.os.trans h.os, h'.tape.trans h.tape, h'.output.trans h.output, Nat.le_trans h.size h'.size, fun k hk hr => (h'.block k (Nat.lt_of_lt_of_le hk h.size) hr).trans (h.block k hk hr)⟩
theorem grownBy_refl (w : World) (r : Option Nat) : w.grownBy w r := ⟨rfl, rfl, rfl, Nat.le_refl _, fun _ _ _ => rfl⟩
theorem grownBy_below {w w' : World} (h : Below w.heap.size w w') (r : Option Nat) : w.grownBy w' r := ⟨h.os, h.tape, h.output, h.size, fun k hk _ => h.block k hk⟩
theorem grownBy_set (w : World) (G o : Nat) (v : Value) : w.grownBy (w.setCell ⟨G, o, none⟩ v) (some G) :=
  ⟨rfl, rfl, rfl, by simp [World.setCell], fun k _ hr => Below.heap_setCell _ _ _ _ (fun e => hr (by rw [e]))⟩
theorem grownBy_set3 (w : World) (G i : Nat) (y : It) : w.grownBy (set3 w G i y) (some G) := grownBy_trans (grownBy_trans (grownBy_set _ _ _ _) (grownBy_set _ _ _ _)) (grownBy_set _ _ _ _)
theorem grownBy_drew (w : World) (r : Option Nat) : w.grownBy w.drew r := ⟨rfl, rfl, rfl, Nat.le_refl _, fun _ _ _ => rfl⟩

def SwapE (w : World) (G c : Nat) (ys : Array It) (e : Ending) (w' : World) : Prop := e = .returned (.tuple #[]) ∧ QRow w' G c ys ∧ w.grownBy w' (some G)
theorem swapE_of {w : World} {G c : Nat} {xs : Array It} (h : QRow w G c xs) {i j : Nat} (hi : i < xs.size) (hj : j < xs.size) : SwapE w G c (swp xs i j) (.returned (.tuple #[])) (set3 (set3 w G i (g xs j)) G j (g xs i)).drew :=
  ⟨rfl, ((h.set hi _).set (by simpa using hj) _).drew, grownBy_trans (grownBy_trans (grownBy_set3 _ _ _ _) (grownBy_set3 _ _ _ _)) (grownBy_drew _ _)⟩

set_option maxRecDepth 100000 in
set_option maxHeartbeats 2000000 in
theorem swap_ne (G c n i j : Nat) (xs : Array It) (w : World) (hn : n = xs.size) (hi : i < n) (hj : j < n) (hij : i ≠ j) (h : QRow w G c xs) (hN : n ≤ 1000000) :
    Calls Tryz.prog 147 #[.slice (some ⟨G, 0, none⟩) n c, .int .i64 i, .int .i64 j] w (SwapE w G c (swp xs i j)) := by
  have HF := Lib.hid (swapE_of h (i := i) (j := j) (by omega) (by omega))
  have hx := h.at_ (i := i) (by omega)
  have hy := h.at_ (i := j) (by omega)
  have hfz := h.frozen
  unfold set3 at HF
  generalize g xs i = x at *
  generalize g xs j = y at *
  generalize swp xs i j = ys at *
  have f0 := hx.k
  have f1 := hx.t
  have f2 := hx.m
  have f3 := hy.k
  have f4 := hy.t
  have f5 := hy.m
  have n0 : i * 3 ≠ j * 3 := by omega
  have n1 : i * 3 ≠ j * 3 + 1 := by omega
  have n2 : i * 3 ≠ j * 3 + 2 := by omega
  have n3 : i * 3 + 1 ≠ j * 3 := by omega
  have n5 : i * 3 + 1 ≠ j * 3 + 2 := by omega
  have n6 : i * 3 + 2 ≠ j * 3 := by omega
  have n7 : i * 3 + 2 ≠ j * 3 + 1 := by omega
  clear hx hy hn h
  go_enter Tryz.func147, Tryz.ntmps147
  go_wp2_with fail
  go_region
  all_goals (go_wp2_with fail; go_end0; exact HF.out)

set_option maxRecDepth 100000 in
set_option maxHeartbeats 2000000 in
theorem swap_eq (G c n i : Nat) (xs : Array It) (w : World) (hn : n = xs.size) (hi : i < n) (h : QRow w G c xs) (hN : n ≤ 1000000) :
    Calls Tryz.prog 147 #[.slice (some ⟨G, 0, none⟩) n c, .int .i64 i, .int .i64 i] w (SwapE w G c (swp xs i i)) := by
  have HF := Lib.hid (swapE_of h (i := i) (j := i) (by omega) (by omega))
  have hx := h.at_ (i := i) (by omega)
  have hfz := h.frozen
  unfold set3 at HF
  generalize g xs i = x at *
  generalize swp xs i i = ys at *
  have f0 := hx.k
  have f1 := hx.t
  have f2 := hx.m
  clear hx hn h
  go_enter Tryz.func147, Tryz.ntmps147
  go_wp2_with fail
  go_region
  all_goals (go_wp2_with fail; go_end0; exact HF.out)
set_option maxRecDepth 100000 in
theorem swap_any (G c n i j : Nat) (xs : Array It) (w : World) (hn : n = xs.size) (hi : i < n) (hj : j < n) (h : QRow w G c xs) (hN : n ≤ 1000000) :
    Calls Tryz.prog 147 #[.slice (some ⟨G, 0, none⟩) n c, .int .i64 i, .int .i64 j] w (SwapE w G c (swp xs i j)) := by
  by_cases e : i = j
  · subst e; exact swap_eq G c n i xs w hn hi h hN
  · exact swap_ne G c n i j xs w hn hi hj e h hN

set_option maxRecDepth 100000 in
theorem len_any (A : Option Addr) (n c : Nat) (w : World) : Calls Tryz.prog 145 #[.slice A n c] w (fun e w' => e = .returned (.int .i64 n) ∧ w = w') := by
  go_enter Tryz.func145, Tryz.ntmps145
  go_wp2
  go_ret
  exact ⟨rfl, rfl⟩
end Go.Proofs.YtlnlehoekchdeaaGreat.qu
end
section
namespace Go.Proofs.YtlnlehoekchdeaaGreat.qu
open Go.RowKit
set_option linter.unusedVariables false


abbrev Pq (Q : Nat) : Value := .pointer (some ⟨Q, 0, none⟩)
set_option maxRecDepth 100000 in
theorem e49 : Enters Tryz.prog 145 := enters_of Tryz.func145 (by kernel_rfl) rfl
set_option maxRecDepth 100000 in
theorem e50 : Enters Tryz.prog 146 := enters_of Tryz.func146 (by kernel_rfl) rfl
set_option maxRecDepth 100000 in
theorem e51 : Enters Tryz.prog 147 := enters_of Tryz.func147 (by kernel_rfl) rfl
set_option maxRecDepth 100000 in
theorem e53 : Enters Tryz.prog 150 := enters_of Tryz.func150 (by kernel_rfl) rfl
set_option maxRecDepth 100000 in
theorem e54 : Enters Tryz.prog 151 := enters_of Tryz.func151 (by kernel_rfl) rfl

/-- A queue's row, and the cell that leads to it. -/
structure Hp (w : World) (Q G c : Nat) (xs : Array It) : Prop where
  row : QRow w G c xs
  cell : w.cell? ⟨Q, 0, none⟩ = some (.slice (some ⟨G, 0, none⟩) xs.size c)
  ne : Q ≠ G
theorem Hp.lt {w : World} {Q G c : Nat} {xs : Array It} (h : Hp w Q G c xs) : Q < w.heap.size := World.block_lt_of_cell? w _ h.cell
theorem Hp.below {w w' : World} {Q G c : Nat} {xs : Array It} (h : Hp w Q G c xs) (hb : Below w.heap.size w w') : Hp w' Q G c xs :=
  ⟨h.row.of_block (hb.block _ h.row.lt), (hb.cell (p := ⟨Q, 0, none⟩) h.lt).trans h.cell, h.ne⟩
theorem Hp.swap {w w' : World} {Q G c : Nat} {xs ys : Array It} {e : Ending} (h : Hp w Q G c xs) (hs : SwapE w G c ys e w') (hz : ys.size = xs.size) : Hp w' Q G c ys :=
  ⟨hs.2.1, by rw [hz, ← h.cell]; exact World.cell?_of_block (hs.2.2.block Q h.lt (fun e => h.ne (by injection e))), h.ne⟩
set_option maxRecDepth 100000 in
theorem Hp.less {w : World} {Q G c : Nat} {xs : Array It} (h : Hp w Q G c xs) {n i j : Nat} (hn : n = xs.size) (hi : i < n) (hj : j < n) (hN : n ≤ 1000000) {b : Bool} (hb : ltB (g xs i).key (g xs i).turn (g xs j).key (g xs j).turn = b) :
    Calls Tryz.prog 146 #[.slice (some ⟨G, 0, none⟩) n c, .int .i64 i, .int .i64 j] w (RetB w b) := by
  subst hb
  exact less_at G n c i j _ _ w hi hj hN (h.row.at_ (by omega)) (h.row.at_ (by omega))
def UpE (w : World) (Q G c : Nat) (ys : Array It) (e : Ending) (w' : World) : Prop := e = .returned (.tuple #[]) ∧ Hp w' Q G c ys ∧ w.grownBy w' (some G)

set_option maxRecDepth 100000 in
set_option maxHeartbeats 2000000 in
theorem up_any (Q G c n j : Nat) (xs : Array It) (w : World) (hn : n = xs.size) (hj : j < n) (hN : n ≤ 1000000) (h : Hp w Q G c xs) :
    Calls Tryz.prog 102 #[.iface 136 (Pq Q), .int .i64 j] w (UpE w Q G c (up xs j)) := by
  have E50 := e50
  have E51 := e51
  unfold Enters at E50 E51
  generalize hr : up xs j = rs
  have HR := Lib.hid hr
  have HN := Lib.hid hn
  have HW := Lib.hid h
  clear hr hn h
  go_enter Tryz.func102, Tryz.ntmps102
  go_wp2_with fail
  go_loopg [1] j (fun k s wr => ∃ ys, s = .int .i64 k ∧ k < n ∧ Hid (n = ys.size) ∧ Hid (Hp wr Q G c ys) ∧ Hid (up ys k = rs) ∧ w.grownBy wr (some G))
  case atStart => exact ⟨xs, rfl, hj, HN, HW, HR, grownBy_refl _ _⟩
  case round =>
    clear HR HN HW
    obtain ⟨ys, rfl, hk, HN, HP, HR, hgr⟩ := hrel
    by_cases h0 : gk = 0
    · subst h0
      go_wp2_with fail
      go_end0
      exact ⟨rfl, by have := HR.out; rw [up_stop (.inl rfl)] at this; rw [← this]; exact HP.out, hgr⟩
    · obtain ⟨p, hp⟩ : ∃ p, (gk - 1) / 2 = p := ⟨_, rfl⟩
      have hpk : p < gk := by omega
      have hdiv : ((gk : Int) - 1) / 2 = (p : Int) := by omega
      have hne : ((p : Int) == (gk : Int)) = false := by simp; omega
      have hm := m_less Q wr _ HP.out.cell
      rw [← HN.out] at hm
      have HPP := Lib.hid hp
      have HK0 := Lib.hid h0
      clear hp h0
      by_cases hl : lt (g ys gk) (g ys p)
      · have HL := Lib.hid hl
        clear hl
        have HC := Lib.hid (HP.out.less HN.out hk (show p < n by omega) hN (b := true) HL.out)
        go_wp2_with fail
        refine HC.out.mono ?_
        rintro e w2 ⟨rfl, hb⟩
        have HP2 := Lib.hid (HP.out.below hb)
        have hm2 := m_swap Q w2 _ HP2.out.cell
        rw [← HN.out] at hm2
        have HS := Lib.hid (swap_any G c n p gk ys w2 HN.out (by omega) hk HP2.out.row hN)
        clear hm HC
        go_wp2_with fail
        refine HS.out.mono ?_
        rintro e w3 hs
        obtain ⟨rfl, hs2⟩ := id hs
        have HP3 := Lib.hid (HP2.out.swap hs (size_swp _ _ _))
        have hg3 := grownBy_trans (grownBy_trans hgr (grownBy_below hb _)) hs.2.2
        have HR3 := Lib.hid (show up (swp ys p gk) p = rs by
          have h1 := HR.out
          rw [up_go HK0.out (by rw [HPP.out]; exact HL.out), HPP.out] at h1
          exact h1)
        clear hm2 hs hs2 HS
        go_wp2_with fail
        go_roundg p
        case measure => omega
        case rel => exact ⟨_, rfl, by omega, Lib.hid (by rw [size_swp]; exact HN.out), HP3, HR3, hg3⟩
      · have HC := Lib.hid (HP.out.less HN.out hk (show p < n by omega) hN (b := false) (by simpa [lt] using hl))
        have HR3 := Lib.hid (show ys = rs by
          have h1 := HR.out
          rw [up_stop (.inr (by rw [HPP.out]; exact hl))] at h1
          exact h1)
        clear hl
        go_wp2_with fail
        refine HC.out.mono ?_
        rintro e w2 ⟨rfl, hb⟩
        have HP2 := Lib.hid (HP.out.below hb)
        go_wp2_with fail
        go_end0
        exact ⟨rfl, by rw [← HR3.out]; exact HP2.out, grownBy_trans hgr (grownBy_below hb _)⟩
end Go.Proofs.YtlnlehoekchdeaaGreat.qu
end
section
namespace Go.Proofs.YtlnlehoekchdeaaGreat.qu
open Go.RowKit
set_option linter.unusedVariables false


def DownE (w : World) (Q G c : Nat) (ys : Array It) (e : Ending) (w' : World) : Prop := (∃ b, e = .returned (.bool b)) ∧ Hp w' Q G c ys ∧ w.grownBy w' (some G)

set_option maxRecDepth 100000 in
set_option maxHeartbeats 4000000 in
theorem down_any (Q G c N i0 m : Nat) (xs : Array It) (w : World) (hn : N = xs.size) (hi0 : i0 ≤ m) (hm : m ≤ N) (hN : N ≤ 1000000) (h : Hp w Q G c xs) :
    Calls Tryz.prog 98 #[.iface 136 (Pq Q), .int .i64 i0, .int .i64 m] w (DownE w Q G c (down xs i0 m)) := by
  have E50 := e50
  have E51 := e51
  unfold Enters at E50 E51
  generalize hr : down xs i0 m = rs
  have HR := Lib.hid hr
  have HN := Lib.hid hn
  have HW := Lib.hid h
  clear hr hn h
  go_enter Tryz.func98, Tryz.ntmps98
  go_wp2_with fail
  go_loopg [7] (m - i0) (fun k s wr => ∃ (i : Nat) (ys : Array It), s = .int .i64 i ∧ k + i = m ∧ Hid (N = ys.size) ∧ Hid (Hp wr Q G c ys) ∧ Hid (down ys i m = rs) ∧ w.grownBy wr (some G))
  case atStart => exact ⟨i0, xs, rfl, by omega, HN, HW, HR, grownBy_refl _ _⟩
  case round =>
    clear HR HN HW
    obtain ⟨i, ys, rfl, hk, HN, HP, HR, hgr⟩ := hrel
    obtain ⟨a1, ha1⟩ : ∃ a, 2 * i + 1 = a := ⟨_, rfl⟩
    obtain ⟨a2, ha2⟩ : ∃ a, a1 + 1 = a := ⟨_, rfl⟩
    have hj1 : 2 * (i : Int) + 1 = (a1 : Int) := by omega
    have hj2 : (a1 : Int) + 1 = (a2 : Int) := by omega
    have hpos : ¬ ((a1 : Int) < 0) := by omega
    by_cases h0 : a1 < m
    · have hge : ¬ ((m : Int) ≤ (a1 : Int)) := by omega
      by_cases h2 : a2 < m
      · have hm1 := m_less Q wr _ HP.out.cell
        rw [← HN.out] at hm1
        have HC1 := Lib.hid (fun (b : Bool) hb => HP.out.less HN.out (show a2 < N by omega) (show a1 < N by omega) hN (b := b) hb)
        by_cases hl : lt (g ys a2) (g ys a1)
        · have HCC := Lib.hid (show child ys i m = a2 by unfold child; rw [show 2 * i + 2 = a2 by omega, ha1, if_pos ⟨h2, hl⟩])
          have HB1 := Lib.hid (HC1.out true hl)
          clear hl HC1
          have HA := Lib.hid (And.intro ha1 ha2)
          have hi2 : i < a1 := by omega
          have ha12 : a2 = a1 + 1 := by omega
          have HA12 := Lib.hid ha12
          clear ha1 ha2 ha12
          go_wp2_with fail
          refine HB1.out.mono ?_
          rintro e w2 ⟨rfl, hb⟩
          have HP2 := Lib.hid (HP.out.below hb)
          have hgr2 := grownBy_trans hgr (grownBy_below hb _)
          clear hm1 HB1
          have hi3 : i < a2 := by have := HA12.out; omega
          have hcm : a2 < m := by omega
          have HC := Lib.hid (fun (b : Bool) hb => HP2.out.less HN.out (show a2 < N by omega) (show i < N by omega) hN (b := b) hb)
          have hm2 := m_less Q w2 _ HP2.out.cell
          rw [← HN.out] at hm2
          by_cases hl2 : lt (g ys a2) (g ys i)
          · have HL2 := Lib.hid hl2
            have HB := Lib.hid (HC.out true hl2)
            clear hl2 HC
            go_wp2_with fail
            refine HB.out.mono ?_
            rintro e w3 ⟨rfl, hb3⟩
            have HP3 := Lib.hid (HP2.out.below hb3)
            have hm3 := m_swap Q w3 _ HP3.out.cell
            rw [← HN.out] at hm3
            have HS := Lib.hid (swap_any G c N i a2 ys w3 HN.out (by omega) (by omega) HP3.out.row hN)
            clear hm2 HB
            go_wp2_with fail
            refine HS.out.mono ?_
            rintro e w4 hs
            obtain ⟨rfl, hs2⟩ := id hs
            have HP4 := Lib.hid (HP3.out.swap hs (size_swp _ _ _))
            have hg4 := grownBy_trans (grownBy_trans hgr2 (grownBy_below hb3 _)) hs.2.2
            have HR4 := Lib.hid (show down (swp ys i a2) a2 m = rs by
              have h1 := HR.out
              rw [down_go (by omega) (by rw [HCC.out]; exact HL2.out), HCC.out] at h1
              exact h1)
            clear hm3 hs hs2 HS
            go_wp2_with fail
            go_roundg (m - a2)
            case measure => omega
            case rel => exact ⟨a2, _, rfl, by omega, Lib.hid (by rw [size_swp]; exact HN.out), HP4, HR4, hg4⟩
          · have HB := Lib.hid (HC.out false (by simpa [lt] using hl2))
            have HR3 := Lib.hid (show ys = rs by
              have h1 := HR.out
              rw [down_stop (.inr (by rw [HCC.out]; exact hl2))] at h1
              exact h1)
            clear hl2 HC
            go_wp2_with fail
            refine HB.out.mono ?_
            rintro e w3 ⟨rfl, hb3⟩
            have HP3 := Lib.hid (HP2.out.below hb3)
            go_wp2_with fail
            go_ret
            exact ⟨⟨_, rfl⟩, by rw [← HR3.out]; exact HP3.out, grownBy_trans hgr2 (grownBy_below hb3 _)⟩
        · have HCC := Lib.hid (show child ys i m = a1 by unfold child; rw [show 2 * i + 2 = a2 by omega, ha1, if_neg (fun h => hl h.2)])
          have HB1 := Lib.hid (HC1.out false (by simpa [lt] using hl))
          clear hl HC1
          have HA := Lib.hid (And.intro ha1 ha2)
          have hi2 : i < a1 := by omega
          clear ha1 ha2
          go_wp2_with fail
          refine HB1.out.mono ?_
          rintro e w2 ⟨rfl, hb⟩
          have HP2 := Lib.hid (HP.out.below hb)
          have hgr2 := grownBy_trans hgr (grownBy_below hb _)
          clear hm1 HB1
          have hcm : a1 < m := by omega
          have HC := Lib.hid (fun (b : Bool) hb => HP2.out.less HN.out (show a1 < N by omega) (show i < N by omega) hN (b := b) hb)
          have hm2 := m_less Q w2 _ HP2.out.cell
          rw [← HN.out] at hm2
          by_cases hl2 : lt (g ys a1) (g ys i)
          · have HL2 := Lib.hid hl2
            have HB := Lib.hid (HC.out true hl2)
            clear hl2 HC
            go_wp2_with fail
            refine HB.out.mono ?_
            rintro e w3 ⟨rfl, hb3⟩
            have HP3 := Lib.hid (HP2.out.below hb3)
            have hm3 := m_swap Q w3 _ HP3.out.cell
            rw [← HN.out] at hm3
            have HS := Lib.hid (swap_any G c N i a1 ys w3 HN.out (by omega) (by omega) HP3.out.row hN)
            clear hm2 HB
            go_wp2_with fail
            refine HS.out.mono ?_
            rintro e w4 hs
            obtain ⟨rfl, hs2⟩ := id hs
            have HP4 := Lib.hid (HP3.out.swap hs (size_swp _ _ _))
            have hg4 := grownBy_trans (grownBy_trans hgr2 (grownBy_below hb3 _)) hs.2.2
            have HR4 := Lib.hid (show down (swp ys i a1) a1 m = rs by
              have h1 := HR.out
              rw [down_go (by omega) (by rw [HCC.out]; exact HL2.out), HCC.out] at h1
              exact h1)
            clear hm3 hs hs2 HS
            go_wp2_with fail
            go_roundg (m - a1)
            case measure => omega
            case rel => exact ⟨a1, _, rfl, by omega, Lib.hid (by rw [size_swp]; exact HN.out), HP4, HR4, hg4⟩
          · have HB := Lib.hid (HC.out false (by simpa [lt] using hl2))
            have HR3 := Lib.hid (show ys = rs by
              have h1 := HR.out
              rw [down_stop (.inr (by rw [HCC.out]; exact hl2))] at h1
              exact h1)
            clear hl2 HC
            go_wp2_with fail
            refine HB.out.mono ?_
            rintro e w3 ⟨rfl, hb3⟩
            have HP3 := Lib.hid (HP2.out.below hb3)
            go_wp2_with fail
            go_ret
            exact ⟨⟨_, rfl⟩, by rw [← HR3.out]; exact HP3.out, grownBy_trans hgr2 (grownBy_below hb3 _)⟩
      · have HCC := Lib.hid (show child ys i m = a1 by unfold child; rw [show 2 * i + 2 = a2 by omega, ha1, if_neg (fun h => h2 h.1)])
        have HA := Lib.hid (And.intro ha1 ha2)
        have hi2 : i < a1 := by omega
        have hnl : ¬ ((a2 : Int) < (m : Int)) := by omega
        clear ha1 ha2 h2
        have HP2 := HP
        have hgr2 := hgr
        clear HP hgr
        generalize hww : wr = w2 at *
        clear hww
        have hcm : a1 < m := by omega
        have HC := Lib.hid (fun (b : Bool) hb => HP2.out.less HN.out (show a1 < N by omega) (show i < N by omega) hN (b := b) hb)
        have hm2 := m_less Q w2 _ HP2.out.cell
        rw [← HN.out] at hm2
        by_cases hl2 : lt (g ys a1) (g ys i)
        · have HL2 := Lib.hid hl2
          have HB := Lib.hid (HC.out true hl2)
          clear hl2 HC
          go_wp2_with fail
          refine HB.out.mono ?_
          rintro e w3 ⟨rfl, hb3⟩
          have HP3 := Lib.hid (HP2.out.below hb3)
          have hm3 := m_swap Q w3 _ HP3.out.cell
          rw [← HN.out] at hm3
          have HS := Lib.hid (swap_any G c N i a1 ys w3 HN.out (by omega) (by omega) HP3.out.row hN)
          clear hm2 HB
          go_wp2_with fail
          refine HS.out.mono ?_
          rintro e w4 hs
          obtain ⟨rfl, hs2⟩ := id hs
          have HP4 := Lib.hid (HP3.out.swap hs (size_swp _ _ _))
          have hg4 := grownBy_trans (grownBy_trans hgr2 (grownBy_below hb3 _)) hs.2.2
          have HR4 := Lib.hid (show down (swp ys i a1) a1 m = rs by
            have h1 := HR.out
            rw [down_go (by omega) (by rw [HCC.out]; exact HL2.out), HCC.out] at h1
            exact h1)
          clear hm3 hs hs2 HS
          go_wp2_with fail
          go_roundg (m - a1)
          case measure => omega
          case rel => exact ⟨a1, _, rfl, by omega, Lib.hid (by rw [size_swp]; exact HN.out), HP4, HR4, hg4⟩
        · have HB := Lib.hid (HC.out false (by simpa [lt] using hl2))
          have HR3 := Lib.hid (show ys = rs by
            have h1 := HR.out
            rw [down_stop (.inr (by rw [HCC.out]; exact hl2))] at h1
            exact h1)
          clear hl2 HC
          go_wp2_with fail
          refine HB.out.mono ?_
          rintro e w3 ⟨rfl, hb3⟩
          have HP3 := Lib.hid (HP2.out.below hb3)
          go_wp2_with fail
          go_ret
          exact ⟨⟨_, rfl⟩, by rw [← HR3.out]; exact HP3.out, grownBy_trans hgr2 (grownBy_below hb3 _)⟩
    · have HR3 := Lib.hid (show ys = rs by
        have h1 := HR.out
        rw [down_stop (.inl (by omega))] at h1
        exact h1)
      have hge : (m : Int) ≤ (a1 : Int) := by omega
      clear ha1 ha2 h0
      go_wp2_with fail
      go_ret
      exact ⟨⟨_, rfl⟩, by rw [← HR3.out]; exact HP.out, hgr⟩
end Go.Proofs.YtlnlehoekchdeaaGreat.qu
end
