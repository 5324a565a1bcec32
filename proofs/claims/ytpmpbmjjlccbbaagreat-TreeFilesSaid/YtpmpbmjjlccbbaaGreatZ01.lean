/- Part 1 of what is known of the program's functions and of the document's words: contracts, and the mathematics beneath them. -/
import Derived.Test.YtpmpbmjjlccbbaaGreatProg
import Derived.Test.YtpmpbmjjlccbbaaGreatZ00
import Derived.Deep.RegionLaw
import Derived.Deep.AppendLies
import Derived.Deep.RegionWith
import Derived.Lib.SliceRun
set_option linter.unusedVariables false
set_option linter.unusedSimpArgs false
set_option maxRecDepth 100000
set_option maxHeartbeats 8000000
namespace Go.Proofs.YtpmpbmjjlccbbaaGreat.qu
open Go.RowKit
def DownE (w : World) (Q G c : Nat) (ys : Array It) (e : Ending) (w' : World) : Prop := (∃ b, e = .returned (.bool b)) ∧ Hp w' Q G c ys ∧ w.grownBy w' (some G)
theorem down_any (Q G c N i0 m : Nat) (xs : Array It) (w : World) (hn : N = xs.size) (hi0 : i0 ≤ m) (hm : m ≤ N) (hN : N ≤ 1000000) (h : Hp w Q G c xs) :
  Calls Tryz.prog 211 #[.iface 134 (Pq Q), .int .i64 i0, .int .i64 m] w (DownE w Q G c (down xs i0 m)) := by
 have E50 := e50
 have E51 := e51
 unfold Enters at E50 E51
 generalize hr : down xs i0 m = rs
 have HR := Lib.hid hr
 have HN := Lib.hid hn
 have HW := Lib.hid h
 clear hr hn h
 go_enter Tryz.func211, Tryz.ntmps211
 go_wp2_with fail
 go_loopg [7] (m - i0) (fun k s wr => ∃ (i : Nat) (ys : Array It), s = .int .i64 i ∧ k + i = m ∧ Hid (N = ys.size) ∧ Hid (Hp wr Q G c ys) ∧ Hid (down ys i m = rs) ∧ w.grownBy wr (some G))
 case atStart => exact ⟨i0, xs, rfl, by omega, HN, HW, HR, grownBy_refl _ _⟩
 case round =>
  clear HR HN HW
  obtain ⟨i, ys, rfl, hk, HN, HP, HR, hgr⟩ := hrel
  obtain ⟨a1, ha1⟩ : ∃ a, 2 * i + 1 = a := ⟨_, rfl⟩
  obtain ⟨a2, ha2⟩ : ∃ a, a1 + 1 = a := ⟨_, rfl⟩
  have hj1 : 2 * (i : Int) + 1 = (a1 : Int) := by omega
  have hj2 : (a1 : Int) + 1 = (a2 : Int) := by omega
  have hpos : ¬ ((a1 : Int) < 0) := by omega
  by_cases h0 : a1 < m
  ·have hge : ¬ ((m : Int) ≤ (a1 : Int)) := by omega
   by_cases h2 : a2 < m
   ·have hm1 := m_less Q wr _ HP.out.cell
    rw [← HN.out] at hm1
    have HC1 := Lib.hid (fun (b : Bool) hb => HP.out.less HN.out (show a2 < N by omega) (show a1 < N by omega) hN (b := b) hb)
    by_cases hl : lt (g ys a2) (g ys a1)
    ·have HCC := Lib.hid (show child ys i m = a2 by unfold child; rw [show 2 * i + 2 = a2 by omega, ha1, if_pos ⟨h2, hl⟩])
     have HB1 := Lib.hid (HC1.out true hl)
     clear hl HC1
     have HA := Lib.hid (And.intro ha1 ha2)
     have hi2 : i < a1 := by omega
     have ha12 : a2 = a1 + 1 := by omega
     have HA12 := Lib.hid ha12
     clear ha1 ha2 ha12
     go_wp2_with fail
     refine HB1.out.mono ?_
     rintro e w2 ⟨rfl, hb⟩
     have HP2 := Lib.hid (HP.out.below hb)
     have hgr2 := grownBy_trans hgr (grownBy_below hb _)
     clear hm1 HB1
     have hi3 : i < a2 := by have := HA12.out; omega
     have hcm : a2 < m := by omega
     have HC := Lib.hid (fun (b : Bool) hb => HP2.out.less HN.out (show a2 < N by omega) (show i < N by omega) hN (b := b) hb)
     have hm2 := m_less Q w2 _ HP2.out.cell
     rw [← HN.out] at hm2
     by_cases hl2 : lt (g ys a2) (g ys i)
     ·have HL2 := Lib.hid hl2
      have HB := Lib.hid (HC.out true hl2)
      clear hl2 HC
      go_wp2_with fail
      refine HB.out.mono ?_
      rintro e w3 ⟨rfl, hb3⟩
      have HP3 := Lib.hid (HP2.out.below hb3)
      have hm3 := m_swap Q w3 _ HP3.out.cell
      rw [← HN.out] at hm3
      have HS := Lib.hid (swap_any G c N i a2 ys w3 HN.out (by omega) (by omega) HP3.out.row hN)
      clear hm2 HB
      go_wp2_with fail
      refine HS.out.mono ?_
      rintro e w4 hs
      obtain ⟨rfl, hs2⟩ := id hs
      have HP4 := Lib.hid (HP3.out.swap hs (size_swp _ _ _))
      have hg4 := grownBy_trans (grownBy_trans hgr2 (grownBy_below hb3 _)) hs.2.2
      have HR4 := Lib.hid (show down (swp ys i a2) a2 m = rs by
       have h1 := HR.out
       rw [down_go (by omega) (by rw [HCC.out]; exact HL2.out), HCC.out] at h1
       exact h1)
      clear hm3 hs hs2 HS
      go_wp2_with fail
      go_roundg (m - a2)
      case measure => omega
      case rel => exact ⟨a2, _, rfl, by omega, Lib.hid (by rw [size_swp]; exact HN.out), HP4, HR4, hg4⟩
     ·have HB := Lib.hid (HC.out false (by simpa [lt] using hl2))
      have HR3 := Lib.hid (show ys = rs by
       have h1 := HR.out
       rw [down_stop (.inr (by rw [HCC.out]; exact hl2))] at h1
       exact h1)
      clear hl2 HC
      go_wp2_with fail
      refine HB.out.mono ?_
      rintro e w3 ⟨rfl, hb3⟩
      have HP3 := Lib.hid (HP2.out.below hb3)
      go_wp2_with fail
      go_ret
      exact ⟨⟨_, rfl⟩, by rw [← HR3.out]; exact HP3.out, grownBy_trans hgr2 (grownBy_below hb3 _)⟩
    ·have HCC := Lib.hid (show child ys i m = a1 by unfold child; rw [show 2 * i + 2 = a2 by omega, ha1, if_neg (fun h => hl h.2)])
     have HB1 := Lib.hid (HC1.out false (by simpa [lt] using hl))
     clear hl HC1
     have HA := Lib.hid (And.intro ha1 ha2)
     have hi2 : i < a1 := by omega
     clear ha1 ha2
     go_wp2_with fail
     refine HB1.out.mono ?_
     rintro e w2 ⟨rfl, hb⟩
     have HP2 := Lib.hid (HP.out.below hb)
     have hgr2 := grownBy_trans hgr (grownBy_below hb _)
     clear hm1 HB1
     have hcm : a1 < m := by omega
     have HC := Lib.hid (fun (b : Bool) hb => HP2.out.less HN.out (show a1 < N by omega) (show i < N by omega) hN (b := b) hb)
     have hm2 := m_less Q w2 _ HP2.out.cell
     rw [← HN.out] at hm2
     by_cases hl2 : lt (g ys a1) (g ys i)
     ·have HL2 := Lib.hid hl2
      have HB := Lib.hid (HC.out true hl2)
      clear hl2 HC
      go_wp2_with fail
      refine HB.out.mono ?_
      rintro e w3 ⟨rfl, hb3⟩
      have HP3 := Lib.hid (HP2.out.below hb3)
      have hm3 := m_swap Q w3 _ HP3.out.cell
      rw [← HN.out] at hm3
      have HS := Lib.hid (swap_any G c N i a1 ys w3 HN.out (by omega) (by omega) HP3.out.row hN)
      clear hm2 HB
      go_wp2_with fail
      refine HS.out.mono ?_
      rintro e w4 hs
      obtain ⟨rfl, hs2⟩ := id hs
      have HP4 := Lib.hid (HP3.out.swap hs (size_swp _ _ _))
      have hg4 := grownBy_trans (grownBy_trans hgr2 (grownBy_below hb3 _)) hs.2.2
      have HR4 := Lib.hid (show down (swp ys i a1) a1 m = rs by
       have h1 := HR.out
       rw [down_go (by omega) (by rw [HCC.out]; exact HL2.out), HCC.out] at h1
       exact h1)
      clear hm3 hs hs2 HS
      go_wp2_with fail
      go_roundg (m - a1)
      case measure => omega
      case rel => exact ⟨a1, _, rfl, by omega, Lib.hid (by rw [size_swp]; exact HN.out), HP4, HR4, hg4⟩
     ·have HB := Lib.hid (HC.out false (by simpa [lt] using hl2))
      have HR3 := Lib.hid (show ys = rs by
       have h1 := HR.out
       rw [down_stop (.inr (by rw [HCC.out]; exact hl2))] at h1
       exact h1)
      clear hl2 HC
      go_wp2_with fail
      refine HB.out.mono ?_
      rintro e w3 ⟨rfl, hb3⟩
      have HP3 := Lib.hid (HP2.out.below hb3)
      go_wp2_with fail
      go_ret
      exact ⟨⟨_, rfl⟩, by rw [← HR3.out]; exact HP3.out, grownBy_trans hgr2 (grownBy_below hb3 _)⟩
   ·have HCC := Lib.hid (show child ys i m = a1 by unfold child; rw [show 2 * i + 2 = a2 by omega, ha1, if_neg (fun h => h2 h.1)])
    have HA := Lib.hid (And.intro ha1 ha2)
    have hi2 : i < a1 := by omega
    have hnl : ¬ ((a2 : Int) < (m : Int)) := by omega
    clear ha1 ha2 h2
    have HP2 := HP
    have hgr2 := hgr
    clear HP hgr
    generalize hww : wr = w2 at *
    clear hww
    have hcm : a1 < m := by omega
    have HC := Lib.hid (fun (b : Bool) hb => HP2.out.less HN.out (show a1 < N by omega) (show i < N by omega) hN (b := b) hb)
    have hm2 := m_less Q w2 _ HP2.out.cell
    rw [← HN.out] at hm2
    by_cases hl2 : lt (g ys a1) (g ys i)
    ·have HL2 := Lib.hid hl2
     have HB := Lib.hid (HC.out true hl2)
     clear hl2 HC
     go_wp2_with fail
     refine HB.out.mono ?_
     rintro e w3 ⟨rfl, hb3⟩
     have HP3 := Lib.hid (HP2.out.below hb3)
     have hm3 := m_swap Q w3 _ HP3.out.cell
     rw [← HN.out] at hm3
     have HS := Lib.hid (swap_any G c N i a1 ys w3 HN.out (by omega) (by omega) HP3.out.row hN)
     clear hm2 HB
     go_wp2_with fail
     refine HS.out.mono ?_
     rintro e w4 hs
     obtain ⟨rfl, hs2⟩ := id hs
     have HP4 := Lib.hid (HP3.out.swap hs (size_swp _ _ _))
     have hg4 := grownBy_trans (grownBy_trans hgr2 (grownBy_below hb3 _)) hs.2.2
     have HR4 := Lib.hid (show down (swp ys i a1) a1 m = rs by
      have h1 := HR.out
      rw [down_go (by omega) (by rw [HCC.out]; exact HL2.out), HCC.out] at h1
      exact h1)
     clear hm3 hs hs2 HS
     go_wp2_with fail
     go_roundg (m - a1)
     case measure => omega
     case rel => exact ⟨a1, _, rfl, by omega, Lib.hid (by rw [size_swp]; exact HN.out), HP4, HR4, hg4⟩
    ·have HB := Lib.hid (HC.out false (by simpa [lt] using hl2))
     have HR3 := Lib.hid (show ys = rs by
      have h1 := HR.out
      rw [down_stop (.inr (by rw [HCC.out]; exact hl2))] at h1
      exact h1)
     clear hl2 HC
     go_wp2_with fail
     refine HB.out.mono ?_
     rintro e w3 ⟨rfl, hb3⟩
     have HP3 := Lib.hid (HP2.out.below hb3)
     go_wp2_with fail
     go_ret
     exact ⟨⟨_, rfl⟩, by rw [← HR3.out]; exact HP3.out, grownBy_trans hgr2 (grownBy_below hb3 _)⟩
  ·have HR3 := Lib.hid (show ys = rs by
    have h1 := HR.out
    rw [down_stop (.inl (by omega))] at h1
    exact h1)
   have hge : (m : Int) ≤ (a1 : Int) := by omega
   clear ha1 ha2 h0
   go_wp2_with fail
   go_ret
   exact ⟨⟨_, rfl⟩, by rw [← HR3.out]; exact HP.out, hgr⟩
def CellsL (L : List Value) (xs : Array It) : Prop := L.length = xs.size * 3 ∧ ∀ i, i < xs.size → L[i * 3]? = some (.int .i64 (g xs i).key) ∧ L[i * 3 + 1]? = some (.int .u64 (g xs i).turn) ∧ L[i * 3 + 2]? = some (.int .i64 (g xs i).num)
theorem QRow.owns {w : World} {G c lo : Nat} {xs : Array It} (h : QRow w G c xs) (hlo : lo ≤ G) : ∃ L, w.ownsRow lo 136 3 (.slice (some ⟨G, 0, none⟩) xs.size c) xs.size L ∧ CellsL L xs := by
 obtain ⟨h1, h2, f, ⟨cur, hg, hs, hf⟩, hc⟩ := h
 have hl : (cur.toList.take (xs.size * 3)).length = xs.size * 3 := by rw [List.length_take]; simp; omega
 refine ⟨cur.toList.take (xs.size * 3), ⟨hl, .inr ⟨G, c, cur, rfl, hlo, hg, h1, h2, hs, rfl⟩⟩, hl, fun i hi => ?_⟩
 obtain ⟨a, b, d⟩ := hc i hi
 have hq : ∀ k, k < xs.size * 3 → (cur.toList.take (xs.size * 3))[k]? = some (f k) := fun k hk => by
  rw [List.getElem?_take_of_lt hk, Array.getElem?_toList]; exact hf k (by omega)
 exact ⟨by rw [hq _ (by omega), a], by rw [hq _ (by omega), b], by rw [hq _ (by omega), d]⟩
theorem QRow.of_owns {w : World} {G c n lo : Nat} {xs : Array It} {L : List Value} (h : w.ownsRow lo 136 3 (.slice (some ⟨G, 0, none⟩) n c) n L) (hn : n = xs.size) (hL : CellsL L xs) : QRow w G c xs ∧ lo ≤ G := by
 subst hn
 rcases h.2 with ⟨e, _⟩ | ⟨G', c', cur, hv, hb, hg, h1, h2, hs, ht⟩
 ·cases e
 ·injection hv with e1 e2 e3
  injection e1 with e1
  injection e1 with e1
  subst e1; subst e3
  have hq : ∀ k, k < xs.size * 3 → L[k]? = cur[k]? := fun k hk => by rw [← ht, List.getElem?_take_of_lt hk, Array.getElem?_toList]
  have hz : xs.size * 3 ≤ c * 3 := by omega
  refine ⟨⟨h1, h2, fun k => cur.getD k undef, ⟨cur, hg, hs, fun i hi => by simp [Array.getD_eq_getD_getElem?, Array.getElem?_eq_getElem (show i < cur.size by omega)]⟩, fun i hi => ?_⟩, hb⟩
  obtain ⟨a, b, d⟩ := hL.2 i hi
  rw [hq _ (by omega)] at a b d
  simp [Array.getD_eq_getD_getElem?, a, b, d]
theorem g_push (xs : Array It) (x : It) (k : Nat) (hk : k ≤ xs.size) : g (xs.push x) k = if k = xs.size then x else g xs k := by
 unfold g
 simp only [Array.getD_eq_getD_getElem?, Array.getElem?_push]
 split <;> simp
theorem CellsL.push {L : List Value} {xs : Array It} (h : CellsL L xs) (x : It) : CellsL (L ++ [.int .i64 x.key, .int .u64 x.turn, .int .i64 x.num]) (xs.push x) := by
 refine ⟨by rw [List.length_append, h.1]; simp; omega, fun i hi => ?_⟩
 rw [Array.size_push] at hi
 rw [g_push xs x i (by omega)]
 by_cases e : i = xs.size
 ·subst e
  simp [h.1]
 ·obtain ⟨a, b, d⟩ := h.2 i (by omega)
  rw [if_neg e, List.getElem?_append_left (by rw [h.1]; omega), List.getElem?_append_left (by rw [h.1]; omega), List.getElem?_append_left (by rw [h.1]; omega)]
  exact ⟨a, b, d⟩
theorem CellsL.nil : CellsL [] #[] := ⟨rfl, fun i hi => by simp at hi⟩
abbrev Ao (o : Option Nat) : Option Addr := o.map fun G => ⟨G, 0, none⟩
structure Qu (w : World) (Q lo : Nat) (o : Option Nat) (c : Nat) (xs : Array It) (T : Nat) : Prop where
 q0 : w.cell? ⟨Q, 0, none⟩ = some (.slice (Ao o) xs.size c)
 q1 : w.cell? ⟨Q, 1, none⟩ = some (.int .u64 T)
 f0 : w.frozen? ⟨Q, 0, none⟩ = false
 f1 : w.frozen? ⟨Q, 1, none⟩ = false
 row : match o with | none => xs.size = 0 ∧ c = 0 | some G => lo ≤ G ∧ Q ≠ G ∧ QRow w G c xs
structure Fr (w w' : World) (Q : Nat) (o : Option Nat) : Prop where
 os : w'.os = w.os
 tape : w'.tape = w.tape
 output : w'.output = w.output
 size : w.heap.size ≤ w'.heap.size
 block : ∀ k, k < w.heap.size → k ≠ Q → o ≠ some k → w'.heap[k]? = w.heap[k]?
theorem Qu.lt {w : World} {Q lo c T : Nat} {o : Option Nat} {xs : Array It} (h : Qu w Q lo o c xs T) : Q < w.heap.size := World.block_lt_of_cell? w _ h.q0
theorem Qu.owns {w : World} {Q lo c T : Nat} {o : Option Nat} {xs : Array It} (h : Qu w Q lo o c xs T) : ∃ L, w.ownsRow lo 136 3 (.slice (Ao o) xs.size c) xs.size L ∧ CellsL L xs := by
 cases o with
 | none =>
  obtain ⟨h1, h2⟩ := h.row
  have : xs = #[] := Array.eq_empty_of_size_eq_zero h1
  subst this; subst h2
  exact ⟨[], World.ownsRow_nil _ _ _ _, CellsL.nil⟩
 | some G => exact h.row.2.2.owns h.row.1
def PushE (w : World) (Q lo : Nat) (o : Option Nat) (ys : Array It) (T : Nat) (e : Ending) (w' : World) : Prop :=
 e = .returned (.tuple #[]) ∧ ∃ G c, Qu w' Q lo (some G) c ys T ∧ (o = some G ∨ w.heap.size ≤ G) ∧ Fr w w' Q o
theorem ta_run (k t m : Int) (w : World) : Sem.run Tryz.prog (Instr.typeAssert (.iface 136 (Iv k t m)) 20 136 false) w = .ok (Iv k t m) w := by kernel_rfl
theorem info53 : (Tryz.prog.info? 136).map (fun i => (i.zero, i.size, i.bytes)) = some (some (Iv 0 0 0), 3, 24) := by kernel_rfl
theorem pushE_of {w w3 : World} {Q lo c T gg cap n : Nat} {o : Option Nat} {xs : Array It} {x : It} {ob : Obj} {L : List Value} (h : Qu w Q lo o c xs T) (hn : n = xs.size) (hL : CellsL L xs)
  (hown : w3.ownsRow lo 136 3 (.slice (some ⟨gg, 0, none⟩) (n + 1) cap) (n + 1) (L ++ [.int .i64 x.key, .int .u64 x.turn, .int .i64 x.num]))
  (hgr : ((w.alloc ob).drew).grownBy w3 (Value.slice (Ao o) n c).ownBlock) (hat : (Value.slice (Ao o) n c).ownBlock = some gg ∨ gg = (w.alloc ob).drew.heap.size) :
  PushE w Q lo o (xs.push x) T (.returned (.tuple #[])) (w3.setCell ⟨Q, 0, none⟩ (.slice (some ⟨gg, 0, none⟩) (n + 1) cap)) := by
 subst hn
 have hq := h.lt
 have hz : (w.alloc ob).drew.heap.size = w.heap.size + 1 := by show (w.alloc ob).heap.size = _; simp
 have hob : ∀ k, (Value.slice (Ao o) xs.size c).ownBlock = some k → o = some k := fun k hk => by cases o <;> simp [Ao, Value.ownBlock] at hk ⊢; exact hk
 have hoQ : some Q ≠ (Value.slice (Ao o) xs.size c).ownBlock := fun e => by
  have h1 := hob Q e.symm
  subst h1
  exact h.row.2.1 rfl
 have hgQ : Q ≠ gg := by
  rcases hat with e | e
  ·intro e2; subst e2; exact hoQ e.symm
  ·omega
 obtain ⟨hr, hlo⟩ := QRow.of_owns hown (xs := xs.push x) (by simp) (hL.push x)
 have hbase : (w.alloc ob).drew.heap[Q]? = w.heap[Q]? := (below_alloc w ob).drew.block Q hq
 have hblk : w3.heap[Q]? = w.heap[Q]? := (hgr.block Q (by omega) hoQ).trans hbase
 have n01 : (⟨Q, 0, none⟩ : Addr) ≠ ⟨Q, 1, none⟩ := fun e => by have := congrArg Addr.off e; simp at this
 refine ⟨rfl, gg, cap, ⟨?_, ?_, ?_, ?_, hlo, hgQ, ?_⟩, ?_, ?_⟩
 ·rw [World.cell?_setCell_same _ _ _ ((World.cell?_of_block hblk).trans h.q0)]; simp
 ·rw [World.cell?_setCell_other _ _ _ _ n01]; exact (World.cell?_of_block hblk).trans h.q1
 ·simpa using (World.frozen?_of_block (a := ⟨Q, 0, none⟩) hblk).trans h.f0
 ·simpa using (World.frozen?_of_block (a := ⟨Q, 1, none⟩) hblk).trans h.f1
 ·exact hr.of_block (Below.heap_setCell _ _ _ _ (fun e => hgQ e.symm))
 ·rcases hat with e | e
  ·exact .inl (hob gg e)
  ·exact .inr (by omega)
 ·refine ⟨hgr.os, hgr.tape, hgr.output, ?_, fun k hk hkQ hko => ?_⟩
  ·have := hgr.size; simp [World.setCell]; omega
  ·rw [Below.heap_setCell _ _ _ _ (fun e => hkQ e), hgr.block k (by omega) (fun e => hko (hob k e.symm))]
   exact (below_alloc w ob).drew.block k hk
theorem ipush_any (Q lo c T n : Nat) (o : Option Nat) (xs : Array It) (x : It) (w : World) (hlo : lo ≤ w.heap.size) (hn : n = xs.size) (hN : n ≤ 1000000) (h : Qu w Q lo o c xs T) :
  Calls Tryz.prog 259 #[Pq Q, .iface 136 (Iv x.key x.turn x.num)] w (PushE w Q lo o (xs.push x) T) := by
 obtain ⟨i0, hi, hz0, hz1, hz2⟩ := info_parts info53
 obtain ⟨L, hown, hL⟩ := h.owns
 have hq0 := h.q0
 have hf0 := h.f0
 have hQ := h.lt
 have hoQ : some Q ≠ (Value.slice (Ao o) n c).ownBlock := fun e => by
  cases o with
  | none => simp [Value.ownBlock] at e
  | some G => simp [Value.ownBlock] at e; exact h.row.2.1 e
 have HOQ := Lib.hid hoQ
 have HF := Lib.hid (fun gg cap w3 ob a b d => pushE_of (gg := gg) (cap := cap) (w3 := w3) (ob := ob) (x := x) h hn hL a b d)
 rw [← hn] at hq0 hown
 have HO := Lib.hid hown
 have HX := Lib.hid (show ∀ j u, [Value.int .i64 x.key, .int .u64 x.turn, .int .i64 x.num][j]? = some u → ((w.alloc (.cells #[.int .i64 x.key, .int .u64 x.turn, .int .i64 x.num] 136)).drew).cell? ((⟨w.heap.size, 0, none⟩ : Addr).add j) = some u from
  World.news_of_block (cs := #[.int .i64 x.key, .int .u64 x.turn, .int .i64 x.num]) (t := 136) (fr := (0, 0)) (heap_alloc_new w _))
 generalize xs.push x = ys at HF ⊢
 clear hn h hown hL hoQ
 obtain ⟨xk, xt, xm⟩ := x
 dsimp only at HF HX ⊢
 have hta := ta_run xk xt xm
 go_enter Tryz.func259, Tryz.ntmps259
 go_wp2_with fail
 go_region_law (refine step_append_lies _ (by rfl) _ _ _ (by rfl) lo 136 i0 _ 3 24 Tryz.underlying123 hi hz0 hz1 hz2 (by rfl) (by decide) _ n L (by rfl) ((HO.out.alloc _).drew) ⟨w.heap.size, 0, none⟩ 1 1 [Value.int .i64 xk, .int .u64 xt, .int .i64 xm] (by rfl) (by rfl) HX.out (by intro u hu; simp at hu; rcases hu with rfl | rfl | rfl <;> rfl) (by omega) (by unfold maxLen; omega) (by omega) (by simp <;> omega) _ rfl ?_; intro gg cap w3 hown1 hgrow hat hlt3; have k0 := (hgrow.cell_far ⟨Q, 0, none⟩ (by simp <;> omega) HOQ.out).trans (((below_alloc w _).drew.cell (p := ⟨Q, 0, none⟩) hQ).trans hq0); have k1 := (hgrow.frozen_far ⟨Q, 0, none⟩ (by simp <;> omega) HOQ.out).trans (((below_alloc w _).drew.frozen (p := ⟨Q, 0, none⟩) hQ).trans hf0))
 all_goals (go_end0; exact HF.out _ _ _ _ hown1 hgrow hat)
theorem Fr.of_grown {w w' : World} {Q G : Nat} (h : w.grownBy w' (some G)) : Fr w w' Q (some G) :=
 ⟨h.os, h.tape, h.output, h.size, fun k hk _ ho => h.block k hk (fun e => ho e.symm)⟩
theorem Fr.trans {w w1 w2 : World} {Q : Nat} {o o1 : Option Nat} (h : Fr w w1 Q o) (h' : Fr w1 w2 Q o1) (ho : ∀ k, o1 = some k → o = some k ∨ w.heap.size ≤ k) : Fr w w2 Q o :=
 ⟨h'.os.trans h.os, h'.tape.trans h.tape, h'.output.trans h.output, Nat.le_trans h.size h'.size, fun k hk hQ hk2 =>
  (h'.block k (Nat.lt_of_lt_of_le hk h.size) hQ (fun e => by rcases ho k e with e | e; exact hk2 e; omega)).trans (h.block k hk hQ hk2)⟩
theorem Fr.below {w w' : World} {Q : Nat} {o : Option Nat} (h : Below w.heap.size w w') : Fr w w' Q o := ⟨h.os, h.tape, h.output, h.size, fun k hk _ _ => h.block k hk⟩
theorem Qu.hp {w : World} {Q lo c T G : Nat} {xs : Array It} (h : Qu w Q lo (some G) c xs T) : Hp w Q G c xs := ⟨h.row.2.2, h.q0, h.row.2.1⟩
theorem Qu.heap {w w' : World} {Q lo c T G : Nat} {xs ys : Array It} (h : Qu w Q lo (some G) c xs T) (hp : Hp w' Q G c ys) (hg : w.grownBy w' (some G)) : Qu w' Q lo (some G) c ys T := by
 have hb : w'.heap[Q]? = w.heap[Q]? := hg.block Q h.lt (fun e => h.row.2.1 (by injection e))
 exact ⟨hp.cell, (World.cell?_of_block hb).trans h.q1, (World.frozen?_of_block (a := ⟨Q, 0, none⟩) hb).trans h.f0, (World.frozen?_of_block (a := ⟨Q, 1, none⟩) hb).trans h.f1, h.row.1, h.row.2.1, hp.row⟩
theorem hpush_any (Q lo c T n : Nat) (o : Option Nat) (xs : Array It) (x : It) (w : World) (hlo : lo ≤ w.heap.size) (hn : n = xs.size) (hN : n ≤ 900000) (h : Qu w Q lo o c xs T) :
  Calls Tryz.prog 59 #[.iface 134 (Pq Q), .iface 136 (Iv x.key x.turn x.num)] w (PushE w Q lo o (up (xs.push x) n) T) := by
 have E54 := e54
 have E49 := e49
 unfold Enters at E54 E49
 have hm := m_push Q
 have HC := Lib.hid (ipush_any Q lo c T n o xs x w hlo hn (by omega) h)
 have HS := Lib.hid (show (xs.push x).size = n + 1 by simp [hn])
 generalize hys : xs.push x = ys at *
 clear hys hn h
 obtain ⟨xk, xt, xm⟩ := x
 dsimp only at HC ⊢
 go_enter Tryz.func59, Tryz.ntmps59
 go_wp2_with fail
 refine HC.out.mono ?_
 rintro e w1 ⟨rfl, G, c1, hq, ho, hfr⟩
 have HQ := Lib.hid hq
 have hl := m_len Q w1 _ hq.q0
 rw [HS.out] at hl
 have HU := Lib.hid (up_any Q G c1 (n + 1) n ys w1 HS.out.symm (by omega) (by omega) hq.hp)
 have HL := Lib.hid (len_any (Ao (some G)) (n + 1) c1)
 clear hq HC
 go_wp2_with fail
 refine (HL.out _).mono ?_
 rintro e w1' ⟨rfl, rfl⟩
 go_wp2_with fail
 refine HU.out.mono ?_
 rintro e w2 ⟨rfl, hp, hg⟩
 have HR := Lib.hid (show PushE w Q lo o (up ys n) T (.returned (.tuple #[])) w2 from ⟨rfl, G, c1, HQ.out.heap hp hg, ho, hfr.trans (Fr.of_grown hg) (fun k e => by injection e with e; subst e; exact ho)⟩)
 clear hp hg hfr ho
 go_wp2_with fail
 go_end0
 exact HR.out
theorem qpushE_of {w w2 : World} {Q lo T : Nat} {o : Option Nat} {ys : Array It} (h : PushE w Q lo o ys T (.returned (.tuple #[])) w2) :
  PushE w Q lo o ys (T + 1) (.returned (.tuple #[])) (w2.setCell ⟨Q, 1, none⟩ (.int .u64 ((T : Int) + 1))) := by
 obtain ⟨_, G, c', hq, ho, hf⟩ := h
 have n01 : (⟨Q, 1, none⟩ : Addr) ≠ ⟨Q, 0, none⟩ := fun e => by have := congrArg Addr.off e; simp at this
 refine ⟨rfl, G, c', ⟨?_, ?_, by simpa using hq.f0, by simpa using hq.f1, hq.row.1, hq.row.2.1, hq.row.2.2.of_block (Below.heap_setCell _ _ _ _ (fun e => hq.row.2.1 e.symm))⟩, ho, ?_⟩
 ·rw [World.cell?_setCell_other _ _ _ _ n01]; exact hq.q0
 ·exact (World.cell?_setCell_same _ _ _ hq.q1).trans (by simp)
 ·exact ⟨hf.os, hf.tape, hf.output, by have := hf.size; simpa [World.setCell] using this, fun k hk hQ hk2 => by rw [Below.heap_setCell _ _ _ _ (fun e => hQ e)]; exact hf.block k hk hQ hk2⟩
theorem Qu.below {w w' : World} {Q lo c T : Nat} {o : Option Nat} {xs : Array It} (h : Qu w Q lo o c xs T) (hb : Below w.heap.size w w') : Qu w' Q lo o c xs T := by
 have hl := h.lt
 refine ⟨(hb.cell (p := ⟨Q, 0, none⟩) hl).trans h.q0, (hb.cell (p := ⟨Q, 1, none⟩) hl).trans h.q1, (hb.frozen (p := ⟨Q, 0, none⟩) hl).trans h.f0, (hb.frozen (p := ⟨Q, 1, none⟩) hl).trans h.f1, ?_⟩
 cases o with
 | none => exact h.row
 | some G => exact ⟨h.row.1, h.row.2.1, h.row.2.2.of_block (hb.block _ h.row.2.2.lt)⟩
theorem pushE_base {w W w2 : World} {Q lo T : Nat} {o : Option Nat} {ys : Array It} {e : Ending} (hb : Below w.heap.size w W) (h : PushE W Q lo o ys T e w2) : PushE w Q lo o ys T e w2 := by
 obtain ⟨he, G, c', hq, ho, hf⟩ := h
 exact ⟨he, G, c', hq, ho.imp id (fun h => Nat.le_trans hb.size h), (Fr.below hb).trans hf (fun k e => .inl e)⟩
theorem pushE_turns {w w2 : World} {Q lo T : Nat} {o : Option Nat} {ys : Array It} {e : Ending} (h : PushE w Q lo o ys T e w2) : w2.cell? ⟨Q, 1, none⟩ = some (.int .u64 T) ∧ w2.frozen? ⟨Q, 1, none⟩ = false := by
 obtain ⟨he, G, c', hq, ho, hf⟩ := h
 exact ⟨hq.q1, hq.f1⟩
theorem qpush_any (Q lo c T n : Nat) (o : Option Nat) (xs : Array It) (k m : Int) (w : World) (hlo : lo ≤ w.heap.size) (hn : n = xs.size) (hN : n ≤ 900000) (hT : T ≤ 900000) (h : Qu w Q lo o c xs T) :
  Calls Tryz.prog 28 #[Pq Q, .int .i64 k, .int .i64 m] w (PushE w Q lo o (up (xs.push ⟨k, T, m⟩) n) (T + 1)) := by
 have HC := Lib.hid (fun W (hb : Below w.heap.size w W) => (hpush_any Q lo c T n o xs ⟨k, T, m⟩ W (Nat.le_trans hlo hb.size) hn hN (h.below hb)).mono fun _ _ hE => pushE_base hb hE)
 have q0 := h.q0
 have q1 := h.q1
 have hQ := h.lt
 generalize up (xs.push ⟨k, T, m⟩) n = ys at *
 have HF := Lib.hid (fun w2 (hE : PushE w Q lo o ys T (.returned (.tuple #[])) w2) => qpushE_of hE)
 dsimp only at HC
 clear hn h
 go_enter Tryz.func28, Tryz.ntmps28
 go_wp2_with fail
 go_cut [18] (fun v wx => PushE w Q lo o ys T (.returned (.tuple #[])) wx)
 case first =>
  go_region_with ((go_at_call 59; refine (HC.out _ (Below.refl _ _).drew).mono ?_; rintro e w2 hE; obtain ⟨rfl, hE2⟩ := id hE))
  all_goals (go_wp2_with fail; go_meet; case rel => exact hE)
 case rest =>
  obtain ⟨t0, t1⟩ := pushE_turns hcut
  have HCUT := Lib.hid hcut
  clear hcut HC q0 q1
  go_wp2_with fail
  go_end0
  exact HF.out _ HCUT.out
def ToldE (w : World) (k m : Int) (e : Ending) (w' : World) : Prop := e = .returned (.tuple #[.int .i64 k, .int .i64 m, .bool true]) ∧ Below w.heap.size w w'
theorem told_any (k t m : Int) (w : World) : Calls Tryz.prog 200 #[Iv k t m] w (ToldE w k m) := by
 have hb := below_alloc w (.cells #[.int .i64 k, .int .u64 t, .int .i64 m] 136)
 go_enter Tryz.func200, Tryz.ntmps200
 go_wp2_with fail
 go_quiet (fail)
 go_wp2_with fail
 go_ret3
 exact ⟨rfl, below_step hb ⟨rfl, rfl, rfl, Nat.le_refl _, fun _ _ => rfl⟩⟩
theorem qlen_any (Q lo c T n : Nat) (o : Option Nat) (xs : Array It) (w : World) (hn : n = xs.size) (h : Qu w Q lo o c xs T) : Calls Tryz.prog 56 #[Pq Q] w (fun e w' => e = .returned (.int .i64 n) ∧ w = w') := by
 have q0 := h.q0
 rw [← hn] at q0
 clear hn h
 go_enter Tryz.func56, Tryz.ntmps56
 go_wp2_with fail
 go_ret
 exact ⟨rfl, rfl⟩
theorem ta_item (k t m : Int) (w : World) : Sem.run Tryz.prog (Instr.typeAssert (.iface 136 (.agg #[.int .i64 k, .int .u64 t, .int .i64 m])) 20 136 false) w = .ok (.agg #[.int .i64 k, .int .u64 t, .int .i64 m]) w := by kernel_rfl
theorem g_pop (xs : Array It) (k : Nat) (hk : k < xs.size - 1) : g xs.pop k = g xs k := by
 rw [g_get (by simp; omega), g_get (by omega)]; simp
theorem QRow.pop {w : World} {G c : Nat} {xs : Array It} (h : QRow w G c xs) : QRow w G c xs.pop := by
 obtain ⟨h1, h2, f, hf, hc⟩ := h
 exact ⟨by simp; omega, h2, f, hf, fun i hi => by rw [g_pop xs i (by simpa using hi)]; exact hc i (by simp at hi; omega)⟩
def PopE (w : World) (Q lo G c T : Nat) (x : It) (ys : Array It) (e : Ending) (w' : World) : Prop :=
 e = .returned (.iface 136 (Iv x.key x.turn x.num)) ∧ Qu w' Q lo (some G) c ys T ∧ Fr w w' Q (some G)
theorem popE_of {w : World} {Q lo G c T n : Nat} {xs : Array It} (h : Qu w Q lo (some G) c xs T) (hn : xs.size = n + 1) (ob : Obj) :
  PopE w Q lo G c T (g xs n) xs.pop (.returned (.iface 136 (Iv (g xs n).key (g xs n).turn (g xs n).num))) ((w.setCell ⟨Q, 0, none⟩ (.slice (some ⟨G, 0, none⟩) n c)).alloc ob) := by
 have n01 : (⟨Q, 0, none⟩ : Addr) ≠ ⟨Q, 1, none⟩ := fun e => by have := congrArg Addr.off e; simp at this
 have h1 : Qu (w.setCell ⟨Q, 0, none⟩ (.slice (some ⟨G, 0, none⟩) n c)) Q lo (some G) c xs.pop T := by
  refine ⟨?_, ?_, by simpa using h.f0, by simpa using h.f1, h.row.1, h.row.2.1, (h.row.2.2.of_block (Below.heap_setCell _ _ _ _ (fun e => h.row.2.1 e.symm))).pop⟩
  ·rw [World.cell?_setCell_same _ _ _ h.q0]; simp [hn]
  ·rw [World.cell?_setCell_other _ _ _ _ n01]; exact h.q1
 have h2 : Fr w (w.setCell ⟨Q, 0, none⟩ (.slice (some ⟨G, 0, none⟩) n c)) Q (some G) :=
  ⟨rfl, rfl, rfl, by simp [World.setCell], fun k hk hQ _ => by rw [Below.heap_setCell _ _ _ _ (fun e => hQ e)]⟩
 exact ⟨rfl, h1.below (below_alloc _ _), h2.trans (Fr.below (below_alloc _ _)) (fun k e => .inl e)⟩
theorem ipop_any (Q lo c T n G : Nat) (xs : Array It) (w : World) (hn : xs.size = n + 1) (hN : n ≤ 1000000) (h : Qu w Q lo (some G) c xs T) :
  Calls Tryz.prog 258 #[Pq Q] w (PopE w Q lo G c T (g xs n) xs.pop) := by
 have q0 := h.q0
 have qf := h.f0
 have hQ := h.lt
 have hcap := h.row.2.2.1
 rw [hn] at q0 hcap
 have ha := h.row.2.2.at_ (i := n) (by omega)
 have HE := Lib.hid (fun ob => popE_of h hn ob)
 generalize g xs n = x at *
 obtain ⟨xk, xt, xm⟩ := x
 have f0 := ha.k
 have f1 := ha.t
 have f2 := ha.m
 dsimp only at f0 f1 f2 HE
 have hlen : ((n : Int) + 1 - 1) = n := by omega
 generalize xs.pop = ys at *
 clear hn h ha
 go_enter Tryz.func258, Tryz.ntmps258
 go_wp2_with fail
 go_ret
 exact HE.out _
theorem hpop_any (Q lo c T n G : Nat) (xs : Array It) (w : World) (hn : xs.size = n + 1) (hN : n ≤ 900000) (h : Qu w Q lo (some G) c xs T) :
  Calls Tryz.prog 199 #[.iface 134 (Pq Q)] w (PopE w Q lo G c T (g (down (swp xs 0 n) 0 n) n) (down (swp xs 0 n) 0 n).pop) := by
 have E49 := e49
 have E51 := e51
 have E53 := e53
 unfold Enters at E49 E51 E53
 have hl := m_len Q w _ h.q0
 have hs := m_swap Q w _ h.q0
 rw [hn] at hl hs
 have hp := m_pop Q
 have HS := Lib.hid (swap_any G c (n + 1) 0 n xs w hn.symm (by omega) (by omega) h.row.2.2 (by omega))
 have HD := Lib.hid (fun W hW => down_any Q G c (n + 1) 0 n (swp xs 0 n) W (by rw [size_swp]; exact hn.symm) (by omega) (by omega) (by omega) hW)
 have HZ := Lib.hid (show (down (swp xs 0 n) 0 n).size = n + 1 by
  have := (down_ok (swp xs 0 n) n n 0 (by rw [size_swp]; omega) (fun k hk h0 h1 => by omega) (fun k hk h0 h1 => by omega)).2.2.1
  rw [this, size_swp]; exact hn)
 have HH := Lib.hid h
 have HLN := Lib.hid (len_any (Ao (some G)) (n + 1) c w)
 have HSZ := Lib.hid (size_swp xs 0 n)
 generalize swp xs 0 n = ys at *
 generalize down ys 0 n = zs at *
 clear hn h
 go_enter Tryz.func199, Tryz.ntmps199
 go_wp2_with fail
 refine HLN.out.mono ?_
 rintro e w' ⟨rfl, rfl⟩
 go_wp2_with fail
 refine HS.out.mono ?_
 rintro e w1 hs1
 obtain ⟨rfl, hs2, hg1⟩ := id hs1
 have hp1 := HH.out.hp.swap hs1 HSZ.out
 have HQ1 := Lib.hid (HH.out.heap hp1 hg1)
 have HD1 := Lib.hid (HD.out w1 hp1)
 have HF1 := Lib.hid (Fr.of_grown (Q := Q) hg1)
 clear hs1 hs2 hg1 hp1 hl hs HLN HS HD
 go_wp2_with fail
 refine HD1.out.mono ?_
 rintro e w2 ⟨⟨b, rfl⟩, hp2, hg2⟩
 have HQ2 := Lib.hid (HQ1.out.heap hp2 hg2)
 have HF2 := Lib.hid (HF1.out.trans (Fr.of_grown hg2) (fun k e => .inl e))
 have HP := Lib.hid (ipop_any Q lo c T n G zs w2 HZ.out (by omega) HQ2.out)
 clear hp2 hg2 HD1
 go_wp2_with fail
 refine HP.out.mono ?_
 rintro e w3 ⟨rfl, hq3, hf3⟩
 have HR := Lib.hid (show PopE w Q lo G c T (g zs n) zs.pop (.returned (.iface 136 (Iv (g zs n).key (g zs n).turn (g zs n).num))) w3 from ⟨rfl, hq3, HF2.out.trans hf3 (fun k e => .inl e)⟩)
 clear hq3 hf3 HP
 go_wp2_with fail
 go_ret
 exact HR.out
def QPopE (w : World) (Q lo : Nat) (o : Option Nat) (T : Nat) (xs : Array It) (e : Ending) (w' : World) : Prop :=
 (xs.size = 0 ∧ e = .returned (.tuple #[.int .i64 0, .int .i64 0, .bool false]) ∧ w = w') ∨
 ∃ n G c', xs.size = n + 1 ∧ o = some G ∧ e = .returned (.tuple #[.int .i64 (g (down (swp xs 0 n) 0 n) n).key, .int .i64 (g (down (swp xs 0 n) 0 n) n).num, .bool true]) ∧
  Qu w' Q lo o c' (down (swp xs 0 n) 0 n).pop T ∧ Fr w w' Q o
theorem qpop_any (Q lo c T : Nat) (o : Option Nat) (xs : Array It) (w : World) (hN : xs.size ≤ 900000) (h : Qu w Q lo o c xs T) :
  Calls Tryz.prog 173 #[Pq Q] w (QPopE w Q lo o T xs) := by
 have q0 := h.q0
 rcases Nat.eq_zero_or_pos xs.size with h0 | h0
 ·rw [h0] at q0
  have HE := Lib.hid (show QPopE w Q lo o T xs (.returned (.tuple #[.int .i64 0, .int .i64 0, .bool false])) w from .inl ⟨h0, rfl, rfl⟩)
  clear h h0
  go_enter Tryz.func173, Tryz.ntmps173
  go_wp2_with fail
  go_ret3
  exact HE.out
 ·cases o with
  | none => have := h.row.1; omega
  | some G =>
   obtain ⟨n, hn⟩ : ∃ n, xs.size = n + 1 := ⟨xs.size - 1, by omega⟩
   rw [hn] at q0
   have HP := Lib.hid (hpop_any Q lo c T n G xs w hn (by omega) h)
   have HE := Lib.hid (fun (w1 w' : World) (hq : Qu w1 Q lo (some G) c (down (swp xs 0 n) 0 n).pop T) (hf : Fr w w1 Q (some G)) (hb : Below w1.heap.size w1 w') =>
    (show QPopE w Q lo (some G) T xs (.returned (.tuple #[.int .i64 (g (down (swp xs 0 n) 0 n) n).key, .int .i64 (g (down (swp xs 0 n) 0 n) n).num, .bool true])) w' from
     .inr ⟨n, G, c, hn, rfl, rfl, hq.below hb, hf.trans (Fr.below hb) (fun k e => .inl e)⟩))
   generalize (down (swp xs 0 n) 0 n).pop = ys at *
   generalize g (down (swp xs 0 n) 0 n) n = x at *
   obtain ⟨xk, xt, xm⟩ := x
   dsimp only at HE
   have hta := ta_item xk xt xm
   have hb0 : ((n : Int) + 1 == 0) = false := by simp; omega
   clear h hn h0
   go_enter Tryz.func173, Tryz.ntmps173
   go_wp2_with fail
   refine HP.out.mono ?_
   rintro e w1 ⟨rfl, hq, hf⟩
   have HT := Lib.hid (fun W => told_any xk xt xm W)
   have HQ := Lib.hid hq
   have HFr := Lib.hid hf
   clear hq hf HP
   go_wp2_with fail
   refine (HT.out _).mono ?_
   rintro e w2 ⟨rfl, hb⟩
   have HB := Lib.hid (below_step (below_alloc _ _) hb)
   clear hb HT
   go_wp2_with fail
   go_ret3
   exact HE.out _ _ HQ.out HFr.out HB.out
def Sl (w : World) (o : Option Nat) (c : Nat) (xs : Array It) : Prop := match o with | none => xs.size = 0 ∧ c = 0 | some G => QRow w G c xs
theorem grownBy_sets (G : Nat) : ∀ (vs : List Value) (o : Nat) (w : World), w.grownBy (w.setCells G o vs) (some G)
 | [], _, w => grownBy_refl w _
 | v :: r, o, w => grownBy_trans (grownBy_set w G o v) (grownBy_sets G r (o + 1) _)
def keepB (m : Int) (x : It) : Bool := !(x.num == m)
structure Inv (m : Int) (xs ys : Array It) (i j : Nat) : Prop where
 lt : i < j
 le : j ≤ xs.size
 size : ys.size = xs.size
 front : ys.toList.take i = (xs.toList.take j).filter (keepB m)
 back : ∀ k, j ≤ k → g ys k = g xs k
def DelE (w : World) (o : Option Nat) (c : Nat) (m : Int) (xs : Array It) (e : Ending) (w' : World) : Prop :=
 ∃ ys, ys.toList = xs.toList.filter (keepB m) ∧ e = .returned (.slice (Ao o) ys.size c) ∧ Sl w' o c ys ∧ w.grownBy w' o
theorem Fr.refl (w : World) (Q : Nat) (o : Option Nat) : Fr w w Q o := ⟨rfl, rfl, rfl, Nat.le_refl _, fun _ _ _ _ => rfl⟩
theorem new_any (w : World) (lo : Nat) (hlo : lo ≤ w.heap.size) : Calls Tryz.prog 26 #[] w (fun e w' => ∃ ob, e = .returned (Pq w.heap.size) ∧ Qu w' w.heap.size lo none 0 #[] 0 ∧ w' = w.alloc ob) := by
 have HQ := Lib.hid (show Qu (w.alloc (.cells #[.slice none 0 0, .int .u64 0] 126)) w.heap.size lo none 0 #[] 0 from ⟨by simp, by simp, by simp, by simp, ⟨rfl, rfl⟩⟩)
 go_enter Tryz.func26, Tryz.ntmps26
 go_wp2_with fail
 go_ret
 exact ⟨_, rfl, HQ.out, rfl⟩
theorem Qu.old {w : World} {Q lo c T : Nat} {o : Option Nat} {xs : Array It} (h : Qu w Q lo o c xs T) : ∀ G, o = some G → G < w.heap.size := by
 intro G e; subst e; exact h.row.2.2.lt
theorem Fr.grown {w w' : World} {Q : Nat} {o : Option Nat} (h : w.grownBy w' o) : Fr w w' Q o := ⟨h.os, h.tape, h.output, h.size, fun k hk _ ho => h.block k hk (fun e => ho e.symm)⟩
theorem Fr.setQ (w : World) (Q : Nat) (o : Option Nat) (v : Value) : Fr w (w.setCell ⟨Q, 0, none⟩ v) Q o :=
 ⟨rfl, rfl, rfl, by simp [World.setCell], fun k _ hQ _ => by rw [Below.heap_setCell _ _ _ _ (fun e => hQ e)]⟩
end Go.Proofs.YtpmpbmjjlccbbaaGreat.qu
