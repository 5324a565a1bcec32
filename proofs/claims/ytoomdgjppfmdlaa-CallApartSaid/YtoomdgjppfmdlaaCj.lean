/- The code's Decode. -/
import Derived.Test.YtoomdgjppfmdlaaCi
namespace Go.Proofs.Ytoomdgjppfmdlaa
open Go.RowKit
set_option linter.unusedVariables false
set_option linter.unusedSimpArgs false

theorem Nx.low {w w' : World} {P Q n c i B : Nat} {A : Option Addr} {l : Bs} (h : Nx w P Q A n c l i) (hb : Below B w w') (hB : P < B) : Nx w' P Q A n c l i :=
  have hQ : Q < B := by have := h.ne; omega
  ⟨(hb.cell (p := ⟨P, 0, none⟩) hB).trans h.at_, (hb.frozen (p := ⟨P, 0, none⟩) hB).trans h.fz, (hb.cell (p := ⟨Q, 0, none⟩) hQ).trans h.sl, h.byt.keep fun b hb2 => hb.block b (by omega), h.len, h.le, h.ne, by have := hb.size; have := h.lt; omega⟩
theorem Co.only {w w' : World} {P B n c : Nat} {A : Option Addr} {L : List C} (h : Co w B A n c L) (ho : OnlyP P w w') (hP : P < B) : Co w' B A n c L := by
  refine ⟨h.1, ?_⟩
  rcases h.2 with h2 | ⟨g, cap, cur, hv, hb, hg, r⟩
  · exact .inl h2
  · exact .inr ⟨g, cap, cur, hv, hb, (ho.block g (by rcases Nat.lt_or_ge g w.heap.size with h | h; exact h; rw [Array.getElem?_eq_none h] at hg; cases hg) (by omega)).trans hg, r⟩

set_option maxHeartbeats 4000000 in
set_option maxRecDepth 100000 in
theorem dec_any (A : Option Addr) (n c : Nat) (l : Bs) (w : World) (hn : n = l.length) (hN : n ≤ 100000) (h : Byt w w.heap.size A l) : Calls Try.prog 11 #[.slice A n c] w (DecE w (decs l 200 0)) := by
  have hmf : ∀ (fn : Fn) (first cap : Array Value) (w : World), (Instr.makeFunc fn first cap).run Try.prog w = .ok (.func fn first cap) w := fun _ _ _ _ => rfl
  obtain ⟨w2, hw2⟩ : ∃ w2, (w.alloc (.cells #[.slice A n c] 22)).alloc (.cells #[.int .i64 0] 3) = w2 := ⟨_, rfl⟩
  have hb2 : Below w.heap.size w w2 := by rw [← hw2]; exact below_step (below_alloc _ _) (below_alloc _ _)
  have hs2 : w2.heap.size = w.heap.size + 2 := by rw [← hw2, World.size_alloc, World.size_alloc]
  have hr1 : w2.heap[w.heap.size]? = some (.cells #[.slice A n c] 22 (0, 0)) := by rw [← hw2]; exact (Below.heap_alloc _ _ _ (by rw [World.size_alloc]; omega)).trans (heap_alloc_new w _)
  have hr2 : w2.heap[w.heap.size + 1]? = some (.cells #[.int .i64 0] 3 (0, 0)) := by rw [← hw2]; have := heap_alloc_new (w.alloc (.cells #[.slice A n c] 22)) (.cells #[.int .i64 0] 3); rwa [World.size_alloc] at this
  obtain ⟨Q, hQ⟩ : ∃ Q, w.heap.size = Q := ⟨_, rfl⟩
  rw [hQ] at hr1 hr2 hs2 h hb2
  have HX := Lib.hid (show Nx w2 (Q + 1) Q A n c l 0 from ⟨by rw [cell_row hr2, Nat.zero_min]; rfl, row_frozen hr2, by rw [cell_row hr1]; rfl, h.below hb2, hn, hN, by omega, by omega⟩)
  have HB2 := Lib.hid hb2
  have HS2 := Lib.hid hs2
  have HN := Lib.hid hn
  have HQ := Lib.hid (show Q = w.heap.size from hQ.symm)
  subst hw2
  clear h hn hr1 hr2 hb2 hs2
  go_enter Try.func11, Try.ntmps11
  go_wp2_with fail
  go_loopg [5] 200 (fun g s5 wr => ∃ (k p c' : Nat) (A' : Option Addr) (D : List C), g + k = 200 ∧ s5 = .slice A' k c' ∧ p ≤ k * 135 ∧ Hid (decs l 200 0 = D ++ decs l (200 - k) p) ∧ Hid (Co wr (Q + 2) A' k c' D) ∧ Hid (Nx wr (Q + 1) Q A n c l p) ∧ Hid (Below Q w wr) ∧ Hid (Q + 2 ≤ wr.heap.size))
  case atStart => exact ⟨0, 0, 0, none, [], by omega, rfl, by omega, Lib.hid rfl, Lib.hid (Co.nil _ _), HX, HB2, Lib.hid (by have := HS2.out; omega)⟩
  case round =>
    obtain ⟨k, p, c', A', D, hgk, rfl, hp, HD, HR, HNX, HW, HS⟩ := hrel
    have hat := HNX.out.at_
    have hsl := HNX.out.sl
    by_cases hgo : p < n ∧ k < 200
    · obtain ⟨hpn, hk2⟩ := hgo
      have HD2 := Lib.hid (decs_step l D k p hk2 (by rw [← HN.out]; exact hpn) HD.out)
      rw [Nat.min_eq_left (by omega)] at hat
      go_wp2_with fail
      refine (done_any _ HNX.out).mono ?_
      rintro e w3 ⟨rfl, h3, p3⟩
      have hwid : wid l p ≤ 135 := by unfold wid la lb; omega
      have HV := Lib.hid (show wid l p = wid l p from rfl)
      generalize wid l p = m at *
      have HN3 := Lib.hid (fun ob => h3.below (below_alloc w3 ob))
      have HC3 := Lib.hid (fun ob => (HR.out.only p3 (by omega)).keep (below_alloc w3 ob))
      have HW3 := Lib.hid (fun ob => (show Below Q w (w3.alloc ob) from (OnlyP.below HW.out p3 (by have := HS.out; omega) (by omega)).trans ((below_alloc w3 ob).mono (by have := HS.out; have := p3.size; omega))))
      have HS3 := Lib.hid (show Q + 2 ≤ w3.heap.size from by have := HS.out; have := p3.size; omega)
      clear h3 p3 hat hsl
      generalize dec l p = d at *
      go_wp2_with (at_builtin; refine wpList_appc _ rfl (.tmp 16) (.tmp 19) rfl (Q + 2) (w3.heap.size + 1) k 1 c' 1 A' (some ⟨w3.heap.size, 0, none⟩) _ [d] (by rfl) (by rfl) (HC3.out _) rfl (by exact newsC _ _ _ rfl) (by omega) (by have := HS3.out; simp; omega) ?_; intro A5 c5 w5 o5 b5)
      have HR5 := Lib.hid o5
      have HN5 := Lib.hid ((HN3.out _).low b5 (by omega))
      have HW5 := Lib.hid ((HW3.out _).trans (b5.mono (by omega)))
      have HS5 := Lib.hid (show Q + 2 ≤ w5.heap.size from by have := b5.size; rw [World.size_alloc] at this; have := HS3.out; omega)
      clear o5 b5
      go_wp2_with fail
      go_roundg (gk - 1)
      case measure => omega
      case rel => exact ⟨k + 1, p + m, c5, A5, _, by omega, rfl, by omega, HD2, HR5, HN5, HW5, HS5⟩
    · have HF := Lib.hid (decs_end l D k p (by omega) (by rw [← HN.out]; omega) HD.out)
      have HE := Lib.hid (show DecE w D (.returned (.slice A' k c')) wr from ⟨_, _, _, rfl, HR.out.base (by rw [← HQ.out]; omega), by rw [← HQ.out]; exact HW.out⟩)
      by_cases hpn : p < n
      · have hk : ¬ ((k : Int) < 200) := by omega
        have hk2 : decide ((k : Int) < 200) = false := by simp; omega
        rw [Nat.min_eq_left (by omega)] at hat
        clear hgo
        go_wp2_with fail
        go_ret
        rw [HF.out]
        exact HE.out
      · rw [Nat.min_eq_right (by omega)] at hat
        clear hgo
        go_wp2_with fail
        go_ret
        rw [HF.out]
        exact HE.out
end Go.Proofs.Ytoomdgjppfmdlaa
