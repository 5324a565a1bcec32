/- The document's Decode. -/
import Derived.Test.YtoomdgjppfmdlaaCe
namespace Go.Proofs.Ytoomdgjppfmdlaa
open Go.RowKit
set_option linter.unusedVariables false
set_option linter.unusedSimpArgs false

/-- What Decode hands back. -/
def DecE (w : World) (D : List C) (e : Ending) (w' : World) : Prop := ∃ A n c, e = .returned (.slice A n c) ∧ Co w' w.heap.size A n c D ∧ Below w.heap.size w w'
theorem newsC (w : World) (vs : Array Value) (c : C) (h : vs.toList = CL c) : Cls (w.alloc (.cells vs 32)) (w.heap.size + 1) (some ⟨w.heap.size, 0, none⟩) [c] := by
  intro i d hd
  refine ⟨w.heap.size, 0, rfl, by omega, fun j v hv => ?_⟩
  rw [cell_row (heap_alloc_new w _)]
  match i, hd with
  | 0, hd =>
    injection hd with hd
    subst hd
    rw [← h] at hv
    simpa using hv
theorem decs_step (l : Bs) (D : List C) (k p : Nat) (hk : k < 200) (hp : p < l.length) (h : decs l 200 0 = D ++ decs l (200 - k) p) : decs l 200 0 = (D ++ [dec l p]) ++ decs l (200 - (k + 1)) (p + wid l p) := by
  rw [h, show 200 - k = (200 - (k + 1)) + 1 from by omega, decs, if_pos hp]; simp
theorem decs_end (l : Bs) (D : List C) (k p : Nat) (hk : k ≤ 200) (hp : l.length ≤ p ∨ k = 200) (h : decs l 200 0 = D ++ decs l (200 - k) p) : decs l 200 0 = D := by
  rw [h]
  rcases hp with hp | hp
  · rw [decs_out l _ _ hp, List.append_nil]
  · rw [hp]; simp [decs]

theorem row7 {w : World} {X : Nat} {v0 v1 v2 v3 v4 v5 v6 : Value} (h : w.heap[X]? = some (.cells #[v0, v1, v2, v3, v4, v5, v6] 32 (0, 0))) :
    w.cell? ⟨X, 0, none⟩ = some v0 ∧ w.cell? ⟨X, 1, none⟩ = some v1 ∧ w.cell? ⟨X, 2, none⟩ = some v2 ∧ w.cell? ⟨X, 3, none⟩ = some v3 ∧ w.cell? ⟨X, 4, none⟩ = some v4 ∧ w.cell? ⟨X, 5, none⟩ = some v5 ∧ w.cell? ⟨X, 6, none⟩ = some v6 ∧
    w.frozen? ⟨X, 5, none⟩ = false ∧ w.frozen? ⟨X, 6, none⟩ = false := by
  refine ⟨?_, ?_, ?_, ?_, ?_, ?_, ?_, ?_, ?_⟩
  all_goals first | (rw [cell_row h]; rfl) | (simp [World.frozen?, h])
theorem set5 {w : World} {X : Nat} {v0 v1 v2 v3 v4 v5 v6 : Value} (h : w.heap[X]? = some (.cells #[v0, v1, v2, v3, v4, v5, v6] 32 (0, 0))) (u : Value) :
    (w.setCell ⟨X, 5, none⟩ u).heap[X]? = some (.cells #[v0, v1, v2, v3, v4, u, v6] 32 (0, 0)) := by
  simp [World.setCell, Array.getElem?_modify, h]
theorem set6 {w : World} {X : Nat} {v0 v1 v2 v3 v4 v5 v6 : Value} (h : w.heap[X]? = some (.cells #[v0, v1, v2, v3, v4, v5, v6] 32 (0, 0))) (u : Value) :
    (w.setCell ⟨X, 6, none⟩ u).heap[X]? = some (.cells #[v0, v1, v2, v3, v4, v5, u] 32 (0, 0)) := by
  simp [World.setCell, Array.getElem?_modify, h]
theorem dec_cells (l : Bs) (p : Nat) : [Value.int .i64 ((at_ l p : Int) % 20 + 1), .int .i64 ((at_ l (p + 1) : Int) % 40 - 4), .int .i64 ((at_ l (p + 2) : Int) % 64), .int .i64 ((at_ l (p + 3) : Int) * 256 + at_ l (p + 4) - 256), .int .i64 ((at_ l (p + 5) : Int) * 256 + at_ l (p + 6) - 256),
    Sv (txt l (p + 8) (at_ l (p + 7) % 64)), Sv (txt l (p + 9 + at_ l (p + 7) % 64) (at_ l (p + 8 + at_ l (p + 7) % 64) % 64))] = CL (dec l p) := by
  simp [CL, dec, num, la, lb]

set_option maxHeartbeats 8000000 in
set_option maxRecDepth 100000 in
theorem rdec_any (A : Option Addr) (n c : Nat) (l : Bs) (w : World) (hn : n = l.length) (hN : n ≤ 100000) (h : Byt w w.heap.size A l) : Calls Try.prog 13 #[.slice A n c] w (DecE w (decs l 200 0)) := by
  have HN := Lib.hid hn
  have HB := Lib.hid h
  clear hn h
  go_enter Try.func13, Try.ntmps13
  go_wp2_with fail
  go_loopg [4, 3] 200 (fun g s4 s3 wr => ∃ (k p c' : Nat) (A' : Option Addr) (D : List C), g + k = 200 ∧ s4 = .int .i64 p ∧ s3 = .slice A' k c' ∧ p ≤ k * 135 ∧ Hid (decs l 200 0 = D ++ decs l (200 - k) p) ∧ Hid (Co wr w.heap.size A' k c' D) ∧ Hid (Below w.heap.size w wr))
  case atStart => exact ⟨0, 0, 0, some ⟨w.heap.size, 0, none⟩, [], by omega, rfl, rfl, by omega, Lib.hid rfl, Lib.hid (by exact World.ownsRow_lit w #[] 0 (Nat.le_refl _) (by unfold maxLen; omega) rfl), Lib.hid (below_alloc _ _)⟩
  case round =>
    obtain ⟨k, p, c', A', D, hgk, rfl, rfl, hp, HD, HR, HW⟩ := hrel
    have HS := Lib.hid (HW.out.size)
    by_cases hgo : p < n ∧ k < 200
    · obtain ⟨hpn, hk2⟩ := hgo
      have HB2 := Lib.hid ((HB.out.below HW.out).more HS.out)
      have HD2 := Lib.hid (decs_step l D k p hk2 (by rw [← HN.out]; exact hpn) HD.out)
      have v0 := at_lt l p
      have v1 := at_lt l (p + 1)
      have v2 := at_lt l (p + 2)
      have v3 := at_lt l (p + 3)
      have v4 := at_lt l (p + 4)
      have v5 := at_lt l (p + 5)
      have v6 := at_lt l (p + 6)
      have v7 := at_lt l (p + 7)
      go_wp2_with fail
      refine (rat_any A n c l _ p _ (by omega) HN.out (by omega) (by omega) HB2.out).mono ?_
      rintro e w2 ⟨rfl, rfl⟩
      go_wp2_with fail
      refine (rat_any A n c l _ (p + 1) _ (by omega) HN.out (by omega) (by omega) HB2.out).mono ?_
      rintro e w2 ⟨rfl, rfl⟩
      go_wp2_with fail
      refine (rat_any A n c l _ (p + 2) _ (by omega) HN.out (by omega) (by omega) HB2.out).mono ?_
      rintro e w2 ⟨rfl, rfl⟩
      have HB3 := Lib.hid (fun ob => (HB2.out.below (below_alloc wr ob)).more (below_alloc wr ob).size)
      go_wp2_with fail
      refine (rat_any A n c l _ (p + 3) _ (by omega) HN.out (by omega) (by omega) (HB3.out _)).mono ?_
      rintro e w2 ⟨rfl, rfl⟩
      go_wp2_with fail
      refine (rat_any A n c l _ (p + 4) _ (by omega) HN.out (by omega) (by omega) (HB3.out _)).mono ?_
      rintro e w2 ⟨rfl, rfl⟩
      go_wp2_with fail
      refine (rat_any A n c l _ (p + 5) _ (by omega) HN.out (by omega) (by omega) (HB3.out _)).mono ?_
      rintro e w2 ⟨rfl, rfl⟩
      go_wp2_with fail
      refine (rat_any A n c l _ (p + 6) _ (by omega) HN.out (by omega) (by omega) (HB3.out _)).mono ?_
      rintro e w2 ⟨rfl, rfl⟩
      go_wp2_with fail
      refine (rat_any A n c l _ (p + 7) _ (by omega) HN.out (by omega) (by omega) (HB3.out _)).mono ?_
      rintro e w2 ⟨rfl, rfl⟩
      have HROW := Lib.hid (fun v0 v1 v2 v3 v4 v5 v6 (W : World) (hW : Below (wr.alloc (.cells #[v0, v1, v2, v3, v4, v5, v6] 32)).heap.size (wr.alloc (.cells #[v0, v1, v2, v3, v4, v5, v6] 32)) W) => (show W.heap[wr.heap.size]? = some (.cells #[v0, v1, v2, v3, v4, v5, v6] 32 (0, 0)) ∧ Below wr.heap.size wr W ∧ wr.heap.size < W.heap.size from ⟨(hW.block _ (by rw [World.size_alloc]; omega)).trans (heap_alloc_new wr _), below_step (below_alloc wr _) hW, by have := hW.size; rw [World.size_alloc] at this; omega⟩))
      go_wp2_with fail
      refine (rtext_any A n c l _ _ (p + 8) (at_ l (p + 7) % 64) _ (by omega) (by omega) (by omega) HN.out (by omega) (by omega) (HB3.out _)).mono ?_
      rintro e w8 ⟨rfl, b8⟩
      obtain ⟨r8, b8', z8⟩ := HROW.out _ _ _ _ _ _ _ _ b8
      obtain ⟨k0, k1, k2, k3, k4, k5, k6, q5, q6⟩ := row7 r8
      have R9 := set5 r8 (Sv (txt l (p + 8) (at_ l (p + 7) % 64)))
      have B9 : Below wr.heap.size wr (w8.setCell ⟨wr.heap.size, 5, none⟩ (Sv (txt l (p + 8) (at_ l (p + 7) % 64)))) := b8'.setCell (Nat.le_refl _) _
      have Z9 := World.size_setCell w8 ⟨wr.heap.size, 5, none⟩ (Sv (txt l (p + 8) (at_ l (p + 7) % 64)))
      obtain ⟨w9, hw9⟩ : ∃ w9, w8.setCell ⟨wr.heap.size, 5, none⟩ (Sv (txt l (p + 8) (at_ l (p + 7) % 64))) = w9 := ⟨_, rfl⟩
      rw [hw9] at R9 B9 Z9
      have HZ9 := Lib.hid Z9
      have HR9 := Lib.hid R9
      have HB9 := Lib.hid B9
      have HY9 := Lib.hid ((HB2.out.below B9).more (show wr.heap.size ≤ w9.heap.size by omega))
      have z9 : wr.heap.size < w9.heap.size := by omega
      have v8 := at_lt l (p + 8 + at_ l (p + 7) % 64)
      clear HROW b8 b8' r8 R9 B9 Z9
      go_wp2_with fail
      refine (rat_any A n c l _ (p + 8 + at_ l (p + 7) % 64) _ (by omega) HN.out (by omega) (by omega) HY9.out).mono ?_
      rintro e w2 ⟨rfl, rfl⟩
      go_wp2_with fail
      refine (rtext_any A n c l _ _ (p + 9 + at_ l (p + 7) % 64) (at_ l (p + 8 + at_ l (p + 7) % 64) % 64) _ (by omega) (by omega) (by omega) HN.out (by omega) (by omega) HY9.out).mono ?_
      rintro e wa ⟨rfl, ba⟩
      have ra := (ba.block wr.heap.size z9).trans HR9.out
      have Ba := HB9.out.trans (ba.mono (show wr.heap.size ≤ w9.heap.size by omega))
      have za : wr.heap.size < wa.heap.size := by have := ba.size; omega
      clear k0 k1 k2 k3 k4 k5 k6 q5 q6 hw9
      obtain ⟨k0, k1, k2, k3, k4, k5, k6, q5, q6⟩ := row7 ra
      have Rb := set6 ra (Sv (txt l (p + 9 + at_ l (p + 7) % 64) (at_ l (p + 8 + at_ l (p + 7) % 64) % 64)))
      have Bb : Below wr.heap.size wr (wa.setCell ⟨wr.heap.size, 6, none⟩ (Sv (txt l (p + 9 + at_ l (p + 7) % 64) (at_ l (p + 8 + at_ l (p + 7) % 64) % 64)))) := Ba.setCell (Nat.le_refl _) _
      have Zb := World.size_setCell wa ⟨wr.heap.size, 6, none⟩ (Sv (txt l (p + 9 + at_ l (p + 7) % 64) (at_ l (p + 8 + at_ l (p + 7) % 64) % 64)))
      obtain ⟨wb, hwb⟩ : ∃ wb, wa.setCell ⟨wr.heap.size, 6, none⟩ (Sv (txt l (p + 9 + at_ l (p + 7) % 64) (at_ l (p + 8 + at_ l (p + 7) % 64) % 64))) = wb := ⟨_, rfl⟩
      rw [hwb] at Rb Bb Zb
      have zb : wr.heap.size < wb.heap.size := by omega
      have HRb := Lib.hid Rb
      have HBb := Lib.hid Bb
      have HCb := Lib.hid (fun ob => ((HR.out.keep Bb).keep (below_alloc wb ob)))
      have HWb := Lib.hid (HW.out.trans (Bb.mono HS.out))
      have HVb := Lib.hid (fun ob => HWb.out.trans ((below_alloc wb ob).mono HWb.out.size))
      clear ra Ba ba Rb Bb Zb za
      obtain ⟨l0, l1, l2, l3, l4, l5, l6, -, -⟩ := row7 HRb.out
      go_wp2_with (at_builtin; refine wpList_appc _ rfl (.tmp 88) (.tmp 90) rfl w.heap.size (wb.heap.size + 1) k 1 c' 1 A' (some ⟨wb.heap.size, 0, none⟩) _ [dec l p] (by rfl) (by rfl) (HCb.out _) rfl (by exact newsC _ _ _ (dec_cells l p)) (by omega) (by have := HWb.out.size; simp; omega) ?_; intro A5 c5 w5 o5 b5)
      have HR5 := Lib.hid o5
      have HW5 := Lib.hid ((HVb.out _).trans b5)
      clear o5 b5
      go_wp2_with fail
      go_roundg (gk - 1)
      case measure => omega
      case rel => exact ⟨k + 1, p + wid l p, c5, A5, _, by omega, congrArg (Value.int .i64) (by unfold wid lb la; omega), rfl, by unfold wid lb la; omega, HD2, HR5, HW5⟩
    · have HF := Lib.hid (decs_end l D k p (by omega) (by rw [← HN.out]; omega) HD.out)
      by_cases hpn : p < n
      · have hk : ¬ ((k : Int) < 200) := by omega
        have hk2 : decide ((k : Int) < 200) = false := by simp; omega
        clear hgo
        go_wp2_with fail
        go_ret
        rw [HF.out]
        exact ⟨_, _, _, rfl, HR.out, HW.out⟩
      · have hk : ¬ ((p : Int) < (n : Int)) := by omega
        have hk2 : decide ((p : Int) < (n : Int)) = false := by simp; omega
        have hk3 : decide (p < n) = false := by simp; omega
        clear hgo
        go_wp2_with fail
        go_ret
        rw [HF.out]
        exact ⟨_, _, _, rfl, HR.out, HW.out⟩
end Go.Proofs.Ytoomdgjppfmdlaa
