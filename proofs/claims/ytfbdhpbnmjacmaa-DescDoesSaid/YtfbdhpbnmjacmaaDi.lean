/- The document's table: All; two rows of the same numbers. -/
import Derived.Test.YtfbdhpbnmjacmaaDz
import Derived.Test.YtfbdhpbnmjacmaaDx
namespace Go.Proofs.Ytfbdhpbnmjacmaa.ds
open Go.RowKit
open Go.Proofs.Ytfbdhpbnmjacmaa.pa (Bs Sv Strs Own own_form info9 own_base)
set_option linter.unusedVariables false
set_option linter.unusedSimpArgs false

theorem ints_lit (w : World) (B : Nat) (hB : B ≤ w.heap.size) : (w.alloc (.cells #[] 3)).ownsRow B 3 1 (.slice (some ⟨w.heap.size, 0, none⟩) 0 0) 0 [] :=
  ⟨rfl, .inr ⟨w.heap.size, 0, #[], rfl, hB, heap_alloc_new w _, Nat.le_refl _, by unfold maxLen; omega, rfl, rfl⟩⟩
set_option maxHeartbeats 4000000 in
theorem r_all {w0 w : World} {D : Nat} {N : Nat → Prop} {T : Tb} (h : RT w0 w D N T) : Calls Try.prog 22 #[Pq D] w (IntsE w (allT T 32)) := by
  have HX := Lib.hid h
  obtain ⟨i0, hi, hz0, hz1, hz2⟩ := info_parts (P := Try.prog) (e := 3) (z := .int .i64 0) (size := 1) (bytes := 8) (by kernel_rfl)
  have HI := Lib.hid hi
  have HZ := Lib.hid (show i0.zero = some (.int .i64 0) ∧ i0.size = 1 ∧ i0.bytes = 8 from ⟨hz0, hz1, hz2⟩)
  clear h hi hz0 hz1 hz2
  go_enter Try.func22, Try.ntmps22
  go_wp2_with fail
  go_loopg [3, 4] 32 (fun g s3 s4 wr => ∃ k : Nat, g + k = 32 ∧ s4 = .int .i64 k ∧ Hid (wr.ownsRow w.heap.size 3 1 s3 (allT T k).length ((allT T k).map Iv)) ∧ Hid (Below w.heap.size w wr))
  case atStart => exact ⟨0, by omega, rfl, Lib.hid (ints_lit w _ (Nat.le_refl _)), Lib.hid (below_alloc w _)⟩
  case round =>
    obtain ⟨k, hg, rfl, HO, HB⟩ := hrel
    have HLE := Lib.hid (all_le T k)
    obtain ⟨L, hL⟩ : ∃ L, L = allT T k := ⟨_, rfl⟩
    obtain ⟨n, hn⟩ : ∃ n, n = L.length := ⟨_, rfl⟩
    rw [← hL, ← hn] at HO HLE
    have HLL := Lib.hid hL
    have HNN := Lib.hid hn
    have HW := Lib.hid HB.out.size
    clear hL hn
    by_cases hk : k < 32
    · have hs := (HX.out.below HB.out).is_ k hk
      cases hT : T k with
      | none =>
        rw [hT] at hs
        have c : wr.cell? ⟨D, k, none⟩ = some (.bool false) := hs
        have HT := Lib.hid (all_succ_out hT)
        clear hs hT
        go_wp2_with fail
        go_roundg (gk - 1)
        case measure => omega
        case rel => exact ⟨k + 1, by omega, by go_num, by rw [HT.out, ← HLL.out, ← HNN.out]; exact HO, HB⟩
      | some d =>
        rw [hT] at hs
        have c : wr.cell? ⟨D, k, none⟩ = some (.bool true) := hs
        have HT := Lib.hid (all_succ_in hT)
        clear hT hs
        go_wp2_with (at_builtin; refine wpList_append_own _ rfl (.tmp 16) (.tmp 18) 45 rfl w.heap.size 3 i0 _ 1 8 Try.underlying45 HI.out HZ.out.1 HZ.out.2.1 HZ.out.2.2 rfl (by decide) u3 n (L.map Iv) rfl (HO.out.alloc _) ⟨wr.heap.size, 0, none⟩ 1 1 [Iv k] rfl rfl (cell_new1 _ _ _) (by intro u hu; simp at hu; subst hu; rfl) (by have := HLE.out; unfold maxLen; omega) (by have := HLE.out; omega) (by have := HW.out; simp; omega) ?_; intro v1 w3 hown1 hgrow1 _)
        go_roundg (gk - 1)
        case measure => omega
        case rel =>
          have hb3 : Below w.heap.size w w3 := (HB.out.alloc HW.out _).grown hgrow1 (by have := HW.out; simp; omega) (fun g h => (HO.out.lt g h).1)
          refine ⟨k + 1, by omega, by go_num, ?_, Lib.hid hb3⟩
          rw [HT.out, ← HLL.out, List.length_append, List.length_singleton, ← HNN.out, List.map_append]
          exact Lib.hid hown1
    · have hk2 : k = 32 := by omega
      obtain ⟨A, cc, rfl⟩ := own_slice HO.out
      have HF := Lib.hid (show IntsE w (allT T 32) (.returned (.slice A n cc)) wr from ⟨_, rfl, by rw [← hk2, ← HLL.out, ← HNN.out]; exact HO.out, HB.out⟩)
      clear hk2
      go_wp2_with fail
      go_ret
      exact HF.out

set_option maxHeartbeats 4000000 in
theorem ints_yes {w : World} {n c c' lo lo' : Nat} {A A' : Option Addr} {L : List Nat} (hn : n = L.length) (hx : w.ownsRow lo 3 1 (.slice A n c) n (L.map Iv)) (hy : w.ownsRow lo' 3 1 (.slice A' n c') n (L.map Iv)) (hl : n ≤ 1000) :
    Calls Try.prog 20 #[.slice A n c, .slice A' n c'] w (YesE w) := by
  have HX := Lib.hid (own_ints hx)
  have HY := Lib.hid (own_ints hy)
  have HN := Lib.hid hn
  clear hx hy hn
  go_enter Try.func20, Try.ntmps20
  go_wp2_with fail
  go_loopg [13] n (fun g i wr => ∃ k : Nat, k ≤ n ∧ g + k = n ∧ i = .int .i64 k ∧ ∃ nq, w.drewN nq = wr)
  case atStart => exact ⟨0, by omega, by omega, rfl, 0, rfl⟩
  case round =>
    obtain ⟨k, hk, hg, rfl, nq, rfl⟩ := hrel
    by_cases hlt : k < n
    · obtain ⟨y, hy⟩ := get_some (l := L) HN.out.symm hlt
      obtain ⟨g1, rfl, -, -, c1⟩ := HX.out k y hy
      obtain ⟨g2, rfl, -, -, c2⟩ := HY.out k y hy
      clear hy
      go_wp2_with fail
      go_quiet (fail)
      go_wp2_with fail
      go_roundg (gk - 1)
      case measure => omega
      case rel => exact ⟨k + 1, by omega, by omega, by go_num, _, rfl⟩
    · go_wp2_with fail
      go_ret
      exact ⟨rfl, below_drewN (Below.refl _ _) _⟩
end Go.Proofs.Ytfbdhpbnmjacmaa.ds
