/- The law's 'same' and 'own'. -/
import Derived.Test.YtlplbpilpkmoaaaQp
namespace Go.Proofs.Ytlplbpilpkmoaaa.pl
open Go.RowKit
set_option linter.unusedVariables false
set_option linter.unusedSimpArgs false

set_option maxRecDepth 100000 in
set_option maxHeartbeats 4000000 in
theorem same_yes {w : World} {A1 A2 : Option Addr} {l : List Wt} {c1 c2 : Nat} (h1 : Wan w w.heap.size A1 l) (h2 : Wan w w.heap.size A2 l) (l1 : l.length ≤ 10000) :
    Calls Try.prog 11 #[.slice A1 l.length c1, .slice A2 l.length c2] w (RetB w true) := by
  have H1 := Lib.hid h1
  have H2 := Lib.hid h2
  obtain ⟨n, hn⟩ : ∃ n, l.length = n := ⟨_, rfl⟩
  rw [hn] at l1 ⊢
  have HN := Lib.hid hn
  clear h1 h2 hn
  unfold RetB
  go_enter Try.func11, Try.ntmps11
  go_wp2_with fail
  go_loopg [13] n (fun gk u13 wx => ∃ i : Nat, u13 = .int .i64 i ∧ gk + i = n ∧ ∃ nq, w.drewN nq = wx)
  case atStart => exact ⟨0, rfl, by omega, 0, rfl⟩
  case round =>
    obtain ⟨i, rfl, hg, nq, rfl⟩ := hrel
    by_cases hi : i < n
    · have hi2 : (i : Int) < (n : Int) := by omega
      obtain ⟨g1, o1, rfl, _, x1, x2, x3⟩ := H1.out i (by rw [HN.out]; exact hi)
      obtain ⟨g2, o2, rfl, _, y1, y2, y3⟩ := H2.out i (by rw [HN.out]; exact hi)
      generalize gw l i = x at *
      obtain ⟨xd, xn, xw⟩ := x
      dsimp only at x1 x2 x3 y1 y2 y3
      go_wp2_with fail
      go_quiet (fail)
      go_wp2_with fail
      go_roundg (gk - 1)
      case measure => omega
      case rel => exact ⟨i + 1, by go_num, by omega, _, rfl⟩
    · go_wp2_with fail
      go_ret
      exact ⟨rfl, below_drewN (Below.refl _ _) _⟩

theorem info_r : (Try.prog.info? 63).map (fun i => (i.zero, i.size, i.bytes)) = some (some (Wv ⟨0, 0, false⟩), 3, 24) := by kernel_rfl
def OwnE (w : World) (l : List Wt) (e : Ending) (w' : World) : Prop := ∃ v, e = .returned v ∧ OW w' w.heap.size 63 v l ∧ Below w.heap.size w w'
set_option maxRecDepth 100000 in
set_option maxHeartbeats 4000000 in
theorem own_any {w : World} {A1 : Option Addr} {l : List Wt} {c1 : Nat} (h1 : Wan w w.heap.size A1 l) (l1 : l.length ≤ 10000) :
    Calls Try.prog 13 #[.slice A1 l.length c1] w (OwnE w l) := by
  have H1 := Lib.hid h1
  obtain ⟨n, hn⟩ : ∃ n, l.length = n := ⟨_, rfl⟩
  rw [hn] at l1 ⊢
  have HN := Lib.hid hn
  obtain ⟨i0, hi, hz0, hz1, hz2⟩ := info_parts info_r
  have HI := Lib.hid hi
  have HZ := Lib.hid (show i0.zero = some (Wv ⟨0, 0, false⟩) ∧ i0.size = 3 ∧ i0.bytes = 24 from ⟨hz0, hz1, hz2⟩)
  clear h1 hn hi hz0 hz1 hz2
  unfold OwnE
  go_enter Try.func13, Try.ntmps13
  go_wp2_with fail
  go_loopg [3, 8] n (fun gk u3 u8 wx => ∃ i : Nat, u8 = .int .i64 i ∧ gk + i = n ∧ Hid (OW wx w.heap.size 63 u3 (l.take i)) ∧ Hid (Below w.heap.size w wx))
  case atStart =>
    refine ⟨0, rfl, by omega, Lib.hid ?_, Lib.hid ((Below.refl _ _).alloc (Nat.le_refl _) _)⟩
    exact World.ownsRow_lit w #[] 0 (Nat.le_refl _) (by unfold maxLen; omega) rfl
  case round =>
    obtain ⟨i, rfl, hg, HO, HB⟩ := hrel
    obtain ⟨gJ, hJ⟩ : ∃ g, gk = g := ⟨_, rfl⟩
    by_cases hi : i < n
    · have hi2 : (i : Int) < (n : Int) := by omega
      obtain ⟨g1, o1, rfl, hg1, x1, x2, x3⟩ := (H1.out.below HB.out) i (by rw [HN.out]; exact hi)
      have HTK := Lib.hid (take_gw (l := l) (i := i) (by rw [HN.out]; exact hi))
      have HLT := Lib.hid (show (l.take i).length = i from by rw [List.length_take, HN.out]; omega)
      obtain ⟨x, hx⟩ : ∃ x, gw l i = x := ⟨_, rfl⟩
      rw [hx] at x1 x2 x3 HTK
      obtain ⟨xd, xn, xw⟩ := x
      dsimp only at x1 x2 x3
      clear hx
      go_upto_region 5 with fail
      refine rh.region_T (S := fun W => W.cell? ⟨g1, o1 + i * 3, none⟩ = some (.int .i64 xd) ∧ W.cell? ⟨g1, o1 + i * 3 + 1, none⟩ = some (.int .i64 xn) ∧ W.cell? ⟨g1, o1 + i * 3 + 2, none⟩ = some (.bool xw)) (z := 19) (by kernel_rfl) ?_
      simp only [List.size_toArray, List.length_cons, List.length_nil, Nat.zero_add, Nat.reduceAdd]
      rw [show Array.replicate 20 false = #[false, false, false, false, false, false, false, false, false, false, false, false, false, false, false, false, false, false, false, false] from rfl]
      refine rh.take_T (i := 0) (u3) rfl (by kernel_rfl) (by kernel_rfl) (by kernel_rfl) (by kernel_rfl) (fun _ _ _ h => h) (Or.inl ⟨by rfl, by intro w' hSw; obtain ⟨s1, s2, s3⟩ := hSw; go_simp⟩) ⟨x1, x2, x3⟩ ?_
      simp only [Act.put, List.setIfInBounds_toArray, List.set_cons_zero, List.set_cons_succ]
      refine rh.take_T (i := 1) (.slice (some ⟨g1, o1, none⟩) n c1) rfl (by kernel_rfl) (by kernel_rfl) (by kernel_rfl) (by kernel_rfl) (fun _ _ _ h => h) (Or.inl ⟨by rfl, by intro w' hSw; obtain ⟨s1, s2, s3⟩ := hSw; go_simp⟩) ⟨x1, x2, x3⟩ ?_
      simp only [Act.put, List.setIfInBounds_toArray, List.set_cons_zero, List.set_cons_succ]
      refine rh.take_T (i := 2) (.int .i64 (i : Int)) rfl (by kernel_rfl) (by kernel_rfl) (by kernel_rfl) (by kernel_rfl) (fun _ _ _ h => h) (Or.inl ⟨by rfl, by intro w' hSw; obtain ⟨s1, s2, s3⟩ := hSw; go_simp⟩) ⟨x1, x2, x3⟩ ?_
      simp only [Act.put, List.setIfInBounds_toArray, List.set_cons_zero, List.set_cons_succ]
      refine rh.take_T (i := 3) (.pointer (some ⟨g1, o1 + i * 3, none⟩)) rfl (by kernel_rfl) (by kernel_rfl) (by kernel_rfl) (by kernel_rfl) (fun _ _ _ h => h) (Or.inl ⟨by rfl, by intro w' hSw; obtain ⟨s1, s2, s3⟩ := hSw; go_simp⟩) ⟨x1, x2, x3⟩ ?_
      simp only [Act.put, List.setIfInBounds_toArray, List.set_cons_zero, List.set_cons_succ]
      refine rh.take_T (i := 4) (.pointer (some ⟨g1, o1 + i * 3, none⟩)) rfl (by kernel_rfl) (by kernel_rfl) (by kernel_rfl) (by kernel_rfl) (fun _ _ _ h => h) (Or.inl ⟨by rfl, by intro w' hSw; obtain ⟨s1, s2, s3⟩ := hSw; go_simp⟩) ⟨x1, x2, x3⟩ ?_
      simp only [Act.put, List.setIfInBounds_toArray, List.set_cons_zero, List.set_cons_succ]
      refine rh.take_T (i := 5) (.int .i64 xd) rfl (by kernel_rfl) (by kernel_rfl) (by kernel_rfl) (by kernel_rfl) (fun _ _ _ h => h) (Or.inl ⟨by rfl, by intro w' hSw; obtain ⟨s1, s2, s3⟩ := hSw; go_simp⟩) ⟨x1, x2, x3⟩ ?_
      simp only [Act.put, List.setIfInBounds_toArray, List.set_cons_zero, List.set_cons_succ]
      refine rh.take_T (i := 6) (.slice (some ⟨g1, o1, none⟩) n c1) rfl (by kernel_rfl) (by kernel_rfl) (by kernel_rfl) (by kernel_rfl) (fun _ _ _ h => h) (Or.inl ⟨by rfl, by intro w' hSw; obtain ⟨s1, s2, s3⟩ := hSw; go_simp⟩) ⟨x1, x2, x3⟩ ?_
      simp only [Act.put, List.setIfInBounds_toArray, List.set_cons_zero, List.set_cons_succ]
      refine rh.take_T (i := 7) (.int .i64 (i : Int)) rfl (by kernel_rfl) (by kernel_rfl) (by kernel_rfl) (by kernel_rfl) (fun _ _ _ h => h) (Or.inl ⟨by rfl, by intro w' hSw; obtain ⟨s1, s2, s3⟩ := hSw; go_simp⟩) ⟨x1, x2, x3⟩ ?_
      simp only [Act.put, List.setIfInBounds_toArray, List.set_cons_zero, List.set_cons_succ]
      refine rh.take_T (i := 8) (.pointer (some ⟨g1, o1 + i * 3, none⟩)) rfl (by kernel_rfl) (by kernel_rfl) (by kernel_rfl) (by kernel_rfl) (fun _ _ _ h => h) (Or.inl ⟨by rfl, by intro w' hSw; obtain ⟨s1, s2, s3⟩ := hSw; go_simp⟩) ⟨x1, x2, x3⟩ ?_
      simp only [Act.put, List.setIfInBounds_toArray, List.set_cons_zero, List.set_cons_succ]
      refine rh.take_T (i := 9) (.pointer (some ⟨g1, o1 + i * 3 + 1, none⟩)) rfl (by kernel_rfl) (by kernel_rfl) (by kernel_rfl) (by kernel_rfl) (fun _ _ _ h => h) (Or.inl ⟨by rfl, by intro w' hSw; obtain ⟨s1, s2, s3⟩ := hSw; go_simp⟩) ⟨x1, x2, x3⟩ ?_
      simp only [Act.put, List.setIfInBounds_toArray, List.set_cons_zero, List.set_cons_succ]
      refine rh.take_T (i := 10) (.int .i64 xn) rfl (by kernel_rfl) (by kernel_rfl) (by kernel_rfl) (by kernel_rfl) (fun _ _ _ h => h) (Or.inl ⟨by rfl, by intro w' hSw; obtain ⟨s1, s2, s3⟩ := hSw; go_simp⟩) ⟨x1, x2, x3⟩ ?_
      simp only [Act.put, List.setIfInBounds_toArray, List.set_cons_zero, List.set_cons_succ]
      refine rh.take_T (i := 11) (.slice (some ⟨g1, o1, none⟩) n c1) rfl (by kernel_rfl) (by kernel_rfl) (by kernel_rfl) (by kernel_rfl) (fun _ _ _ h => h) (Or.inl ⟨by rfl, by intro w' hSw; obtain ⟨s1, s2, s3⟩ := hSw; go_simp⟩) ⟨x1, x2, x3⟩ ?_
      simp only [Act.put, List.setIfInBounds_toArray, List.set_cons_zero, List.set_cons_succ]
      refine rh.take_T (i := 12) (.int .i64 (i : Int)) rfl (by kernel_rfl) (by kernel_rfl) (by kernel_rfl) (by kernel_rfl) (fun _ _ _ h => h) (Or.inl ⟨by rfl, by intro w' hSw; obtain ⟨s1, s2, s3⟩ := hSw; go_simp⟩) ⟨x1, x2, x3⟩ ?_
      simp only [Act.put, List.setIfInBounds_toArray, List.set_cons_zero, List.set_cons_succ]
      refine rh.take_T (i := 13) (.pointer (some ⟨g1, o1 + i * 3, none⟩)) rfl (by kernel_rfl) (by kernel_rfl) (by kernel_rfl) (by kernel_rfl) (fun _ _ _ h => h) (Or.inl ⟨by rfl, by intro w' hSw; obtain ⟨s1, s2, s3⟩ := hSw; go_simp⟩) ⟨x1, x2, x3⟩ ?_
      simp only [Act.put, List.setIfInBounds_toArray, List.set_cons_zero, List.set_cons_succ]
      refine rh.take_T (i := 14) (.pointer (some ⟨g1, o1 + i * 3 + 2, none⟩)) rfl (by kernel_rfl) (by kernel_rfl) (by kernel_rfl) (by kernel_rfl) (fun _ _ _ h => h) (Or.inl ⟨by rfl, by intro w' hSw; obtain ⟨s1, s2, s3⟩ := hSw; go_simp⟩) ⟨x1, x2, x3⟩ ?_
      simp only [Act.put, List.setIfInBounds_toArray, List.set_cons_zero, List.set_cons_succ]
      refine rh.take_T (i := 15) (.bool xw) rfl (by kernel_rfl) (by kernel_rfl) (by kernel_rfl) (by kernel_rfl) (fun _ _ _ h => h) (Or.inl ⟨by rfl, by intro w' hSw; obtain ⟨s1, s2, s3⟩ := hSw; go_simp⟩) ⟨x1, x2, x3⟩ ?_
      simp only [Act.put, List.setIfInBounds_toArray, List.set_cons_zero, List.set_cons_succ]
      refine rh.take_T (i := 16) (Wv ⟨xd, xn, xw⟩) rfl (by kernel_rfl) (by kernel_rfl) (by kernel_rfl) (by kernel_rfl) (fun _ _ _ h => h) (Or.inl ⟨by rfl, by intro w' hSw; obtain ⟨s1, s2, s3⟩ := hSw; go_simp⟩) ⟨x1, x2, x3⟩ ?_
      simp only [Act.put, List.setIfInBounds_toArray, List.set_cons_zero, List.set_cons_succ]
      refine rh.step_T (i := 17) (by kernel_rfl) rfl fun K hK => ?_
      go_simp
      obtain ⟨w5, hw5⟩ : ∃ w5, (wr.alloc (.cells #[.int .i64 xd, .int .i64 xn, .bool xw] 63)).drew = w5 := ⟨_, rfl⟩
      have hsz := HB.out.size
      have hal : Below wr.heap.size wr w5 := by rw [← hw5]; exact ((Below.refl _ _).alloc (Nat.le_refl _) _).drew
      have hz5 : w5.heap.size = wr.heap.size + 1 := by rw [← hw5]; exact World.size_alloc _ _
      have hO5 : w5.ownsRow w.heap.size 63 3 u3 i (encW (l.take i)) := by
        have h := HO.out
        unfold OW at h
        rw [HLT.out] at h
        rw [← hw5]
        exact h.alloc _
      have hB5 : Below w.heap.size w w5 := HB.out.trans (hal.mono hsz)
      have hS5 : w5.cell? ⟨g1, o1 + i * 3, none⟩ = some (.int .i64 xd) ∧ w5.cell? ⟨g1, o1 + i * 3 + 1, none⟩ = some (.int .i64 xn) ∧ w5.cell? ⟨g1, o1 + i * 3 + 2, none⟩ = some (.bool xw) :=
        ⟨(hal.cell (p := ⟨g1, o1 + i * 3, none⟩) (Nat.lt_of_lt_of_le hg1 hsz)).trans x1, (hal.cell (p := ⟨g1, o1 + i * 3 + 1, none⟩) (Nat.lt_of_lt_of_le hg1 hsz)).trans x2, (hal.cell (p := ⟨g1, o1 + i * 3 + 2, none⟩) (Nat.lt_of_lt_of_le hg1 hsz)).trans x3⟩
      have hnews : ∀ j u, [Value.int .i64 xd, .int .i64 xn, .bool xw][j]? = some u → w5.cell? ((⟨wr.heap.size, 0, none⟩ : Addr).add j) = some u := by
        rw [← hw5]
        exact World.news_of_block (cs := #[.int .i64 xd, .int .i64 xn, .bool xw]) (t := 63) (fr := (0, 0)) (heap_alloc_new wr _)
      rw [hw5]
      refine hK.out _ _ (.inr hS5) ?_
      clear hK K
      simp only [Act.put, List.setIfInBounds_toArray, List.set_cons_zero, List.set_cons_succ]
      refine rh.step_T (i := 18) (by kernel_rfl) rfl fun K hK => ?_
      refine step_app rfl (.tmp 11) (.tmp 28) 26 rfl w.heap.size 63 i0 _ 3 24 Try.underlying26 HI.out HZ.out.1 HZ.out.2.1 HZ.out.2.2 rfl (by decide) u3 i (encW (l.take i)) rfl hO5 ⟨wr.heap.size, 0, none⟩ 1 1 [.int .i64 xd, .int .i64 xn, .bool xw] rfl rfl hnews (by intro u hu; simp at hu; rcases hu with rfl | rfl | rfl <;> rfl) (by unfold maxLen; omega) (by omega) (by omega) ?_
      intro v6 w6 hown6 hgr6 hat6
      have hB6 : Below w.heap.size w w6 := hB5.grown hgr6 (by omega) (fun g h => (hO5.lt g h).1)
      have hS6 : w6.cell? ⟨g1, o1 + i * 3, none⟩ = some (.int .i64 xd) ∧ w6.cell? ⟨g1, o1 + i * 3 + 1, none⟩ = some (.int .i64 xn) ∧ w6.cell? ⟨g1, o1 + i * 3 + 2, none⟩ = some (.bool xw) := by
        have hb : w6.heap[g1]? = w5.heap[g1]? := hgr6.block g1 (by omega) (fun e => by have := (hO5.lt g1 e.symm).1; omega)
        exact ⟨(World.cell?_of_block (a := ⟨g1, _, none⟩) hb).trans hS5.1, (World.cell?_of_block (a := ⟨g1, _, none⟩) hb).trans hS5.2.1, (World.cell?_of_block (a := ⟨g1, _, none⟩) hb).trans hS5.2.2⟩
      refine hK.out _ _ (.inr hS6) ?_
      clear hK K
      simp only [Act.put, List.setIfInBounds_toArray, List.set_cons_zero, List.set_cons_succ]
      refine rh.step_T (i := 19) (by kernel_rfl) rfl fun K hK => ?_
      go_simp
      refine hK.out _ _ (.inl rfl) ?_
      clear hK K
      refine rh.done_T (by kernel_rfl) ?_
      have HO6 := Lib.hid (show OW w6 w.heap.size 63 v6 (l.take (i + 1)) from by
        unfold OW
        rw [HTK.out, List.length_append, HLT.out, encW_app]
        exact hown6)
      have HB6 := Lib.hid hB6
      clear hB6 hS6 hown6 hgr6 hat6 hnews hS5 hB5 hO5 hz5 hal hw5 x1 x2 x3
      go_wp2_with fail
      go_roundg (gJ - 1)
      case measure => omega
      case rel => exact ⟨i + 1, by go_num, by omega, HO6, HB6⟩
    · have hin : i = n := by omega
      have HF := Lib.hid (show OW wr w.heap.size 63 u3 l from by have := HO.out; rw [hin, ← HN.out, List.take_length] at this; exact this)
      clear hin
      go_wp2_with fail
      go_ret
      exact ⟨_, rfl, HF.out, HB.out⟩
end Go.Proofs.Ytlplbpilpkmoaaa.pl
