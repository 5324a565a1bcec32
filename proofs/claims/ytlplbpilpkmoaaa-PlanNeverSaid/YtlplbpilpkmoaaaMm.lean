/- 'New', 'Done'. -/
import Derived.Test.YtlplbpilpkmoaaaMe
import Derived.Laws.MakeOwn
namespace Go.Proofs.Ytlplbpilpkmoaaa.sc
open Go.RowKit Go.Shelf
set_option linter.unusedVariables false
set_option linter.unusedSimpArgs false

theorem new_nil {w : World} {n : Int} (hn : ¬ (0 ≤ n ∧ n ≤ 64)) : Calls Try.prog 20 #[.int .i64 n] w (StE w (.pointer none)) := by
  unfold StE
  by_cases h0 : n < 0
  · clear hn
    go_enter Try.func20, Try.ntmps20
    go_wp2_with fail
    go_ret
    exact ⟨rfl, rfl⟩
  · have h1 : 64 < n := by omega
    clear hn
    go_enter Try.func20, Try.ntmps20
    go_wp2_with fail
    go_ret
    exact ⟨rfl, rfl⟩
def NewE (w0 w : World) (n : Nat) (e : Ending) (w' : World) : Prop := ∃ P B M tg f, e = .returned (Pq P) ∧ SbX w0 w' P B M tg f (Sd.new n) ∧ Below w.heap.size w w' ∧ ∀ b, b < w.heap.size → tg b = .no
theorem info56 : (Try.prog.info? 77).map (fun i => (i.zero, i.size, i.bytes)) = some (some (.agg #[.int .i64 0, .int .i64 0]), 2, 16) := by kernel_rfl
def tgN (g : Nat) : Nat → Tag := fun b => if b = g then .tasks else if b = g + 1 then .locks else if b = g + 2 then .box else .no
theorem tgN_no {g b : Nat} (h : tgN g b ≠ .no) : g ≤ b ∧ b ≤ g + 2 := by
  unfold tgN at h
  split at h
  · omega
  · split at h
    · omega
    · split at h
      · omega
      · exact absurd rfl h
theorem made2 (n j : Nat) (hj : j < n * 2) : (madeCells #[Value.int .i64 0, .int .i64 0] (n * 2))[j]? = some (.int .i64 0) := by
  have : j % 2 = 0 ∨ j % 2 = 1 := by omega
  rcases this with e | e <;> simp [madeCells, Array.getElem?_range, hj, e]
/-- A new schedule. -/
theorem new_made {w0 w w1 w2 w3 : World} (hb : Below w0.heap.size w0 w) {n : Nat} (hn : n ≤ 64) (h1 : w.alloc (.cells (madeCells #[Value.int .i64 0, .int .i64 0] (n * 2)) 77) = w1) (h2 : w1.alloc (.map #[] 0) = w2) (h3 : w2.alloc (.cells #[.slice (some ⟨w.heap.size, 0, none⟩) n n, .map (some (w.heap.size + 1))] 71) = w3) :
    SbX w0 w3 (w.heap.size + 2) w.heap.size (w.heap.size + 1) (tgN w.heap.size) (fun _ => none) (Sd.new n) ∧ Below w.heap.size w w3 := by
  have s1 : w1.heap.size = w.heap.size + 1 := by rw [← h1]; simp
  have s2 : w2.heap.size = w.heap.size + 2 := by rw [← h2]; simp [s1]
  have s3 : w3.heap.size = w.heap.size + 3 := by rw [← h3]; simp [s2]
  have b1 : Below w.heap.size w w1 := by rw [← h1]; exact below_alloc _ _
  have b2 : Below w1.heap.size w1 w2 := by rw [← h2]; exact below_alloc _ _
  have b3 : Below w2.heap.size w2 w3 := by rw [← h3]; exact below_alloc _ _
  have k1 : w1.heap[w.heap.size]? = some (.cells (madeCells #[Value.int .i64 0, .int .i64 0] (n * 2)) 77 (0, 0)) := by rw [← h1]; exact heap_alloc_new w _
  have m2 : MapV w2 (w.heap.size + 1) 0 0 (fun _ => none) := by have := MapV.made w1; rw [h2, s1] at this; exact this
  have k3 : w3.heap[w.heap.size + 2]? = some (.cells #[.slice (some ⟨w.heap.size, 0, none⟩) n n, .map (some (w.heap.size + 1))] 71 (0, 0)) := by have := heap_alloc_new w2 (.cells #[.slice (some ⟨w.heap.size, 0, none⟩) n n, .map (some (w.heap.size + 1))] 71); rw [h3, s2] at this; exact this
  have kr : w3.heap[w.heap.size]? = some (.cells (madeCells #[Value.int .i64 0, .int .i64 0] (n * 2)) 77 (0, 0)) := ((b3.block _ (by omega)).trans (b2.block _ (by omega))).trans k1
  have m3 : MapV w3 (w.heap.size + 1) 0 0 (fun _ => none) := m2.of_block (b3.block _ (by omega))
  have bw : Below w.heap.size w w3 := below_step (below_step b1 b2) b3
  refine ⟨⟨fun b hb2 => ?_, below_step hb bw, by simp [tgN], by simp [tgN], by simp [tgN], ?_, ?_, ⟨fun k hk => ⟨?_, ?_⟩, fun j => ?_⟩, ⟨0, m3⟩, fun l => ⟨none, 0, rfl, ⟨rfl, rfl⟩, fun G e => nomatch e⟩, fun l c h => by simp [Sd.new] at h, fun l => by simp [Sd.new], hn⟩, bw⟩
  · have := tgN_no hb2; have := hb.size; omega
  · simp [World.cell?, k3, Sd.new]
  · simp [World.cell?, k3]
  · have := made2 n (k * 2) (by have : k < n := hk; omega)
    simp [World.cell?, kr, this, Sd.new, Tk.ini]
  · have := made2 n (k * 2 + 1) (by have : k < n := hk; omega)
    simp [World.cell?, kr, this, Sd.new, Tk.ini]
  · simp [World.frozen?, kr]
set_option maxHeartbeats 2000000 in
theorem new_any {w0 w : World} (hb : Below w0.heap.size w0 w) (n : Nat) (hn : n ≤ 64) : Calls Try.prog 20 #[.int .i64 (n : Int)] w (NewE w0 w n) := by
  have h0 : ¬ (n : Int) < 0 := by omega
  have h1 : ¬ (64 : Int) < (n : Int) := by omega
  obtain ⟨w1, hw1⟩ : ∃ w1, w.alloc (.cells (madeCells #[Value.int .i64 0, .int .i64 0] (n * 2)) 77) = w1 := ⟨_, rfl⟩
  obtain ⟨i, hi, hz, hs, hby⟩ := info_parts info56
  have hmk : (Instr.makeSlice 68 (.int .i64 (n : Int)) (.int .i64 (n : Int))).run Try.prog w = .ok (.slice (some ⟨w.heap.size, 0, none⟩) n n) w1 := by
    have hr := run_make (P := Try.prog) w 68 77 i (.agg #[.int .i64 0, .int .i64 0]) Try.underlying68 hi hz .i64 .i64 n n (by omega) (Int.le_refl _) (by rw [hby]; omega) (by omega)
    rw [hr]
    simp only [Int.toNat_natCast, hs]
    rw [← hw1]
    rfl
  have s1 : w1.heap.size = w.heap.size + 1 := by rw [← hw1]; simp
  have HF := Lib.hid (fun w2 w3 h2 h3 => new_made (w2 := w2) (w3 := w3) hb hn hw1 h2 h3)
  have HS := Lib.hid s1
  clear hw1 hi hz hs hby hb
  have hmm := @run_makeMap Try.prog 69 w1
  go_enter Try.func20, Try.ntmps20
  go_wp2_with fail
  go_ret
  exact ⟨w.heap.size + 2, w.heap.size, w.heap.size + 1, tgN w.heap.size, fun _ => none, rfl, (HF.out _ _ rfl rfl).1, (HF.out _ _ rfl rfl).2, fun b hb => Classical.byContradiction fun e => by have := tgN_no e; omega⟩
def DoneE (w0 w : World) (P B M : Nat) (tg : Nat → Tag) (f : Int → Option Value) (r : Int × Sd) (e : Ending) (w' : World) : Prop := e = .returned (.int .i64 r.1) ∧ SbX w0 w' P B M tg f r.2 ∧ Only (fun b => tg b ≠ .no) w w'
section
variable {w0 w : World} {P B M : Nat} {tg : Nat → Tag} {f : Int → Option Value} {s : Sd}
set_option maxHeartbeats 2000000 in
theorem done_out (h : SbX w0 w P B M tg f s) {t : Int} (ht : ¬ s.ok t) : Calls Try.prog 26 #[Pq P, .int .i64 t] w (DoneE w0 w P B M tg f (s.done t)) := by
  have HA := Lib.hid (at_out h ht)
  have HF := Lib.hid (show DoneE w0 w P B M tg f (s.done t) (.returned (.int .i64 22)) w from by
    rw [show s.done t = (22, s) by unfold Sd.done; rw [if_neg (fun e => ht e.1)]]
    exact ⟨rfl, h, Only.refl _ _⟩)
  unfold StE at HA
  generalize s.done t = r at *
  clear h ht
  go_enter Try.func26, Try.ntmps26
  go_wp2_with fail
  refine HA.out.mono ?_
  rintro e w2 ⟨rfl, rfl⟩
  go_wp2_with fail
  go_ret
  exact HF.out
set_option maxHeartbeats 2000000 in
theorem done_in (h : SbX w0 w P B M tg f s) {k : Nat} (hk : k < s.n) : Calls Try.prog 26 #[Pq P, .int .i64 (k : Int)] w (DoneE w0 w P B M tg f (s.done k)) := by
  have HA := Lib.hid (at_in h hk)
  obtain ⟨c0, c1⟩ := h.tsk.1 k hk
  have cf := h.tsk.2
  have hok : s.ok (k : Int) := ⟨by omega, by omega⟩
  unfold StE at HA
  by_cases hst : s.T.st k = 0
  · have hb0 : (((s.T.st k : Nat) : Int) != 0) = false := by simp [hst]
    by_cases hlk : 0 < s.T.lk k
    · have HF := Lib.hid (show DoneE w0 w P B M tg f (s.done k) (.returned (.int .i64 16)) w from by
        rw [show s.done (k : Int) = (16, s) by unfold Sd.done; rw [if_pos ⟨hok, by simpa using hst⟩, if_pos (by simpa using hlk)]]
        exact ⟨rfl, h, Only.refl _ _⟩)
      generalize s.done k = r at *
      generalize s.T.st k = st at *
      generalize s.T.lk k = lk at *
      subst hst
      clear h hk hok
      go_enter Try.func26, Try.ntmps26
      go_wp2_with fail
      refine HA.out.mono ?_
      rintro e w2 ⟨rfl, rfl⟩
      go_wp2_with fail
      go_ret
      exact HF.out
    · have HF := Lib.hid (show DoneE w0 w P B M tg f (s.done k) (.returned (.int .i64 0)) (w.setCell ⟨B, k * 2, none⟩ (.int .i64 2)) from by
        rw [show s.done (k : Int) = (0, { s with T := s.T.put k 2 }) by unfold Sd.done; rw [if_pos ⟨hok, by simpa using hst⟩, if_neg (by simpa using hlk)]; rfl]
        exact ⟨rfl, h.turnT (only_cell w ⟨B, k * 2, none⟩ (.int .i64 2)) (h.tsk.put hk 2), (only_cell w ⟨B, k * 2, none⟩ _).mono fun b e => by rw [show b = B from e, h.tB]; simp⟩)
      generalize s.done k = r at *
      generalize s.T.st k = st at *
      generalize s.T.lk k = lk at *
      subst hst
      clear h hk hok
      go_enter Try.func26, Try.ntmps26
      go_wp2_with fail
      refine HA.out.mono ?_
      rintro e w2 ⟨rfl, rfl⟩
      go_wp2_with fail
      go_ret
      exact HF.out
  · have hb0 : (((s.T.st k : Nat) : Int) != 0) = true := by simp [hst]
    have HF := Lib.hid (show DoneE w0 w P B M tg f (s.done k) (.returned (.int .i64 22)) w from by
      rw [show s.done (k : Int) = (22, s) by unfold Sd.done; rw [if_neg (fun e => hst (by simpa using e.2))]]
      exact ⟨rfl, h, Only.refl _ _⟩)
    generalize s.done k = r at *
    generalize s.T.st k = st at *
    clear h hk hok hst
    go_enter Try.func26, Try.ntmps26
    go_wp2_with fail
    refine HA.out.mono ?_
    rintro e w2 ⟨rfl, rfl⟩
    go_wp2_with fail
    go_ret
    exact HF.out
theorem done_any (h : SbX w0 w P B M tg f s) {t : Int} : Calls Try.prog 26 #[Pq P, .int .i64 t] w (DoneE w0 w P B M tg f (s.done t)) := by
  by_cases ht : s.ok t
  · have h1 := ht.1
    have h2 := ht.2
    obtain ⟨k, rfl⟩ : ∃ k : Nat, t = (k : Int) := ⟨t.toNat, by omega⟩
    exact done_in h (by omega)
  · exact done_out h ht
end

end Go.Proofs.Ytlplbpilpkmoaaa.sc
