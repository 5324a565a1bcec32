/- Who waits, in all: the mathematics. -/
import Derived.Test.YtagkimnmgalejaaRd
import Derived.Laws.BitsLemmas
namespace Go.Proofs.Ytagkimnmgalejaa.sc
open Go.RowKit Go.Shelf
set_option linter.unusedVariables false
set_option linter.unusedSimpArgs false

/-- Claims to the first eight locks alone. -/
def In8 (s : Sd) : Prop := ∀ l, s.cl l ≠ [] → ∃ j : Nat, j < 8 ∧ l = (j : Int)
theorem in8_new (n : Nat) : In8 (Sd.new n) := fun l h => absurd rfl h
theorem in8_admit {s : Sd} {l : Int} (h : In8 s) (hl : ∃ j : Nat, j < 8 ∧ l = (j : Int)) : In8 (s.admit l) := fun x hx => by
  by_cases e : x = l
  · rw [e]; exact hl
  · refine h x ?_
    have e2 : (s.admit l).cl x = s.cl x := by unfold Sd.admit; dsimp only; rw [upc_ne e]
    rw [e2] at hx; exact hx
theorem in8_lock {s : Sd} {t l : Int} {w : Bool} (h : In8 s) (hl : ∃ j : Nat, j < 8 ∧ l = (j : Int)) : In8 (s.lock t l w).2.2 := by
  unfold Sd.lock
  split
  · split
    · exact h
    · refine in8_admit (fun x hx => ?_) hl
      by_cases e : x = l
      · rw [e]; exact hl
      · refine h x ?_
        have e2 : (s.come t.toNat l w).cl x = s.cl x := by unfold Sd.come; dsimp only; rw [upc_ne e]
        rw [e2] at hx; exact hx
  · exact h
theorem in8_unlock {s : Sd} {t l : Int} (h : In8 s) (hl : ∃ j : Nat, j < 8 ∧ l = (j : Int)) : In8 (s.unlock t l).2 := by
  unfold Sd.unlock
  split
  · split
    · refine in8_admit (fun x hx => ?_) hl
      by_cases e : x = l
      · rw [e]; exact hl
      · refine h x ?_
        have e2 : (s.gone t.toNat l).cl x = s.cl x := by unfold Sd.gone; dsimp only; rw [upc_ne e]
        rw [e2] at hx; exact hx
    · exact h
  · exact h
theorem in8_done {s : Sd} {t : Int} (h : In8 s) : In8 (s.done t).2 := by
  unfold Sd.done
  split
  · split <;> exact h
  · exact h
theorem in8_act {s : Sd} {x : Ac} (h : In8 s) (hl : ∃ j : Nat, j < 8 ∧ x.num = (j : Int)) : In8 (act s x) := by
  unfold act
  split
  · exact in8_lock h hl
  · split
    · exact in8_unlock h hl
    · split
      · exact in8_done h
      · exact h
/-- Those that wait for the first k locks. -/
def Wk (s : Sd) (k : Nat) : List Nat := (List.range k).flatMap fun j : Nat => s.queue (j : Int)
theorem Wk_succ (s : Sd) (k : Nat) : Wk s (k + 1) = Wk s k ++ s.queue (k : Int) := by simp [Wk, List.range_succ]
section
variable {s : Sd}
theorem queue_mem {l : Int} {t : Nat} : t ∈ s.queue l ↔ ∃ c ∈ s.cl l, c.held = false ∧ c.task = t := by
  unfold Sd.queue
  rw [List.mem_map]
  constructor
  · rintro ⟨c, h1, h2⟩
    rw [List.mem_filter] at h1
    exact ⟨c, h1.1, by simpa using h1.2, h2⟩
  · rintro ⟨c, h1, h2, h3⟩
    exact ⟨c, List.mem_filter.2 ⟨h1, by simp [h2]⟩, h3⟩
theorem queue_nd (h : Good s) (l : Int) : (s.queue l).Nodup := by
  obtain ⟨H, W, e1, e2, e3, q1, q2⟩ := h.tells l
  rw [q2]
  have := e2.nd
  rw [List.map_append, List.nodup_append] at this
  exact this.2.1
theorem queue_held (h : Good s) (l : Int) : ∀ t ∈ s.queue l, t ∉ tasksN (s.heldL l) := fun t ht h2 => by
  obtain ⟨H, W, e1, e2, e3, q1, q2⟩ := h.tells l
  rw [q2] at ht
  rw [q1] at h2
  have := e2.nd
  rw [List.map_append] at this
  exact nd_apart this h2 ht
theorem Wk_mem {k t : Nat} : t ∈ Wk s k ↔ ∃ j, j < k ∧ t ∈ s.queue (j : Int) := by
  unfold Wk
  rw [List.mem_flatMap]
  constructor
  · rintro ⟨j, h1, h2⟩; exact ⟨j, List.mem_range.1 h1, h2⟩
  · rintro ⟨j, h1, h2⟩; exact ⟨j, List.mem_range.2 h1, h2⟩
theorem queue_out (h : Good s) {k : Nat} : ∀ t ∈ s.queue (k : Int), t ∉ Wk s k := fun t ht hw => by
  obtain ⟨j, hj, h2⟩ := Wk_mem.1 hw
  obtain ⟨c, a1, a2, a3⟩ := queue_mem.1 ht
  obtain ⟨d, b1, b2, b3⟩ := queue_mem.1 h2
  have := h.un _ _ c d a1 b1 a2 b2 (a3.trans b3.symm)
  omega
theorem Wk_nd (h : Good s) : ∀ k, (Wk s k).Nodup
  | 0 => by simp [Wk]
  | k + 1 => by
    rw [Wk_succ, List.nodup_append]
    exact ⟨Wk_nd h k, queue_nd h k, fun a ha b hb e => queue_out h b hb (e ▸ ha)⟩
theorem Wk_all (h : Good s) (h8 : In8 s) (t : Nat) : t ∈ Wk s 8 ↔ t ∈ s.at_ 1 := by
  rw [Wk_mem, at_mem]
  constructor
  · rintro ⟨j, hj, h2⟩
    obtain ⟨c, a1, a2, a3⟩ := queue_mem.1 h2
    exact ⟨a3 ▸ h.fit _ c a1, a3 ▸ h.wt _ c a1 a2⟩
  · rintro ⟨h1, h2⟩
    obtain ⟨l, c, a1, a2, a3⟩ := h.ex t h1 h2
    obtain ⟨j, hj, rfl⟩ := h8 l (fun e => by rw [e] at a1; simp at a1)
    exact ⟨j, hj, queue_mem.2 ⟨c, a1, a3, a2⟩⟩
theorem Wk_len (h : Good s) (h8 : In8 s) : (Wk s 8).length = (s.at_ 1).length :=
  ((List.perm_ext_iff_of_nodup (Wk_nd h 8) (at_nd s 1)).2 (Wk_all h h8)).length_eq
theorem ready_out (h : Good s) (h8 : In8 s) : ∀ t ∈ s.at_ 0, t ∉ Wk s 8 := fun t ht hw => by
  have h1 := (at_mem.1 ht).2
  have h2 := (at_mem.1 ((Wk_all h h8 t).1 hw)).2
  omega
theorem one_held (h : Good s) (l : Int) (hw : headW (s.heldL l) = true) : (srt (tasksN (s.heldL l))).length = 1 := by
  obtain ⟨H, W, e1, e2, e3, q1, q2⟩ := h.tells l
  rw [srt_len, q1]
  rw [q1] at hw
  cases H with
  | nil => cases hw
  | cons a r =>
    have := e2.one a (by simp) hw
    rw [this]; rfl
end
/-- Keys that are numbers. -/
def inI (T : List Int) (v : Value) : Int → Option Value := fun a => if a ∈ T then some v else none
theorem inI_snoc {T : List Int} {a : Int} {v : Value} : ups (inI T v) a v = inI (T ++ [a]) v := by
  funext x
  unfold ups inI
  by_cases h : x = a
  · rw [if_pos h, if_pos (by simp [h])]
  · rw [if_neg h]
    by_cases h2 : x ∈ T
    · rw [if_pos h2, if_pos (by simp [h2])]
    · rw [if_neg h2, if_neg (by simp [h2, h])]
theorem srt_iff {L : List Nat} {a : Nat} : (a : Int) ∈ srt L ↔ a ∈ L := by
  unfold srt
  rw [List.mem_mergeSort, List.mem_map]
  constructor
  · rintro ⟨b, h1, h2⟩
    have : b = a := by omega
    exact this ▸ h1
  · exact fun h => ⟨a, h, rfl⟩
theorem srt_nat {L : List Nat} {x : Int} (h : x ∈ srt L) : ∃ a ∈ L, x = ((a : Nat) : Int) := by
  unfold srt at h
  rw [List.mem_mergeSort, List.mem_map] at h
  obtain ⟨a, h1, h2⟩ := h
  exact ⟨a, h1, h2.symm⟩
theorem i64_and7 (n : Int) : bits .and .i64 n 7 = n % 8 := by
  have h127 : (BitVec.ofInt 64 7).toNat = 2 ^ 3 - 1 := by decide
  have key : (BitVec.ofInt 64 n &&& BitVec.ofInt 64 7).toNat = (n % ((2 ^ 64 : Nat) : Int)).toNat % 2 ^ 3 := by
    rw [BitVec.toNat_and, BitVec.toNat_ofInt, h127, Nat.and_two_pow_sub_one_eq_mod]
  show IntKind.i64.wrap ((BitVec.ofInt 64 n &&& BitVec.ofInt 64 7).toNat : Nat) = n % 8
  rw [key, IntKind.wrap_i64]
  omega
theorem which8 (n : Int) : ∃ k : Nat, k < 8 ∧ bits .and .i64 n 7 = (k : Int) := ⟨(n % 8).toNat, by omega, by rw [i64_and7]; omega⟩
end Go.Proofs.Ytagkimnmgalejaa.sc
