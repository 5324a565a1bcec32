/- The document's table: a new one. -/
import Derived.Test.YtfbdhpbnmjacmaaDi
import Derived.Test.YtfbdhpbnmjacmaaDp
namespace Go.Proofs.Ytfbdhpbnmjacmaa.ds
open Go.RowKit
open Go.Proofs.Ytfbdhpbnmjacmaa.pa (Bs Sv Strs Own own_form info9 own_base)
set_option linter.unusedVariables false
set_option linter.unusedSimpArgs false
def Z6 : List Value := [.int .i64 0, .int .i64 0, .int .i64 0, .bool false, .slice none 0 0, .int .i64 0]
def Z33 : List Value := List.replicate 32 (.bool false) ++ (List.replicate 32 Z6).flatten
set_option maxRecDepth 100000 in
theorem z33 (w : World) : (zeroValue 33).run Try.prog w = .ok (.agg Z33.toArray) w := by
  obtain ⟨i, hi, hz, _, _⟩ := info_parts (P := Try.prog) (e := 33) (z := .agg Z33.toArray) (size := 224) (bytes := 2080) (by kernel_rfl)
  generalize Z33.toArray = z at *
  simp [zeroValue, typeInfo, hi, hz]
theorem z33_len : Z33.length = 224 := by kernel_rfl
theorem z33_bool (k : Nat) (hk : k < 32) : Z33[k]? = some (.bool false) := by
  unfold Z33
  rw [List.getElem?_append_left (by rw [List.length_replicate]; exact hk), List.getElem?_replicate, if_pos hk]
theorem flat6 : ∀ (n k j : Nat), k < n → j < 6 → ((List.replicate n Z6).flatten)[k * 6 + j]? = Z6[j]?
  | 0, k, j, hk, _ => by omega
  | n + 1, 0, j, _, hj => by
    rw [List.replicate_succ, List.flatten_cons, List.getElem?_append_left (by show 0 * 6 + j < 6; omega)]
    congr 1
    omega
  | n + 1, k + 1, j, hk, hj => by
    rw [List.replicate_succ, List.flatten_cons, List.getElem?_append_right (by show 6 ≤ (k + 1) * 6 + j; omega)]
    rw [show (k + 1) * 6 + j - Z6.length = k * 6 + j from by show (k + 1) * 6 + j - 6 = _; omega]
    exact flat6 n k j (by omega) hj
theorem z33_desc (k j : Nat) (hk : k < 32) (hj : j < 6) : Z33[32 + k * 6 + j]? = Z6[j]? := by
  unfold Z33
  rw [List.getElem?_append_right (by rw [List.length_replicate]; omega), List.length_replicate, show 32 + k * 6 + j - 32 = k * 6 + j from by omega]
  exact flat6 32 k j hk hj
/-- A new table. -/
theorem rt_new {w0 w : World} {t : TypeId} (h : w0.heap.size ≤ w.heap.size) : RT w0 (w.alloc (.cells Z33.toArray t)) w.heap.size No em := by
  have hr : (w.alloc (.cells Z33.toArray t)).heap[w.heap.size]? = some (.cells Z33.toArray t (0, 0)) := heap_alloc_new w _
  have hc : ∀ j, (w.alloc (.cells Z33.toArray t)).cell? ⟨w.heap.size, j, none⟩ = Z33[j]? := fun j => by rw [cell_row hr, List.getElem?_toArray]
  refine ⟨⟨h, by rw [World.size_alloc]; omega⟩, fun b hb => hb.elim, fun j => by rw [World.frozen?, hr]; simp, fun k hk => by rw [hc, z33_bool k hk]; rfl, fun k hk => ⟨dz, ⟨none, 0, fun j v hv => ?_, Nat.zero_le _, Nat.le_refl _, by unfold maxLen; omega, fun hn => absurd hn (Nat.lt_irrefl 0)⟩, fun e he => (nomatch he)⟩⟩
  have hj : j < 6 := by have := (List.getElem?_eq_some_iff.1 hv).1; simpa [DL] using this
  rw [hc, z33_desc k j hk hj]
  exact hv
end Go.Proofs.Ytfbdhpbnmjacmaa.ds
