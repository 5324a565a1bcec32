/- The document's own branch: New, and what is only asked. -/
import Derived.Test.YtlelnpckbcpkkaaGreatDb
namespace Go.Proofs.YtlelnpckbcpkkaaGreat.cb
open Go.RowKit
open Go.Proofs.YtlelnpckbcpkkaaGreat.br
open Go.Proofs.YtlelnpckbcpkkaaGreat.dn (En lget lset ldel nerr dotB Sorted getV DuX LaidX)
open Go.Proofs.YtlelnpckbcpkkaaGreat.bl (AB Only StoC Pq cut cutR wr WR U8 RF)
open Go.Proofs.YtlelnpckbcpkkaaGreat.bl.rx (RB RS2 Kp)
set_option linter.unusedVariables false
set_option linter.unusedSimpArgs false

set_option maxRecDepth 100000 in
theorem rstore_yes (room : Nat) (w : World) (hr : room ≤ 65536) : Calls Tryz.prog 45 #[.int .i64 (room : Int)] w (fun e w' => e = .returned (Pq w.heap.size) ∧ w' = w.alloc (.cells #[.int .i64 (room : Int), .int .i64 0] 38)) := by
  have h1 : ¬ ((65536 : Int) < (room : Int)) := by omega
  have h0 : ¬ ((room : Int) < 0) := by omega
  go_enter Tryz.func45, Tryz.ntmps45
  go_wp2
  go_ret
  exact ⟨rfl, rfl⟩
set_option maxRecDepth 100000 in
theorem rstore_no (room : Int) (w : World) (hr : room < 0 ∨ 65536 < room) : Calls Tryz.prog 45 #[.int .i64 room] w (fun e w' => e = .returned (.pointer none) ∧ w = w') := by
  by_cases h : room < 0
  · go_enter Tryz.func45, Tryz.ntmps45
    go_wp2
    go_ret
    exact ⟨rfl, rfl⟩
  · have h1 : 65536 < room := by omega
    go_enter Tryz.func45, Tryz.ntmps45
    go_wp2
    go_ret
    exact ⟨rfl, rfl⟩
set_option maxRecDepth 100000 in
theorem rb_new_no (room : Int) (w : World) (hr : room < 0 ∨ 65536 < room) : Calls Tryz.prog 13 #[.int .i64 room] w (fun e w' => e = .returned (.pointer none) ∧ w = w') := by
  have HN := Lib.hid (rstore_no room w hr)
  clear hr
  go_enter Tryz.func13, Tryz.ntmps13
  go_wp2_with fail
  refine HN.out.mono ?_
  rintro e w2 ⟨rfl, rfl⟩
  go_wp2_with fail
  go_ret
  exact ⟨rfl, rfl⟩
def ino9 : List Value := [.int .i64 0, .int .i64 0, .int .i64 0, .int .i64 0, .int .i64 0, .slice none 0 0, .slice none 0 0, .slice none 0 0, .string ⟨#[]⟩]
set_option maxRecDepth 100000 in
theorem zero51 : Tryz.zeroCells51 = (.pointer none :: (List.replicate 201 ino9).flatten).toArray := by kernel_rfl
theorem flat_get {α : Type} (l : List α) (hl : l.length = 9) (n k i : Nat) (hk : k < n) (hi : i < 9) : (List.replicate n l).flatten[k * 9 + i]? = l[i]? := by
  induction n generalizing k with
  | zero => omega
  | succ n ih =>
    rw [List.replicate_succ, List.flatten_cons]
    cases k with
    | zero => rw [List.getElem?_append_left (by omega)]; congr 1; omega
    | succ k =>
      rw [List.getElem?_append_right (by omega), ← ih k (by omega)]
      congr 1
      omega
theorem flat_len {α : Type} (l : List α) (n : Nat) : (List.replicate n l).flatten.length = n * l.length := by
  induction n with
  | zero => simp
  | succ n ih => rw [List.replicate_succ, List.flatten_cons, List.length_append, ih, Nat.succ_mul]; omega
theorem zero51_at (k i : Nat) (hk : k ≤ 200) (hi : i < 9) : Tryz.zeroCells51[1 + k * 9 + i]? = ino9[i]? := by
  rw [zero51, List.getElem?_toArray, show 1 + k * 9 + i = (k * 9 + i) + 1 by omega, List.getElem?_cons_succ]
  exact flat_get ino9 rfl 201 k i (by omega) hi
theorem zero51_size : Tryz.zeroCells51.size = 1810 := by
  rw [zero51, List.size_toArray, List.length_cons, flat_len]
  rfl
/-- An inode whose nine cells are laid, without rows. -/
theorem DI.blank {w : World} {lo D k : Nat} {a0 a1 a2 a3 a4 : Int} {t : ByteArray} (c0 : w.cell? ⟨D, 1 + k * 9, none⟩ = some (.int .i64 a0)) (c1 : w.cell? ⟨D, 1 + k * 9 + 1, none⟩ = some (.int .i64 a1)) (c2 : w.cell? ⟨D, 1 + k * 9 + 2, none⟩ = some (.int .i64 a2)) (c3 : w.cell? ⟨D, 1 + k * 9 + 3, none⟩ = some (.int .i64 a3)) (c4 : w.cell? ⟨D, 1 + k * 9 + 4, none⟩ = some (.int .i64 a4))
    (c5 : w.cell? ⟨D, 1 + k * 9 + 5, none⟩ = some (.slice none 0 0)) (c6 : w.cell? ⟨D, 1 + k * 9 + 6, none⟩ = some (.slice none 0 0)) (c7 : w.cell? ⟨D, 1 + k * 9 + 7, none⟩ = some (.slice none 0 0)) (c8 : w.cell? ⟨D, 1 + k * 9 + 8, none⟩ = some (.string t)) (hf : ∀ j, w.frozen? ⟨D, j, none⟩ = false) :
    DI w lo D k pd0 ⟨a0, a1, a2, a3, a4, abE, [], t⟩ :=
  ⟨c0, c1, c2, c3, c4, ⟨c5, c6, hf _, hf _, World.ownsRow_nil _ _ _ _, World.ownsRow_nil _ _ _ _, (fun k h => by cases h), Nat.zero_le _, (fun h => by cases h), (fun h => by cases h), (fun g h => by cases h)⟩, ⟨c7, hf _, rfl, rfl⟩, c8, fun _ => ⟨rfl, rfl, rfl⟩, fun _ => ⟨rfl, rfl⟩⟩
noncomputable def boxD (st : Value) : Array Value := (((((((((Tryz.zeroCells51.setIfInBounds 0 st).setIfInBounds 10 (.int .i64 2)).setIfInBounds 11 (.int .i64 1)).setIfInBounds 12 (.int .i64 0)).setIfInBounds 13 (.int .i64 0)).setIfInBounds 14 (.int .i64 1)).setIfInBounds 15 (.slice none 0 0)).setIfInBounds 16 (.slice none 0 0)).setIfInBounds 17 (.slice none 0 0)).setIfInBounds 18 (.string ⟨#[]⟩)
theorem boxD_zero (st : Value) : (boxD st)[0]? = some st := by
  have hz := zero51_size
  unfold boxD
  generalize Tryz.zeroCells51 = Z at *
  simp [Array.getElem?_setIfInBounds, hz]
theorem boxD_root (st : Value) (i : Nat) (hi : i < 9) : (boxD st)[1 + 1 * 9 + i]? = some (match i with | 0 => .int .i64 2 | 1 => .int .i64 1 | 2 => .int .i64 0 | 3 => .int .i64 0 | 4 => .int .i64 1 | 8 => .string ⟨#[]⟩ | _ => .slice none 0 0) := by
  have hz := zero51_size
  unfold boxD
  generalize Tryz.zeroCells51 = Z at *
  match i, hi with
  | 0, _ => simp [Array.getElem?_setIfInBounds, hz]
  | 1, _ => simp [Array.getElem?_setIfInBounds, hz]
  | 2, _ => simp [Array.getElem?_setIfInBounds, hz]
  | 3, _ => simp [Array.getElem?_setIfInBounds, hz]
  | 4, _ => simp [Array.getElem?_setIfInBounds, hz]
  | 5, _ => simp [Array.getElem?_setIfInBounds, hz]
  | 6, _ => simp [Array.getElem?_setIfInBounds, hz]
  | 7, _ => simp [Array.getElem?_setIfInBounds, hz]
  | 8, _ => simp [Array.getElem?_setIfInBounds, hz]
theorem boxD_else (st : Value) (k i : Nat) (hk : k ≤ 200) (h1 : k ≠ 1) (hi : i < 9) : (boxD st)[1 + k * 9 + i]? = ino9[i]? := by
  rw [← zero51_at k i hk hi]
  have hz := zero51_size
  unfold boxD
  generalize Tryz.zeroCells51 = Z at *
  have a0 : ¬ (0 = 1 + k * 9 + i) := by omega
  have a1 : ¬ (10 = 1 + k * 9 + i) := by omega
  have a2 : ¬ (11 = 1 + k * 9 + i) := by omega
  have a3 : ¬ (12 = 1 + k * 9 + i) := by omega
  have a4 : ¬ (13 = 1 + k * 9 + i) := by omega
  have a5 : ¬ (14 = 1 + k * 9 + i) := by omega
  have a6 : ¬ (15 = 1 + k * 9 + i) := by omega
  have a7 : ¬ (16 = 1 + k * 9 + i) := by omega
  have a8 : ¬ (17 = 1 + k * 9 + i) := by omega
  have a9 : ¬ (18 = 1 + k * 9 + i) := by omega
  simp only [Array.getElem?_setIfInBounds, Array.size_setIfInBounds, hz, a0, a1, a2, a3, a4, a5, a6, a7, a8, a9, if_false]
theorem DB.start {w : World} {room lo : Nat} (hlo : lo ≤ w.heap.size) {w1 w2 : World} (h1 : w1 = w.alloc (.cells #[.int .i64 (room : Int), .int .i64 0] 38)) (h2 : w2 = w1.alloc (.cells (boxD (Pq w.heap.size)) 51)) :
    DB w2 (w.heap.size + 1) lo w.heap.size (fun _ => pd0) (fun b => if b = w.heap.size + 1 then 1 else if b = w.heap.size then 2 else 0) fresh room ∧ Below w.heap.size w w2 := by
  have z1 : w1.heap.size = w.heap.size + 1 := by rw [h1]; exact World.size_alloc _ _
  have z2 : w2.heap.size = w.heap.size + 2 := by rw [h2, World.size_alloc, z1]
  have b1 : Below w.heap.size w w1 := by rw [h1]; exact dn.below_alloc _ _
  have b2 : Below w1.heap.size w1 w2 := by rw [h2]; exact dn.below_alloc _ _
  have hc : ∀ j, w2.cell? ⟨w.heap.size + 1, j, none⟩ = (boxD (Pq w.heap.size))[j]? := fun j => by
    rw [h2, ← z1]
    generalize boxD (Pq w.heap.size) = Z
    simp
  have hf : ∀ j, w2.frozen? ⟨w.heap.size + 1, j, none⟩ = false := fun j => by
    rw [h2, ← z1]
    generalize boxD (Pq w.heap.size) = Z
    simp
  have hs : StoC w1 w.heap.size room 0 := by
    rw [h1]
    exact ⟨by simp, by simp, by simp⟩
  refine ⟨⟨(hc 0).trans (boxD_zero _), hf, StoC.keep hs (b2.block _ (by omega)), fun k hk => ?_, if_pos rfl, ?_, fun k _ b hb => absurd hb (own0 b), fun b hb => ?_, fun b hb => ?_⟩, b1.trans (b2.mono (by omega))⟩
  · rw [fresh_ino]
    by_cases e : k = 1
    · subst e
      rw [if_pos rfl]
      exact DI.blank ((hc _).trans (boxD_root _ 0 (by omega))) ((hc _).trans (boxD_root _ 1 (by omega))) ((hc _).trans (boxD_root _ 2 (by omega))) ((hc _).trans (boxD_root _ 3 (by omega))) ((hc _).trans (boxD_root _ 4 (by omega))) ((hc _).trans (boxD_root _ 5 (by omega))) ((hc _).trans (boxD_root _ 6 (by omega))) ((hc _).trans (boxD_root _ 7 (by omega))) ((hc _).trans (boxD_root _ 8 (by omega))) hf
    · rw [if_neg e]
      exact DI.blank ((hc _).trans (boxD_else _ k 0 hk e (by omega))) ((hc _).trans (boxD_else _ k 1 hk e (by omega))) ((hc _).trans (boxD_else _ k 2 hk e (by omega))) ((hc _).trans (boxD_else _ k 3 hk e (by omega))) ((hc _).trans (boxD_else _ k 4 hk e (by omega))) ((hc _).trans (boxD_else _ k 5 hk e (by omega))) ((hc _).trans (boxD_else _ k 6 hk e (by omega))) ((hc _).trans (boxD_else _ k 7 hk e (by omega))) ((hc _).trans (boxD_else _ k 8 hk e (by omega))) hf
  · show (if w.heap.size = w.heap.size + 1 then 1 else if w.heap.size = w.heap.size then 2 else 0) = 2
    rw [if_neg (by omega), if_pos rfl]
  · show (if b = w.heap.size + 1 then 1 else if b = w.heap.size then 2 else 0) = 0
    rw [if_neg (by omega), if_neg (by omega)]
  · show (if b = w.heap.size + 1 then 1 else if b = w.heap.size then 2 else 0) = 0
    rw [if_neg (by omega), if_neg (by omega)]
set_option maxRecDepth 100000 in
set_option maxHeartbeats 1000000 in
theorem rb_new (room lo : Nat) (w : World) (hr : room ≤ 65536) (hlo : lo ≤ w.heap.size) : Calls Tryz.prog 13 #[.int .i64 (room : Int)] w (fun e w' => ∃ D RS pl tag, e = .returned (Pq D) ∧ DB w' D lo RS pl tag fresh room ∧ Below w.heap.size w w' ∧ ∀ b, tag b ≠ 0 → w.heap.size ≤ b) := by
  have HS := Lib.hid (rstore_yes room w hr)
  have HD := Lib.hid (fun w2 (h2 : w2 = (w.alloc (.cells #[.int .i64 (room : Int), .int .i64 0] 38)).alloc (.cells (boxD (Pq w.heap.size)) 51)) => DB.start (room := room) hlo rfl h2)
  unfold boxD at HD
  go_enter Tryz.func13, Tryz.ntmps13
  go_wp2_with fail
  refine HS.out.mono ?_
  rintro e w2 ⟨rfl, rfl⟩
  go_wp2_with fail
  go_ret
  obtain ⟨h1, h2⟩ := HD.out _ rfl
  exact ⟨_, _, _, _, rfl, h1, h2, fun b hb => by
    rcases Nat.lt_or_ge b w.heap.size with h3 | h3
    · rw [if_neg (by omega), if_neg (by omega)] at hb; exact absurd rfl hb
    · exact h3⟩
end Go.Proofs.YtlelnpckbcpkkaaGreat.cb
