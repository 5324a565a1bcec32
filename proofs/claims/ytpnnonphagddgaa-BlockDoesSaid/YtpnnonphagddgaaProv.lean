/- A chunk is made where there is room; the end of a chunk is cleared. -/
import Derived.Test.YtpnnonphagddgaaTake
namespace Go.Proofs.Ytpnnonphagddgaa
open Go.RowKit
set_option linter.unusedVariables false
set_option linter.unusedSimpArgs false

theorem below_one (w : World) (o : Obj) : Below w.heap.size w (w.alloc o) := (Below.refl _ _).alloc (Nat.le_refl _) _
theorem StoC.set {w : World} {S room used : Nat} (h : StoC w S room used) (u : Nat) : StoC (w.setCell ⟨S, 1, none⟩ (.int .i64 (u : Int))) S room u := by
  have h0 := h.c0
  have h1 := h.c1
  have hf := h.f1
  exact ⟨(World.cell?_setCell_other _ _ _ _ (by intro e; injection e with _ e; simp at e)).trans h0, World.cell?_setCell_same _ _ _ h1, (World.frozen?_setCell _ _ _ _).trans hf⟩
theorem set_block {w : World} {a : Addr} {u : Value} {M : Nat} (h : M ≠ a.block) : (w.setCell a u).heap[M]? = w.heap[M]? := Below.heap_setCell w a u M h
set_option maxHeartbeats 1000000 in
theorem prov_there (S B M n N k : Nat) (th : Nat → Bool) (dat : Nat → UInt8) (w : World) (hb : BodC w S B M n) (hM : MapAt w M th dat N) (ht : th k = true) :
    Calls Try.prog 32 #[Pq S, Pq B, .int .i64 (k : Int)] w (fun e w' => e = .returned (.bool true) ∧ Below w.heap.size w w') := by
  have hlook := hM.look k true
  rw [ht] at hlook
  simp only [if_true] at hlook
  have h2 := hb.c2
  have hst := store_chunk w dat k
  have hsz := chunkA_size dat k
  go_enter Try.func32, Try.ntmps32
  go_wp2
  go_ret
  exact ⟨rfl, below_one _ _⟩
set_option maxHeartbeats 1000000 in
theorem prov_full (S B M n N k room used : Nat) (th : Nat → Bool) (dat : Nat → UInt8) (w : World) (hb : BodC w S B M n) (hM : MapAt w M th dat N) (hS : StoC w S room used) (ht : th k = false) (hu : room ≤ used) :
    Calls Try.prog 32 #[Pq S, Pq B, .int .i64 (k : Int)] w (fun e w' => e = .returned (.bool false) ∧ Below w.heap.size w w') := by
  have hlook := hM.look k true
  rw [ht] at hlook
  simp only [if_true] at hlook
  have h2 := hb.c2
  have hSl := World.block_lt_of_cell? w _ hS.c0
  have s0 := hS.c0
  have s1 := hS.c1
  have hu2 : ¬ ((used : Int) < (room : Int)) := by omega
  have hu3 : ((room : Int) ≤ (used : Int)) := by omega
  have hst := store_chunk w dat k
  have hsz := chunkA_size dat k
  go_enter Try.func32, Try.ntmps32
  go_wp2
  go_region
  go_wp2
  go_ret
  exact ⟨rfl, (below_one _ _).drew⟩
set_option maxHeartbeats 1000000 in
theorem prov_make (S B M n N k room used : Nat) (th : Nat → Bool) (dat : Nat → UInt8) (w : World) (hb : BodC w S B M n) (hM : MapAt w M th dat N) (hS : StoC w S room used) (ht : th k = false) (hu : used < room) (hr : room ≤ 65536) (hSM : S ≠ M) :
    Calls Try.prog 32 #[Pq S, Pq B, .int .i64 (k : Int)] w (fun e w' => e = .returned (.bool true) ∧ MapAt w' M (updB th k true) dat (N + 1) ∧ StoC w' S room (used + 1) ∧ Only (fun x => x = M ∨ x = S) w w') := by
  have hlook := hM.look k true
  rw [ht] at hlook
  simp only [if_true] at hlook
  have h2 := hb.c2
  have hBl := World.block_lt_of_cell? w _ h2
  have hSl := World.block_lt_of_cell? w _ hS.c0
  have s0 := hS.c0
  have s1 := hS.c1
  have hu2 : ((used : Int) < (room : Int)) := by omega
  have hu3 : ¬ ((room : Int) ≤ (used : Int)) := by omega
  have hst := store_chunk w dat k
  have hsz := chunkA_size dat k
  have hb1 := (below_one w (.cells (chunkA dat k) 76)).drew
  have hM1 : MapAt (w.alloc (.cells (chunkA dat k) 76)).drew M th dat N := hM.of_block (hb1.block _ hM.lt)
  obtain ⟨w3, hput, hM3, ho3⟩ := hM1.put (dat' := dat) k (fun _ _ => rfl)
  rw [zero_chunk hM.holes ht, addN, ht] at *
  have f1 := hS.f1
  have hs3 := (ho3.block S (Nat.lt_of_lt_of_le hSl hb1.size) hSM).trans (hb1.block S hSl)
  have u1 : w3.cell? ⟨S, 1, none⟩ = some (.int .i64 (used : Int)) := (World.cell?_of_block (a := ⟨S, 1, none⟩) hs3).trans s1
  have u0 : w3.cell? ⟨S, 0, none⟩ = some (.int .i64 (room : Int)) := (World.cell?_of_block (a := ⟨S, 0, none⟩) hs3).trans s0
  have g1 : w3.frozen? ⟨S, 1, none⟩ = false := (World.frozen?_of_block (a := ⟨S, 1, none⟩) hs3).trans f1
  have HM3 := Lib.hid hM3
  have HO3 := Lib.hid (((Only.of_below hb1).trans ho3).mono (G := fun x => x = M ∨ x = S) fun _ => Or.inl)
  have HNE := Lib.hid hSM
  clear hM3 ho3 hM1 hs3 hSM
  have hput2 : (Instr.mapUpdate 66 (.map (some M)) (.int .i64 (k : Int)) (.agg Z16)).run Try.prog (w.alloc (.cells zeroA 76)).drew = .ok () w3 := hput
  clear hput
  have hsz2 : zeroA.size = 16 := rfl
  go_enter Try.func32, Try.ntmps32
  go_wp2
  go_region
  go_wp2
  go_ret
  exact ⟨rfl, HM3.out.of_block (set_block fun e => HNE.out e.symm), (StoC.set ⟨u0, u1, g1⟩ (used + 1)), HO3.out.setCell (Or.inr rfl) _⟩

theorem BodC.below {w w' : World} {S B M n : Nat} (h : BodC w S B M n) (hb : w'.heap[B]? = w.heap[B]?) : BodC w' S B M n :=
  ⟨(World.cell?_of_block (a := ⟨B, 0, none⟩) hb).trans h.c0, (World.cell?_of_block (a := ⟨B, 1, none⟩) hb).trans h.c1, (World.cell?_of_block (a := ⟨B, 2, none⟩) hb).trans h.c2, (World.frozen?_of_block (a := ⟨B, 1, none⟩) hb).trans h.f1⟩
theorem StoC.below {w w' : World} {S room used : Nat} (h : StoC w S room used) (hb : w'.heap[S]? = w.heap[S]?) : StoC w' S room used :=
  ⟨(World.cell?_of_block (a := ⟨S, 0, none⟩) hb).trans h.c0, (World.cell?_of_block (a := ⟨S, 1, none⟩) hb).trans h.c1, (World.frozen?_of_block (a := ⟨S, 1, none⟩) hb).trans h.f1⟩
theorem BodC.set {w : World} {S B M n : Nat} (h : BodC w S B M n) (u : Nat) : BodC (w.setCell ⟨B, 1, none⟩ (.int .i64 (u : Int))) S B M u :=
  ⟨(World.cell?_setCell_other _ _ _ _ (by intro e; injection e with _ e; simp at e)).trans h.c0, World.cell?_setCell_same _ _ _ h.c1, (World.cell?_setCell_other _ _ _ _ (by intro e; injection e with _ e; simp at e)).trans h.c2, (World.frozen?_setCell _ _ _ _).trans h.f1⟩

/-- Cleared from r on. -/
def wiped (dat : Nat → UInt8) (a k : Nat) : Nat → UInt8 := fun i => if a ≤ i ∧ i / 16 = k then 0 else dat i
theorem zero5 (w : World) : (zeroValue 5).run Try.prog w = .ok (U8 0) w := by kernel_rfl
theorem clear_chunk (w : World) (dat : Nat → UInt8) (k r a : Nat) (ty : TypeId) (hr : r < 16) (ha : a = 16 * k + r) :
    (Builtin.clear_ #[33] ty #[.slice (some ⟨w.heap.size, r, none⟩) (16 - r) (16 - r)]).run Try.prog (w.alloc (.cells (chunkA dat k) 76)) = .ok (.tuple #[]) (w.alloc (.cells (chunkA (wiped dat a k) k) 76)) := by
  obtain ⟨m, hm⟩ : ∃ m, 16 - r = m + 1 := ⟨15 - r, by omega⟩
  have hz : (Builtin.zeroCells (U8 0).cells (m + 1)).toList = rowF (m + 1) (fun _ => 0) := by
    unfold rowF
    apply List.ext_getElem?
    intro j
    simp [Builtin.zeroCells, U8, Value.cells, Nat.mod_one]
  have hst := run_storeCells_at Try.prog w.heap.size r 76 (rowF (m + 1) (fun _ => 0)) 0 (chunkA dat k) (w.alloc (.cells (chunkA dat k) 76)) (heap_alloc_last w _) (by rw [rowF_length, chunkA_size]; omega) rowF_one
  have hsp : splice (chunkL dat k) r (rowF (m + 1) (fun _ => 0)) = chunkL (wiped dat a k) k :=
    splice_rowF (L := 16) (off := r) (m := m + 1) (fun j => dat (16 * k + j)) (fun _ => 0) (fun j => wiped dat a k (16 * k + j)) (by omega) (fun j hj => by
      unfold wiped
      by_cases h : r ≤ j ∧ j < r + (m + 1)
      · rw [if_pos (by omega), if_pos h]
      · rw [if_neg (by omega), if_neg h])
  have hx : ((chunkA dat k).toList.take (r + 0) ++ rowF (m + 1) (fun _ => 0) ++ (chunkA dat k).toList.drop (r + 0 + (rowF (m + 1) (fun _ => 0)).length)).toArray = chunkA (wiped dat a k) k := by
    unfold chunkA
    rw [← hsp]
    simp [splice]
  rw [hx, World.setRow_alloc_new] at hst
  rw [hm]
  unfold Builtin.clear_
  have hz2 : (Builtin.zeroCells (Value.int IntKind.u8 0).cells (m + 1)).toList = rowF (m + 1) fun x => 0 := hz
  simp [run_underlying Try.underlying33, zero5, hz2, hst]
set_option maxHeartbeats 1000000 in
theorem wipe_hole (S B M n N a k : Nat) (th : Nat → Bool) (dat : Nat → UInt8) (w : World) (hb : BodC w S B M n) (hM : MapAt w M th dat N) (hk : (a : Int) / 16 = k) (ha : a ≤ 65536) (ht : th k = false) :
    Calls Try.prog 38 #[Pq B, .int .i64 (a : Int)] w (fun e w' => e = .returned (.tuple #[]) ∧ Below w.heap.size w w') := by
  have hlook := hM.look k true
  rw [ht] at hlook
  simp only [if_true] at hlook
  have h2 := hb.c2
  have hst := store_chunk w dat k
  have hsz := chunkA_size dat k
  go_enter Try.func38, Try.ntmps38
  go_wp2
  go_end0
  exact ⟨rfl, below_one _ _⟩
set_option maxHeartbeats 1000000 in
theorem wipe_there (S B M n N a k r : Nat) (th : Nat → Bool) (dat : Nat → UInt8) (w : World) (hb : BodC w S B M n) (hM : MapAt w M th dat N) (hk : (a : Int) / 16 = k) (hr : (a : Int) % 16 = r) (ha : a ≤ 65536) (ht : th k = true) :
    Calls Try.prog 38 #[Pq B, .int .i64 (a : Int)] w (fun e w' => e = .returned (.tuple #[]) ∧ MapAt w' M th (wiped dat a k) N ∧ Only (· = M) w w') := by
  have hlook := hM.look k true
  rw [ht] at hlook
  simp only [if_true] at hlook
  have h2 := hb.c2
  have hBl := World.block_lt_of_cell? w _ h2
  have har : a = 16 * k + r := by omega
  have hr16 : r < 16 := by omega
  have hst := store_chunk w dat k
  have hsz := chunkA_size dat k
  have hsl := slice_chunk (w.alloc (.cells (chunkA dat k) 76)) w.heap.size r hr16
  have hcl := clear_chunk w dat k r a 0 hr16 har
  have hb1 := (below_one w (.cells (chunkA (wiped dat a k) k) 76)).drew
  have hM1 : MapAt (w.alloc (.cells (chunkA (wiped dat a k) k) 76)).drew M th dat N := hM.of_block (hb1.block _ hM.lt)
  obtain ⟨w3, hput, hM3, ho3⟩ := hM1.put (dat' := wiped dat a k) k (fun i hi => by unfold wiped; rw [if_neg (by omega)])
  have hM4 : MapAt w3 M th (wiped dat a k) N := by
    rw [addN, if_pos ht] at hM3
    exact hM3.ext (fun x => by unfold updB; by_cases e : x = k <;> simp [e, ht]) (fun _ => rfl)
  obtain ⟨V, hV, hcell⟩ := chunk_cells (w := (w.alloc (.cells (chunkA (wiped dat a k) k) 76)).drew) (heap_alloc_last w _)
  have hc2 : (w.alloc (.cells (chunkA (wiped dat a k) k) 76)).drew.cell? ⟨B, 2, none⟩ = some (.map (some M)) := (hb1.cell (p := ⟨B, 2, none⟩) hBl).trans h2
  have HM := Lib.hid hM4
  have HO := Lib.hid ((Only.of_below hb1).trans ho3)
  have HV := Lib.hid hV
  have HC := Lib.hid hcell
  clear hM4 hM3 ho3 hM1 hcell hV
  generalize hw2 : w.alloc (.cells (chunkA (wiped dat a k) k) 76) = w2 at *
  have HW := Lib.hid hw2
  have HAR := Lib.hid har
  clear hw2 har
  go_enter Try.func38, Try.ntmps38
  go_wp2
  have hV := HV.out
  rw [hV] at hput
  have c0 := HC.out 0 (by omega)
  have c1 := HC.out 1 (by omega)
  have c2 := HC.out 2 (by omega)
  have c3 := HC.out 3 (by omega)
  have c4 := HC.out 4 (by omega)
  have c5 := HC.out 5 (by omega)
  have c6 := HC.out 6 (by omega)
  have c7 := HC.out 7 (by omega)
  have c8 := HC.out 8 (by omega)
  have c9 := HC.out 9 (by omega)
  have c10 := HC.out 10 (by omega)
  have c11 := HC.out 11 (by omega)
  have c12 := HC.out 12 (by omega)
  have c13 := HC.out 13 (by omega)
  have c14 := HC.out 14 (by omega)
  have c15 := HC.out 15 (by omega)
  clear hV hsl hst hlook hcl hsz
  go_region
  go_wp2
  go_end0
  exact ⟨rfl, HM.out, HO.out⟩
end Go.Proofs.Ytpnnonphagddgaa
