/- Part 7 of what is known of the program's functions and of the document's words: contracts, and the mathematics beneath them. -/
import Derived.Test.YtpmpbmjjlccbbaaGreatProg
import Derived.Test.YtpmpbmjjlccbbaaGreatZ06
import Derived.OwnWalk
import Derived.LaidEqlPtr
import Derived.Laws.AppendOwn
set_option linter.unusedVariables false
set_option linter.unusedSimpArgs false
set_option maxRecDepth 100000
set_option maxHeartbeats 8000000
namespace Go.Proofs.YtpmpbmjjlccbbaaGreat.bl
open Go.RowKit
theorem below_one (w : World) (o : Obj) : Below w.heap.size w (w.alloc o) := (Below.refl _ _).alloc (Nat.le_refl _) _
theorem StoC.set {w : World} {S room used : Nat} (h : StoC w S room used) (u : Nat) : StoC (w.setCell ⟨S, 1, none⟩ (.int .i64 (u : Int))) S room u := by
 have h0 := h.c0
 have h1 := h.c1
 have hf := h.f1
 exact ⟨(World.cell?_setCell_other _ _ _ _ (by intro e; injection e with _ e; simp at e)).trans h0, World.cell?_setCell_same _ _ _ h1, (World.frozen?_setCell _ _ _ _).trans hf⟩
theorem set_block {w : World} {a : Addr} {u : Value} {M : Nat} (h : M ≠ a.block) : (w.setCell a u).heap[M]? = w.heap[M]? := Below.heap_setCell w a u M h
theorem prov_there (S B M n N k : Nat) (th : Nat → Bool) (dat : Nat → UInt8) (w : World) (hb : BodC w S B M n) (hM : MapAt w M th dat N) (ht : th k = true) :
  Calls Tryz.prog 209 #[Pq S, Pq B, .int .i64 (k : Int)] w (fun e w' => e = .returned (.bool true) ∧ Below w.heap.size w w') := by
 have hlook := hM.look k true
 rw [ht] at hlook
 simp only [if_true] at hlook
 have h2 := hb.c2
 have hst := store_chunk w dat k
 have hsz := chunkA_size dat k
 go_enter Tryz.func209, Tryz.ntmps209
 go_wp2
 go_ret
 exact ⟨rfl, below_one _ _⟩
theorem prov_full (S B M n N k room used : Nat) (th : Nat → Bool) (dat : Nat → UInt8) (w : World) (hb : BodC w S B M n) (hM : MapAt w M th dat N) (hS : StoC w S room used) (ht : th k = false) (hu : room ≤ used) :
  Calls Tryz.prog 209 #[Pq S, Pq B, .int .i64 (k : Int)] w (fun e w' => e = .returned (.bool false) ∧ Below w.heap.size w w') := by
 have hlook := hM.look k true
 rw [ht] at hlook
 simp only [if_true] at hlook
 have h2 := hb.c2
 have hSl := World.block_lt_of_cell? w _ hS.c0
 have s0 := hS.c0
 have s1 := hS.c1
 have hu2 : ¬ ((used : Int) < (room : Int)) := by omega
 have hu3 : ((room : Int) ≤ (used : Int)) := by omega
 have hst := store_chunk w dat k
 have hsz := chunkA_size dat k
 go_enter Tryz.func209, Tryz.ntmps209
 go_wp2
 go_region
 go_wp2
 go_ret
 exact ⟨rfl, (below_one _ _).drew⟩
theorem prov_make (S B M n N k room used : Nat) (th : Nat → Bool) (dat : Nat → UInt8) (w : World) (hb : BodC w S B M n) (hM : MapAt w M th dat N) (hS : StoC w S room used) (ht : th k = false) (hu : used < room) (hr : room ≤ 65536) (hSM : S ≠ M) :
  Calls Tryz.prog 209 #[Pq S, Pq B, .int .i64 (k : Int)] w (fun e w' => e = .returned (.bool true) ∧ MapAt w' M (updB th k true) dat (N + 1) ∧ StoC w' S room (used + 1) ∧ Only (fun x => x = M ∨ x = S) w w') := by
 have hlook := hM.look k true
 rw [ht] at hlook
 simp only [if_true] at hlook
 have h2 := hb.c2
 have hBl := World.block_lt_of_cell? w _ h2
 have hSl := World.block_lt_of_cell? w _ hS.c0
 have s0 := hS.c0
 have s1 := hS.c1
 have hu2 : ((used : Int) < (room : Int)) := by omega
 have hu3 : ¬ ((room : Int) ≤ (used : Int)) := by omega
 have hst := store_chunk w dat k
 have hsz := chunkA_size dat k
 have hb1 := (below_one w (.cells (chunkA dat k) 230)).drew
 have hM1 : MapAt (w.alloc (.cells (chunkA dat k) 230)).drew M th dat N := hM.of_block (hb1.block _ hM.lt)
 obtain ⟨w3, hput, hM3, ho3⟩ := hM1.put (dat' := dat) k (fun _ _ => rfl)
 rw [zero_chunk hM.holes ht, addN, ht] at *
 have f1 := hS.f1
 have hs3 := (ho3.block S (Nat.lt_of_lt_of_le hSl hb1.size) hSM).trans (hb1.block S hSl)
 have u1 : w3.cell? ⟨S, 1, none⟩ = some (.int .i64 (used : Int)) := (World.cell?_of_block (a := ⟨S, 1, none⟩) hs3).trans s1
 have u0 : w3.cell? ⟨S, 0, none⟩ = some (.int .i64 (room : Int)) := (World.cell?_of_block (a := ⟨S, 0, none⟩) hs3).trans s0
 have g1 : w3.frozen? ⟨S, 1, none⟩ = false := (World.frozen?_of_block (a := ⟨S, 1, none⟩) hs3).trans f1
 have HM3 := Lib.hid hM3
 have HO3 := Lib.hid (((Only.of_below hb1).trans ho3).mono (G := fun x => x = M ∨ x = S) fun _ => Or.inl)
 have HNE := Lib.hid hSM
 clear hM3 ho3 hM1 hs3 hSM
 have hput2 : (Instr.mapUpdate 173 (.map (some M)) (.int .i64 (k : Int)) (.agg Z16)).run Tryz.prog (w.alloc (.cells zeroA 230)).drew = .ok () w3 := hput
 clear hput
 have hsz2 : zeroA.size = 16 := rfl
 go_enter Tryz.func209, Tryz.ntmps209
 go_wp2
 go_region
 go_wp2
 go_ret
 exact ⟨rfl, HM3.out.of_block (set_block fun e => HNE.out e.symm), (StoC.set ⟨u0, u1, g1⟩ (used + 1)), HO3.out.setCell (Or.inr rfl) _⟩
theorem BodC.below {w w' : World} {S B M n : Nat} (h : BodC w S B M n) (hb : w'.heap[B]? = w.heap[B]?) : BodC w' S B M n :=
 ⟨(World.cell?_of_block (a := ⟨B, 0, none⟩) hb).trans h.c0, (World.cell?_of_block (a := ⟨B, 1, none⟩) hb).trans h.c1, (World.cell?_of_block (a := ⟨B, 2, none⟩) hb).trans h.c2, (World.frozen?_of_block (a := ⟨B, 1, none⟩) hb).trans h.f1⟩
theorem StoC.below {w w' : World} {S room used : Nat} (h : StoC w S room used) (hb : w'.heap[S]? = w.heap[S]?) : StoC w' S room used :=
 ⟨(World.cell?_of_block (a := ⟨S, 0, none⟩) hb).trans h.c0, (World.cell?_of_block (a := ⟨S, 1, none⟩) hb).trans h.c1, (World.frozen?_of_block (a := ⟨S, 1, none⟩) hb).trans h.f1⟩
theorem BodC.set {w : World} {S B M n : Nat} (h : BodC w S B M n) (u : Nat) : BodC (w.setCell ⟨B, 1, none⟩ (.int .i64 (u : Int))) S B M u :=
 ⟨(World.cell?_setCell_other _ _ _ _ (by intro e; injection e with _ e; simp at e)).trans h.c0, World.cell?_setCell_same _ _ _ h.c1, (World.cell?_setCell_other _ _ _ _ (by intro e; injection e with _ e; simp at e)).trans h.c2, (World.frozen?_setCell _ _ _ _).trans h.f1⟩
def wiped (dat : Nat → UInt8) (a k : Nat) : Nat → UInt8 := fun i => if a ≤ i ∧ i / 16 = k then 0 else dat i
theorem zero5 (w : World) : (zeroValue 5).run Tryz.prog w = .ok (U8 0) w := by kernel_rfl
theorem clear_chunk (w : World) (dat : Nat → UInt8) (k r a : Nat) (ty : TypeId) (hr : r < 16) (ha : a = 16 * k + r) :
  (Builtin.clear_ #[80] ty #[.slice (some ⟨w.heap.size, r, none⟩) (16 - r) (16 - r)]).run Tryz.prog (w.alloc (.cells (chunkA dat k) 230)) = .ok (.tuple #[]) (w.alloc (.cells (chunkA (wiped dat a k) k) 230)) := by
 obtain ⟨m, hm⟩ : ∃ m, 16 - r = m + 1 := ⟨15 - r, by omega⟩
 have hz : (Builtin.zeroCells (U8 0).cells (m + 1)).toList = rowF (m + 1) (fun _ => 0) := by
  unfold rowF
  apply List.ext_getElem?
  intro j
  simp [Builtin.zeroCells, U8, Value.cells, Nat.mod_one]
 have hst := run_storeCells_at Tryz.prog w.heap.size r 230 (rowF (m + 1) (fun _ => 0)) 0 (chunkA dat k) (w.alloc (.cells (chunkA dat k) 230)) (heap_alloc_last w _) (by rw [rowF_length, chunkA_size]; omega) rowF_one
 have hsp : splice (chunkL dat k) r (rowF (m + 1) (fun _ => 0)) = chunkL (wiped dat a k) k :=
  splice_rowF (L := 16) (off := r) (m := m + 1) (fun j => dat (16 * k + j)) (fun _ => 0) (fun j => wiped dat a k (16 * k + j)) (by omega) (fun j hj => by
   unfold wiped
   by_cases h : r ≤ j ∧ j < r + (m + 1)
   ·rw [if_pos (by omega), if_pos h]
   ·rw [if_neg (by omega), if_neg h])
 have hx : ((chunkA dat k).toList.take (r + 0) ++ rowF (m + 1) (fun _ => 0) ++ (chunkA dat k).toList.drop (r + 0 + (rowF (m + 1) (fun _ => 0)).length)).toArray = chunkA (wiped dat a k) k := by
  unfold chunkA
  rw [← hsp]
  simp [splice]
 rw [hx, World.setRow_alloc_new] at hst
 rw [hm]
 unfold Builtin.clear_
 have hz2 : (Builtin.zeroCells (Value.int IntKind.u8 0).cells (m + 1)).toList = rowF (m + 1) fun x => 0 := hz
 simp [run_underlying Tryz.underlying80, zero5, hz2, hst]
theorem wipe_hole (S B M n N a k : Nat) (th : Nat → Bool) (dat : Nat → UInt8) (w : World) (hb : BodC w S B M n) (hM : MapAt w M th dat N) (hk : (a : Int) / 16 = k) (ha : a ≤ 65536) (ht : th k = false) :
  Calls Tryz.prog 194 #[Pq B, .int .i64 (a : Int)] w (fun e w' => e = .returned (.tuple #[]) ∧ Below w.heap.size w w') := by
 have hlook := hM.look k true
 rw [ht] at hlook
 simp only [if_true] at hlook
 have h2 := hb.c2
 have hst := store_chunk w dat k
 have hsz := chunkA_size dat k
 go_enter Tryz.func194, Tryz.ntmps194
 go_wp2
 go_end0
 exact ⟨rfl, below_one _ _⟩
theorem wipe_there (S B M n N a k r : Nat) (th : Nat → Bool) (dat : Nat → UInt8) (w : World) (hb : BodC w S B M n) (hM : MapAt w M th dat N) (hk : (a : Int) / 16 = k) (hr : (a : Int) % 16 = r) (ha : a ≤ 65536) (ht : th k = true) :
  Calls Tryz.prog 194 #[Pq B, .int .i64 (a : Int)] w (fun e w' => e = .returned (.tuple #[]) ∧ MapAt w' M th (wiped dat a k) N ∧ Only (· = M) w w') := by
 have hlook := hM.look k true
 rw [ht] at hlook
 simp only [if_true] at hlook
 have h2 := hb.c2
 have hBl := World.block_lt_of_cell? w _ h2
 have har : a = 16 * k + r := by omega
 have hr16 : r < 16 := by omega
 have hst := store_chunk w dat k
 have hsz := chunkA_size dat k
 have hsl := slice_chunk (w.alloc (.cells (chunkA dat k) 230)) w.heap.size r hr16
 have hcl := clear_chunk w dat k r a 0 hr16 har
 have hb1 := (below_one w (.cells (chunkA (wiped dat a k) k) 230)).drew
 have hM1 : MapAt (w.alloc (.cells (chunkA (wiped dat a k) k) 230)).drew M th dat N := hM.of_block (hb1.block _ hM.lt)
 obtain ⟨w3, hput, hM3, ho3⟩ := hM1.put (dat' := wiped dat a k) k (fun i hi => by unfold wiped; rw [if_neg (by omega)])
 have hM4 : MapAt w3 M th (wiped dat a k) N := by
  rw [addN, if_pos ht] at hM3
  exact hM3.ext (fun x => by unfold updB; by_cases e : x = k <;> simp [e, ht]) (fun _ => rfl)
 obtain ⟨V, hV, hcell⟩ := chunk_cells (w := (w.alloc (.cells (chunkA (wiped dat a k) k) 230)).drew) (heap_alloc_last w _)
 have hc2 : (w.alloc (.cells (chunkA (wiped dat a k) k) 230)).drew.cell? ⟨B, 2, none⟩ = some (.map (some M)) := (hb1.cell (p := ⟨B, 2, none⟩) hBl).trans h2
 have HM := Lib.hid hM4
 have HO := Lib.hid ((Only.of_below hb1).trans ho3)
 have HV := Lib.hid hV
 have HC := Lib.hid hcell
 clear hM4 hM3 ho3 hM1 hcell hV
 generalize hw2 : w.alloc (.cells (chunkA (wiped dat a k) k) 230) = w2 at *
 have HW := Lib.hid hw2
 have HAR := Lib.hid har
 clear hw2 har
 go_enter Tryz.func194, Tryz.ntmps194
 go_wp2
 have hV := HV.out
 rw [hV] at hput
 have c0 := HC.out 0 (by omega)
 have c1 := HC.out 1 (by omega)
 have c2 := HC.out 2 (by omega)
 have c3 := HC.out 3 (by omega)
 have c4 := HC.out 4 (by omega)
 have c5 := HC.out 5 (by omega)
 have c6 := HC.out 6 (by omega)
 have c7 := HC.out 7 (by omega)
 have c8 := HC.out 8 (by omega)
 have c9 := HC.out 9 (by omega)
 have c10 := HC.out 10 (by omega)
 have c11 := HC.out 11 (by omega)
 have c12 := HC.out 12 (by omega)
 have c13 := HC.out 13 (by omega)
 have c14 := HC.out 14 (by omega)
 have c15 := HC.out 15 (by omega)
 clear hV hsl hst hlook hcl hsz
 go_region
 go_wp2
 go_end0
 exact ⟨rfl, HM.out, HO.out⟩
theorem ret_int {a b : Int} (h : a = b) : Ending.returned (.int .i64 a) = .returned (.int .i64 b) := by rw [h]
theorem chunksTo_any (n : Nat) (w : World) (hn : n ≤ 1000000) : Calls Tryz.prog 193 #[.int .i64 (n : Int)] w (fun e w' => e = .returned (.int .i64 (((n + 15) / 16 : Nat) : Int)) ∧ w = w') := by
 go_enter Tryz.func193, Tryz.ntmps193
 go_wp2
 go_ret
 exact ⟨ret_int (show ((n : Int) + 16 - 1) / 16 = _ by omega), rfl⟩
theorem eq_ptr (S : Nat) (w : World) : (binOp .eql 59 (Pq S) (Pq S)).run Tryz.prog w = .ok (.bool true) w := by
 have h : (Tryz.prog.info? 121).isSome = true := by kernel_rfl
 obtain ⟨j, hj⟩ := Option.isSome_iff_exists.1 h
 exact run_eql_ptr_same w ⟨S, 0, none⟩ Tryz.underlying59 hj
theorem owns_any (S B M n : Nat) (w : World) (hb : BodC w S B M n) : Calls Tryz.prog 156 #[Pq S, Pq B] w (fun e w' => e = .returned (.bool true) ∧ w = w') := by
 have h0 := hb.c0
 have he := eq_ptr S w
 go_enter Tryz.func156, Tryz.ntmps156
 go_wp2
 go_ret
 exact ⟨rfl, rfl⟩
theorem used_any (S room used : Nat) (w : World) (hs : StoC w S room used) : Calls Tryz.prog 103 #[Pq S] w (fun e w' => e = .returned (.int .i64 (used : Int)) ∧ w = w') := by
 have h0 := hs.c1
 go_enter Tryz.func103, Tryz.ntmps103
 go_wp2
 go_ret
 exact ⟨rfl, rfl⟩
theorem size_any (S B M n : Nat) (w : World) (hb : BodC w S B M n) : Calls Tryz.prog 154 #[Pq B] w (fun e w' => e = .returned (.int .i64 (n : Int)) ∧ w = w') := by
 have h0 := hb.c1
 go_enter Tryz.func154, Tryz.ntmps154
 go_wp2
 go_ret
 exact ⟨rfl, rfl⟩
theorem body_any (S : Nat) (w : World) : Calls Tryz.prog 57 #[Pq S] w (fun e w' => e = .returned (Pq (w.heap.size + 1)) ∧ w' = (w.alloc (.map #[] 0)).alloc (.cells #[Pq S, .int .i64 0, .map (some w.heap.size)] 175)) := by
 have hm := run_makeMap (P := Tryz.prog) 173 w
 go_enter Tryz.func57, Tryz.ntmps57
 go_wp2
 go_ret
 exact ⟨by simp, rfl⟩
theorem new_yes (room : Nat) (w : World) (hr : room ≤ 65536) : Calls Tryz.prog 25 #[.int .i64 (room : Int)] w (fun e w' => e = .returned (Pq w.heap.size) ∧ w' = w.alloc (.cells #[.int .i64 (room : Int), .int .i64 0] 121)) := by
 have h1 : ¬ ((65536 : Int) < (room : Int)) := by omega
 have h0 : ¬ ((room : Int) < 0) := by omega
 go_enter Tryz.func25, Tryz.ntmps25
 go_wp2
 go_ret
 exact ⟨rfl, rfl⟩
theorem new_no (room : Int) (w : World) (hr : room < 0 ∨ 65536 < room) : Calls Tryz.prog 25 #[.int .i64 room] w (fun e w' => e = .returned (.pointer none) ∧ w = w') := by
 by_cases h : room < 0
 ·go_enter Tryz.func25, Tryz.ntmps25
  go_wp2
  go_ret
  exact ⟨rfl, rfl⟩
 ·have h2 : 65536 < room := by omega
  go_enter Tryz.func25, Tryz.ntmps25
  go_wp2
  go_ret
  exact ⟨rfl, rfl⟩
structure AB where
 size : Nat
 th : Nat → Bool
 dat : Nat → UInt8
def AB.n (b : AB) : Nat := cnt 4096 b.th
structure AB.Ok (b : AB) : Prop where
 size : b.size ≤ 65536
 th : ∀ k, b.th k = true → 16 * k < b.size
 dat : ∀ i, b.size ≤ i → b.dat i = 0
theorem below_step {w0 w w' : World} {X : Nat} (h : Below X w0 w) (hb : Below X w w') : Below X w0 w' := h.trans hb
structure Bod (w : World) (S B M : Nat) (b : AB) : Prop where
 c : BodC w S B M b.size
 m : MapAt w M b.th b.dat b.n
 ok : b.Ok
theorem Bod.of {w : World} {S B M N : Nat} {b : AB} (c : BodC w S B M b.size) (m : MapAt w M b.th b.dat N) (ok : b.Ok) : Bod w S B M b := by
 refine ⟨c, ?_, ok⟩
 have h := m.cnt (N := 4096) fun k hk => by have h1 := ok.th k hk; have h2 := ok.size; omega
 unfold AB.n
 rw [← h]
 exact m
theorem Bod.keep {w w' : World} {S B M : Nat} {b : AB} (h : Bod w S B M b) (h1 : w'.heap[B]? = w.heap[B]?) (h2 : w'.heap[M]? = w.heap[M]?) : Bod w' S B M b := ⟨h.c.below h1, h.m.of_block h2, h.ok⟩
theorem Bod.ltB {w : World} {S B M : Nat} {b : AB} (h : Bod w S B M b) : B < w.heap.size := World.block_lt_of_cell? w _ h.c.c0
theorem Bod.ltM {w : World} {S B M : Nat} {b : AB} (h : Bod w S B M b) : M < w.heap.size := h.m.lt
theorem Bod.below {w w' : World} {S B M X : Nat} {b : AB} (h : Bod w S B M b) (hb : Below X w w') (h1 : B < X) (h2 : M < X) : Bod w' S B M b := h.keep (hb.block B h1) (hb.block M h2)
theorem make_bytes (w : World) (n : Nat) (hn : n ≤ 1000000) :
  (Instr.makeSlice 80 (.int .i64 (n : Int)) (.int .i64 (n : Int))).run Tryz.prog w = .ok (.slice (some ⟨w.heap.size, 0, none⟩) n n) (w.alloc (.cells (rowF n (fun _ => 0)).toArray 5)) := by
 obtain ⟨i, hi, hz, hs, hb⟩ := info_parts (P := Tryz.prog) (e := 5) (z := .int .u8 0) (size := 1) (bytes := 1) (by kernel_rfl)
 have hr := run_make (P := Tryz.prog) w 80 5 i (.int .u8 0) Tryz.underlying80 hi hz .i64 .i64 n n (by omega) (Int.le_refl _) (by rw [hb]; omega) (by omega)
 rw [hr]
 simp only [Int.toNat_natCast, hs]
 congr 3
 apply Array.ext_getElem?
 intro j
 simp [madeCells, rowF, Value.cells, U8, Nat.mod_one, Array.getElem?_range, List.getElem?_range]
 by_cases h : j < n <;> simp [h]
def Row (w : World) (lo : Nat) (A : Option Addr) (n c : Nat) (f : Nat → UInt8) : Prop := n = c ∧ ((A = none ∧ n = 0) ∨ ∃ g, lo ≤ g ∧ A = some ⟨g, 0, none⟩ ∧ w.heap[g]? = some (.cells (rowF n f).toArray 5 (0, 0)))
def readR (b : AB) (off n : Int) : Int × Nat := if off < 0 ∨ n < 0 then (22, 0) else (0, min n.toNat (b.size - off.toNat))
def ReadE (w : World) (b : AB) (off n : Int) (e : Ending) (w' : World) : Prop :=
 ∃ A c, e = .returned (.tuple #[.slice A (readR b off n).2 c, .int .i64 (readR b off n).1]) ∧ Row w' w.heap.size A (readR b off n).2 c (fun j => b.dat (off.toNat + j)) ∧ Below w.heap.size w w'
theorem row_step {m g : Nat} {w : World} {f f' : Nat → UInt8} (h : w.heap[g]? = some (.cells (rowF m f).toArray 5 (0, 0))) (hf : ∀ j, j < m → f j = f' j) : w.heap[g]? = some (.cells (rowF m f').toArray 5 (0, 0)) := by
 rw [← rowF_congr hf]; exact h
theorem take_at (S B M g L s done : Nat) (b : AB) (f : Nat → UInt8) (w : World) (hb : Bod w S B M b) (ha : s + done ≤ 65536) (hg : w.heap[g]? = some (.cells (rowF L f).toArray 5 (0, 0))) (hd : done < L) :
  Calls Tryz.prog 157 #[Pq B, .int .i64 ((s : Int) + (done : Int)), .slice (some ⟨g, done, none⟩) (L - done) (L - done)] w (fun e w' => ∃ m : Nat, e = .returned (.int .i64 (m : Int)) ∧ 0 < m ∧ done + m ≤ L ∧
   w'.heap[g]? = some (.cells (rowF L (fun j => if done ≤ j ∧ j < done + m then b.dat (s + j) else f j)).toArray 5 (0, 0)) ∧ Below g w w') := by
 have h := take_any S B M b.size b.n (s + done) ((s + done) / 16) ((s + done) % 16) done (L - done) (L - done) g L b.th b.dat f w hb.c hb.m (by omega) (by omega) ha hg (by omega)
 rw [show ((s : Int) + (done : Int)) = ((s + done : Nat) : Int) from by omega]
 refine h.mono fun e w' ⟨he, h1, h2⟩ => ⟨_, he, by omega, by omega, row_step h1 fun j _ => ?_, h2⟩
 split
 ·congr 1; omega
 ·rfl
theorem read_any (S B M : Nat) (b : AB) (off n : Int) (w : World) (hb : Bod w S B M b) : Calls Tryz.prog 107 #[Pq S, Pq B, .int .i64 off, .int .i64 n] w (ReadE w b off n) := by
 have ho := owns_any S B M b.size w hb.c
 have hB := hb.ltB
 have hM := hb.ltM
 have hsz := hb.ok.size
 by_cases h0 : off < 0
 ·have HP := Lib.hid (show ReadE w b off n (.returned (.tuple #[.slice none 0 0, .int .i64 22])) w from by
   have : readR b off n = (22, 0) := by unfold readR; rw [if_pos (Or.inl h0)]
   refine ⟨none, 0, ?_, ?_, Below.refl _ _⟩
   ·rw [this]
   ·rw [this]; exact ⟨rfl, .inl ⟨rfl, rfl⟩⟩)
  clear hsz hB hM
  go_enter Tryz.func107, Tryz.ntmps107
  go_wp2
  go_ret2
  exact HP.out
 by_cases h1 : n < 0
 ·have HP := Lib.hid (show ReadE w b off n (.returned (.tuple #[.slice none 0 0, .int .i64 22])) w from by
   have : readR b off n = (22, 0) := by unfold readR; rw [if_pos (Or.inr h1)]
   refine ⟨none, 0, ?_, ?_, Below.refl _ _⟩
   ·rw [this]
   ·rw [this]; exact ⟨rfl, .inl ⟨rfl, rfl⟩⟩)
  clear hsz hB hM
  go_enter Tryz.func107, Tryz.ntmps107
  go_wp2
  go_ret2
  exact HP.out
 obtain ⟨s, rfl⟩ : ∃ s : Nat, off = (s : Int) := ⟨off.toNat, by omega⟩
 obtain ⟨q, rfl⟩ : ∃ q : Nat, n = (q : Int) := ⟨n.toNat, by omega⟩
 have hR : readR b (s : Int) (q : Int) = (0, min q (b.size - s)) := by unfold readR; rw [if_neg (by omega)]; simp
 have c1 := hb.c.c1
 by_cases h2 : b.size ≤ s
 ·have HP := Lib.hid (show ReadE w b (s : Int) (q : Int) (.returned (.tuple #[.slice none 0 0, .int .i64 0])) w from by
   have : readR b (s : Int) (q : Int) = (0, 0) := by rw [hR, show min q (b.size - s) = 0 from by omega]
   refine ⟨none, 0, ?_, ?_, Below.refl _ _⟩
   ·rw [this]
   ·rw [this]; exact ⟨rfl, .inl ⟨rfl, rfl⟩⟩)
  clear hsz hB hM hR
  have h2b : (b.size : Int) ≤ (s : Int) := by omega
  have h2c : ¬ ((s : Int) < (b.size : Int)) := by omega
  go_enter Tryz.func107, Tryz.ntmps107
  go_wp2_with (go_at_call 156; ((with_reducible refine ho.mono ?_); rintro e w' ⟨rfl, rfl⟩))
  go_ret2
  exact HP.out
 obtain ⟨m, hm⟩ : ∃ m, m = min q (b.size - s) := ⟨_, rfl⟩
 have hmk := make_bytes w m (by omega)
 have HR := Lib.hid hR
 have HM := Lib.hid hm
 have hms : s + m ≤ 65536 := by omega
 have h2b : ¬ (b.size : Int) ≤ (s : Int) := by omega
 have h2c : ((s : Int) < (b.size : Int)) := by omega
 have HG := Lib.hid (heap_alloc_last w (.cells (rowF m (fun _ => 0)).toArray 5))
 have HB := Lib.hid (hb.below (below_one w (.cells (rowF m (fun _ => 0)).toArray 5)) hB hM)
 have HBL := Lib.hid (below_one w (.cells (rowF m (fun _ => 0)).toArray 5))
 have HF := Lib.hid (show ∀ w', w'.heap[w.heap.size]? = some (.cells (rowF m (fun j => if j < m then b.dat (s + j) else 0)).toArray 5 (0, 0)) → Below w.heap.size w w' →
   ReadE w b (s : Int) (q : Int) (.returned (.tuple #[.slice (some ⟨w.heap.size, 0, none⟩) m m, .int .i64 0])) w' from fun w' hg hbl => by
  refine ⟨some ⟨w.heap.size, 0, none⟩, m, ?_, ?_, hbl⟩
  ·rw [hR, ← hm]
  ·rw [hR, ← hm]
   exact ⟨rfl, .inr ⟨w.heap.size, Nat.le_refl _, rfl, row_step hg fun j hj => by rw [if_pos hj, Int.toNat_natCast]⟩⟩)
 have h2d : decide (b.size ≤ s) = false := by simp; omega
 have key : (m = q ∧ (q : Int) ≤ (b.size : Int) - (s : Int)) ∨ ((b.size : Int) - (s : Int) = (m : Int) ∧ ¬ ((q : Int) ≤ (m : Int))) := by omega
 clear hR hm hb h2
 rcases key with ⟨rfl, hle⟩ | ⟨hd, hlt⟩
 ·go_enter Tryz.func107, Tryz.ntmps107
  go_wp2_with (go_at_call 156; ((with_reducible refine ho.mono ?_); rintro e w' ⟨rfl, rfl⟩))
  clear hmk
  generalize hW : w.alloc (.cells (rowF m (fun _ => 0)).toArray 5) = W at *
  have HW := Lib.hid hW
  clear hW
  go_loopg [12] m (fun g s12 wr => ∃ done : Nat, g + done = m ∧ s12 = .int .i64 (done : Int) ∧ Hid (wr.heap[w.heap.size]? = some (.cells (rowF m (fun j => if j < done then b.dat (s + j) else 0)).toArray 5 (0, 0))) ∧ Hid (Below w.heap.size w wr) ∧ Hid (Bod wr S B M b))
  case atStart => exact ⟨0, by omega, rfl, Lib.hid (row_step HG.out fun j _ => by simp), HBL, HB⟩
  case round =>
   clear HG HBL HB
   obtain ⟨done, hg, rfl, HG, HBL, HB⟩ := hrel
   by_cases hlt : done < m
   ·have HT := Lib.hid (take_at S B M w.heap.size m s done b _ wr HB.out (by omega) HG.out hlt)
    have hne : ¬ m = done := by omega
    go_wp2_with fail
    refine HT.out.mono ?_
    rintro e w4 ⟨p, rfl, hp0, hp1, hrow, hb4⟩
    have HR4 := Lib.hid hrow
    have HB4 := Lib.hid hb4
    have HX := Lib.hid (HB.out.below hb4 hB hM)
    clear hrow hb4 HT
    go_wp2_with fail
    go_roundg (gk - p)
    case measure => omega
    case rel => exact ⟨done + p, by omega, by go_num, Lib.hid (row_step HR4.out fun j hj => by
     by_cases h1 : j < done
     ·rw [if_neg (by omega), if_pos h1, if_pos (by omega)]
     ·by_cases h2 : j < done + p
      ·rw [if_pos (by omega), if_pos h2]
      ·rw [if_neg (by omega), if_neg h1, if_neg h2]), Lib.hid (below_step HBL.out HB4.out), HX⟩
   ·have hdone : done = m := by omega
    have HE := Lib.hid (HF.out wr (row_step HG.out fun j hj => by rw [if_pos (by omega), if_pos hj]) HBL.out)
    clear hdone
    go_wp2_with fail
    go_ret2
    exact HE.out
 ·go_enter Tryz.func107, Tryz.ntmps107
  go_wp2_with (go_at_call 156; ((with_reducible refine ho.mono ?_); rintro e w' ⟨rfl, rfl⟩))
  clear hmk
  generalize hW : w.alloc (.cells (rowF m (fun _ => 0)).toArray 5) = W at *
  have HW := Lib.hid hW
  clear hW
  go_loopg [12] m (fun g s12 wr => ∃ done : Nat, g + done = m ∧ s12 = .int .i64 (done : Int) ∧ Hid (wr.heap[w.heap.size]? = some (.cells (rowF m (fun j => if j < done then b.dat (s + j) else 0)).toArray 5 (0, 0))) ∧ Hid (Below w.heap.size w wr) ∧ Hid (Bod wr S B M b))
  case atStart => exact ⟨0, by omega, rfl, Lib.hid (row_step HG.out fun j _ => by simp), HBL, HB⟩
  case round =>
   clear HG HBL HB
   obtain ⟨done, hg, rfl, HG, HBL, HB⟩ := hrel
   by_cases hlt : done < m
   ·have HT := Lib.hid (take_at S B M w.heap.size m s done b _ wr HB.out (by omega) HG.out hlt)
    have hne : ¬ m = done := by omega
    go_wp2_with fail
    refine HT.out.mono ?_
    rintro e w4 ⟨p, rfl, hp0, hp1, hrow, hb4⟩
    have HR4 := Lib.hid hrow
    have HB4 := Lib.hid hb4
    have HX := Lib.hid (HB.out.below hb4 hB hM)
    clear hrow hb4 HT
    go_wp2_with fail
    go_roundg (gk - p)
    case measure => omega
    case rel => exact ⟨done + p, by omega, by go_num, Lib.hid (row_step HR4.out fun j hj => by
     by_cases h1 : j < done
     ·rw [if_neg (by omega), if_pos h1, if_pos (by omega)]
     ·by_cases h2 : j < done + p
      ·rw [if_pos (by omega), if_pos h2]
      ·rw [if_neg (by omega), if_neg h1, if_neg h2]), Lib.hid (below_step HBL.out HB4.out), HX⟩
   ·have hdone : done = m := by omega
    have HE := Lib.hid (HF.out wr (row_step HG.out fun j hj => by rw [if_pos (by omega), if_pos hj]) HBL.out)
    clear hdone
    go_wp2_with fail
    go_ret2
    exact HE.out
end Go.Proofs.YtpmpbmjjlccbbaaGreat.bl
