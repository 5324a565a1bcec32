/- A chunk is made where there is room; the end of a chunk is cleared. The small functions of the package, and those that tell. A body told by its size, its chunks, its bytes; and Read. Cut and Free. Write. -/
import Derived.Test.YtlnlehoekchdeaaGreatZ08
import Derived.OwnWalk
import Derived.LaidEqlPtr
import Derived.Laws.AppendOwn
section
namespace Go.Proofs.YtlnlehoekchdeaaGreat.bl
open Go.RowKit
set_option linter.unusedVariables false
set_option linter.unusedSimpArgs false


theorem below_one (w : World) (o : Obj) : Below w.heap.size w (w.alloc o) := (Below.refl _ _).alloc (Nat.le_refl _) _
theorem StoC.set {w : World} {S room used : Nat} (h : StoC w S room used) (u : Nat) : StoC (w.setCell ⟨S, 1, none⟩ (.int .i64 (u : Int))) S room u := by
  have h0 := h.c0
  have h1 := h.c1
  have hf := h.f1
  exact ⟨(World.cell?_setCell_other _ _ _ _ (by intro e; injection e with _ e; simp at e)).trans h0, World.cell?_setCell_same _ _ _ h1, (World.frozen?_setCell _ _ _ _).trans hf⟩
theorem set_block {w : World} {a : Addr} {u : Value} {M : Nat} (h : M ≠ a.block) : (w.setCell a u).heap[M]? = w.heap[M]? := Below.heap_setCell w a u M h
theorem BodC.below {w w' : World} {S B M n : Nat} (h : BodC w S B M n) (hb : w'.heap[B]? = w.heap[B]?) : BodC w' S B M n :=
  ⟨(World.cell?_of_block (a := ⟨B, 0, none⟩) hb).trans h.c0, (World.cell?_of_block (a := ⟨B, 1, none⟩) hb).trans h.c1, (World.cell?_of_block (a := ⟨B, 2, none⟩) hb).trans h.c2, (World.frozen?_of_block (a := ⟨B, 1, none⟩) hb).trans h.f1⟩
theorem StoC.below {w w' : World} {S room used : Nat} (h : StoC w S room used) (hb : w'.heap[S]? = w.heap[S]?) : StoC w' S room used :=
  ⟨(World.cell?_of_block (a := ⟨S, 0, none⟩) hb).trans h.c0, (World.cell?_of_block (a := ⟨S, 1, none⟩) hb).trans h.c1, (World.frozen?_of_block (a := ⟨S, 1, none⟩) hb).trans h.f1⟩
theorem BodC.set {w : World} {S B M n : Nat} (h : BodC w S B M n) (u : Nat) : BodC (w.setCell ⟨B, 1, none⟩ (.int .i64 (u : Int))) S B M u :=
  ⟨(World.cell?_setCell_other _ _ _ _ (by intro e; injection e with _ e; simp at e)).trans h.c0, World.cell?_setCell_same _ _ _ h.c1, (World.cell?_setCell_other _ _ _ _ (by intro e; injection e with _ e; simp at e)).trans h.c2, (World.frozen?_setCell _ _ _ _).trans h.f1⟩

/-- Cleared from r on. -/
def wiped (dat : Nat → UInt8) (a k : Nat) : Nat → UInt8 := fun i => if a ≤ i ∧ i / 16 = k then 0 else dat i
set_option maxRecDepth 100000 in
theorem zero5 (w : World) : (zeroValue 5).run Tryz.prog w = .ok (U8 0) w := by kernel_rfl
set_option maxRecDepth 100000 in
theorem clear_chunk (w : World) (dat : Nat → UInt8) (k r a : Nat) (ty : TypeId) (hr : r < 16) (ha : a = 16 * k + r) :
    (Builtin.clear_ #[93] ty #[.slice (some ⟨w.heap.size, r, none⟩) (16 - r) (16 - r)]).run Tryz.prog (w.alloc (.cells (chunkA dat k) 182)) = .ok (.tuple #[]) (w.alloc (.cells (chunkA (wiped dat a k) k) 182)) := by
  obtain ⟨m, hm⟩ : ∃ m, 16 - r = m + 1 := ⟨15 - r, by omega⟩
  have hz : (Builtin.zeroCells (U8 0).cells (m + 1)).toList = rowF (m + 1) (fun _ => 0) := by
    unfold rowF
    apply List.ext_getElem?
    intro j
    simp [Builtin.zeroCells, U8, Value.cells, Nat.mod_one]
  have hst := run_storeCells_at Tryz.prog w.heap.size r 182 (rowF (m + 1) (fun _ => 0)) 0 (chunkA dat k) (w.alloc (.cells (chunkA dat k) 182)) (heap_alloc_last w _) (by rw [rowF_length, chunkA_size]; omega) rowF_one
  have hsp : splice (chunkL dat k) r (rowF (m + 1) (fun _ => 0)) = chunkL (wiped dat a k) k :=
    splice_rowF (L := 16) (off := r) (m := m + 1) (fun j => dat (16 * k + j)) (fun _ => 0) (fun j => wiped dat a k (16 * k + j)) (by omega) (fun j hj => by
      unfold wiped
      by_cases h : r ≤ j ∧ j < r + (m + 1)
      · rw [if_pos (by omega), if_pos h]
      · rw [if_neg (by omega), if_neg h])
  have hx : ((chunkA dat k).toList.take (r + 0) ++ rowF (m + 1) (fun _ => 0) ++ (chunkA dat k).toList.drop (r + 0 + (rowF (m + 1) (fun _ => 0)).length)).toArray = chunkA (wiped dat a k) k := by
    unfold chunkA
    rw [← hsp]
    simp [splice]
  rw [hx, World.setRow_alloc_new] at hst
  rw [hm]
  unfold Builtin.clear_
  have hz2 : (Builtin.zeroCells (Value.int IntKind.u8 0).cells (m + 1)).toList = rowF (m + 1) fun x => 0 := hz
  simp [run_underlying Tryz.underlying93, zero5, hz2, hst]
set_option maxRecDepth 100000 in
set_option maxHeartbeats 1000000 in
theorem wipe_hole (S B M n N a k : Nat) (th : Nat → Bool) (dat : Nat → UInt8) (w : World) (hb : BodC w S B M n) (hM : MapAt w M th dat N) (hk : (a : Int) / 16 = k) (ha : a ≤ 65536) (ht : th k = false) :
    Calls Tryz.prog 116 #[Pq B, .int .i64 (a : Int)] w (fun e w' => e = .returned (.tuple #[]) ∧ Below w.heap.size w w') := by
  have hlook := hM.look k true
  rw [ht] at hlook
  simp only [if_true] at hlook
  have h2 := hb.c2
  have hst := store_chunk w dat k
  have hsz := chunkA_size dat k
  go_enter Tryz.func116, Tryz.ntmps116
  go_wp2
  go_end0
  exact ⟨rfl, below_one _ _⟩
set_option maxRecDepth 100000 in
set_option maxHeartbeats 1000000 in
theorem wipe_there (S B M n N a k r : Nat) (th : Nat → Bool) (dat : Nat → UInt8) (w : World) (hb : BodC w S B M n) (hM : MapAt w M th dat N) (hk : (a : Int) / 16 = k) (hr : (a : Int) % 16 = r) (ha : a ≤ 65536) (ht : th k = true) :
    Calls Tryz.prog 116 #[Pq B, .int .i64 (a : Int)] w (fun e w' => e = .returned (.tuple #[]) ∧ MapAt w' M th (wiped dat a k) N ∧ Only (· = M) w w') := by
  have hlook := hM.look k true
  rw [ht] at hlook
  simp only [if_true] at hlook
  have h2 := hb.c2
  have hBl := World.block_lt_of_cell? w _ h2
  have har : a = 16 * k + r := by omega
  have hr16 : r < 16 := by omega
  have hst := store_chunk w dat k
  have hsz := chunkA_size dat k
  have hsl := slice_chunk (w.alloc (.cells (chunkA dat k) 182)) w.heap.size r hr16
  have hcl := clear_chunk w dat k r a 0 hr16 har
  have hb1 := (below_one w (.cells (chunkA (wiped dat a k) k) 182)).drew
  have hM1 : MapAt (w.alloc (.cells (chunkA (wiped dat a k) k) 182)).drew M th dat N := hM.of_block (hb1.block _ hM.lt)
  obtain ⟨w3, hput, hM3, ho3⟩ := hM1.put (dat' := wiped dat a k) k (fun i hi => by unfold wiped; rw [if_neg (by omega)])
  have hM4 : MapAt w3 M th (wiped dat a k) N := by
    rw [addN, if_pos ht] at hM3
    exact hM3.ext (fun x => by unfold updB; by_cases e : x = k <;> simp [e, ht]) (fun _ => rfl)
  obtain ⟨V, hV, hcell⟩ := chunk_cells (w := (w.alloc (.cells (chunkA (wiped dat a k) k) 182)).drew) (heap_alloc_last w _)
  have hc2 : (w.alloc (.cells (chunkA (wiped dat a k) k) 182)).drew.cell? ⟨B, 2, none⟩ = some (.map (some M)) := (hb1.cell (p := ⟨B, 2, none⟩) hBl).trans h2
  have HM := Lib.hid hM4
  have HO := Lib.hid ((Only.of_below hb1).trans ho3)
  have HV := Lib.hid hV
  have HC := Lib.hid hcell
  clear hM4 hM3 ho3 hM1 hcell hV
  generalize hw2 : w.alloc (.cells (chunkA (wiped dat a k) k) 182) = w2 at *
  have HW := Lib.hid hw2
  have HAR := Lib.hid har
  clear hw2 har
  go_enter Tryz.func116, Tryz.ntmps116
  go_wp2
  have hV := HV.out
  rw [hV] at hput
  have c0 := HC.out 0 (by omega)
  have c1 := HC.out 1 (by omega)
  have c2 := HC.out 2 (by omega)
  have c3 := HC.out 3 (by omega)
  have c4 := HC.out 4 (by omega)
  have c5 := HC.out 5 (by omega)
  have c6 := HC.out 6 (by omega)
  have c7 := HC.out 7 (by omega)
  have c8 := HC.out 8 (by omega)
  have c9 := HC.out 9 (by omega)
  have c10 := HC.out 10 (by omega)
  have c11 := HC.out 11 (by omega)
  have c12 := HC.out 12 (by omega)
  have c13 := HC.out 13 (by omega)
  have c14 := HC.out 14 (by omega)
  have c15 := HC.out 15 (by omega)
  clear hV hsl hst hlook hcl hsz
  go_region
  go_wp2
  go_end0
  exact ⟨rfl, HM.out, HO.out⟩
end Go.Proofs.YtlnlehoekchdeaaGreat.bl
end
section
namespace Go.Proofs.YtlnlehoekchdeaaGreat.bl
open Go.RowKit
set_option linter.unusedVariables false
set_option linter.unusedSimpArgs false


theorem ret_int {a b : Int} (h : a = b) : Ending.returned (.int .i64 a) = .returned (.int .i64 b) := by rw [h]
set_option maxRecDepth 100000 in
theorem chunksTo_any (n : Nat) (w : World) (hn : n ≤ 1000000) : Calls Tryz.prog 115 #[.int .i64 (n : Int)] w (fun e w' => e = .returned (.int .i64 (((n + 15) / 16 : Nat) : Int)) ∧ w = w') := by
  go_enter Tryz.func115, Tryz.ntmps115
  go_wp2
  go_ret
  exact ⟨ret_int (show ((n : Int) + 16 - 1) / 16 = _ by omega), rfl⟩
set_option maxRecDepth 100000 in
theorem eq_ptr (S : Nat) (w : World) : (binOp .eql 80 (Pq S) (Pq S)).run Tryz.prog w = .ok (.bool true) w := by
  have h : (Tryz.prog.info? 142).isSome = true := by kernel_rfl
  obtain ⟨j, hj⟩ := Option.isSome_iff_exists.1 h
  exact run_eql_ptr_same w ⟨S, 0, none⟩ Tryz.underlying80 hj
set_option maxRecDepth 100000 in
theorem owns_any (S B M n : Nat) (w : World) (hb : BodC w S B M n) : Calls Tryz.prog 114 #[Pq S, Pq B] w (fun e w' => e = .returned (.bool true) ∧ w = w') := by
  have h0 := hb.c0
  have he := eq_ptr S w
  go_enter Tryz.func114, Tryz.ntmps114
  go_wp2
  go_ret
  exact ⟨rfl, rfl⟩
set_option maxRecDepth 100000 in
theorem body_any (S : Nat) (w : World) : Calls Tryz.prog 81 #[Pq S] w (fun e w' => e = .returned (Pq (w.heap.size + 1)) ∧ w' = (w.alloc (.map #[] 0)).alloc (.cells #[Pq S, .int .i64 0, .map (some w.heap.size)] 160)) := by
  have hm := run_makeMap (P := Tryz.prog) 158 w
  go_enter Tryz.func81, Tryz.ntmps81
  go_wp2
  go_ret
  exact ⟨by simp, rfl⟩
set_option maxRecDepth 100000 in
theorem new_yes (room : Nat) (w : World) (hr : room ≤ 65536) : Calls Tryz.prog 49 #[.int .i64 (room : Int)] w (fun e w' => e = .returned (Pq w.heap.size) ∧ w' = w.alloc (.cells #[.int .i64 (room : Int), .int .i64 0] 142)) := by
  have h1 : ¬ ((65536 : Int) < (room : Int)) := by omega
  have h0 : ¬ ((room : Int) < 0) := by omega
  go_enter Tryz.func49, Tryz.ntmps49
  go_wp2
  go_ret
  exact ⟨rfl, rfl⟩
set_option maxRecDepth 100000 in
theorem new_no (room : Int) (w : World) (hr : room < 0 ∨ 65536 < room) : Calls Tryz.prog 49 #[.int .i64 room] w (fun e w' => e = .returned (.pointer none) ∧ w = w') := by
  by_cases h : room < 0
  · go_enter Tryz.func49, Tryz.ntmps49
    go_wp2
    go_ret
    exact ⟨rfl, rfl⟩
  · have h2 : 65536 < room := by omega
    go_enter Tryz.func49, Tryz.ntmps49
    go_wp2
    go_ret
    exact ⟨rfl, rfl⟩
end Go.Proofs.YtlnlehoekchdeaaGreat.bl
end
section
namespace Go.Proofs.YtlnlehoekchdeaaGreat.bl
open Go.RowKit
set_option linter.unusedVariables false
set_option linter.unusedSimpArgs false


/-- What a body is: its size, which chunks are there, its bytes. -/
structure AB where
  size : Nat
  th : Nat → Bool
  dat : Nat → UInt8
def AB.n (b : AB) : Nat := cnt 4096 b.th
structure AB.Ok (b : AB) : Prop where
  size : b.size ≤ 65536
  th : ∀ k, b.th k = true → 16 * k < b.size
  dat : ∀ i, b.size ≤ i → b.dat i = 0
theorem below_step {w0 w w' : World} {X : Nat} (h : Below X w0 w) (hb : Below X w w') : Below X w0 w' := h.trans hb
structure Bod (w : World) (S B M : Nat) (b : AB) : Prop where
  c : BodC w S B M b.size
  m : MapAt w M b.th b.dat b.n
  ok : b.Ok
theorem Bod.of {w : World} {S B M N : Nat} {b : AB} (c : BodC w S B M b.size) (m : MapAt w M b.th b.dat N) (ok : b.Ok) : Bod w S B M b := by
  refine ⟨c, ?_, ok⟩
  have h := m.cnt (N := 4096) fun k hk => by have h1 := ok.th k hk; have h2 := ok.size; omega
  unfold AB.n
  rw [← h]
  exact m
theorem Bod.keep {w w' : World} {S B M : Nat} {b : AB} (h : Bod w S B M b) (h1 : w'.heap[B]? = w.heap[B]?) (h2 : w'.heap[M]? = w.heap[M]?) : Bod w' S B M b := ⟨h.c.below h1, h.m.of_block h2, h.ok⟩
theorem Bod.ltB {w : World} {S B M : Nat} {b : AB} (h : Bod w S B M b) : B < w.heap.size := World.block_lt_of_cell? w _ h.c.c0
theorem Bod.ltM {w : World} {S B M : Nat} {b : AB} (h : Bod w S B M b) : M < w.heap.size := h.m.lt
theorem Bod.below {w w' : World} {S B M X : Nat} {b : AB} (h : Bod w S B M b) (hb : Below X w w') (h1 : B < X) (h2 : M < X) : Bod w' S B M b := h.keep (hb.block B h1) (hb.block M h2)

set_option maxRecDepth 100000 in
theorem make_bytes (w : World) (n : Nat) (hn : n ≤ 1000000) :
    (Instr.makeSlice 93 (.int .i64 (n : Int)) (.int .i64 (n : Int))).run Tryz.prog w = .ok (.slice (some ⟨w.heap.size, 0, none⟩) n n) (w.alloc (.cells (rowF n (fun _ => 0)).toArray 5)) := by
  obtain ⟨i, hi, hz, hs, hb⟩ := info_parts (P := Tryz.prog) (e := 5) (z := .int .u8 0) (size := 1) (bytes := 1) (by kernel_rfl)
  have hr := run_make (P := Tryz.prog) w 93 5 i (.int .u8 0) Tryz.underlying93 hi hz .i64 .i64 n n (by omega) (Int.le_refl _) (by rw [hb]; omega) (by omega)
  rw [hr]
  simp only [Int.toNat_natCast, hs]
  congr 3
  apply Array.ext_getElem?
  intro j
  simp [madeCells, rowF, Value.cells, U8, Nat.mod_one, Array.getElem?_range, List.getElem?_range]
  by_cases h : j < n <;> simp [h]

/-- A row of bytes of the call's own. -/
def Row (w : World) (lo : Nat) (A : Option Addr) (n c : Nat) (f : Nat → UInt8) : Prop := n = c ∧ ((A = none ∧ n = 0) ∨ ∃ g, lo ≤ g ∧ A = some ⟨g, 0, none⟩ ∧ w.heap[g]? = some (.cells (rowF n f).toArray 5 (0, 0)))
def readR (b : AB) (off n : Int) : Int × Nat := if off < 0 ∨ n < 0 then (22, 0) else (0, min n.toNat (b.size - off.toNat))
def ReadE (w : World) (b : AB) (off n : Int) (e : Ending) (w' : World) : Prop :=
  ∃ A c, e = .returned (.tuple #[.slice A (readR b off n).2 c, .int .i64 (readR b off n).1]) ∧ Row w' w.heap.size A (readR b off n).2 c (fun j => b.dat (off.toNat + j)) ∧ Below w.heap.size w w'

theorem row_step {m g : Nat} {w : World} {f f' : Nat → UInt8} (h : w.heap[g]? = some (.cells (rowF m f).toArray 5 (0, 0))) (hf : ∀ j, j < m → f j = f' j) : w.heap[g]? = some (.cells (rowF m f').toArray 5 (0, 0)) := by
  rw [← rowF_congr hf]; exact h

end Go.Proofs.YtlnlehoekchdeaaGreat.bl
end
section
namespace Go.Proofs.YtlnlehoekchdeaaGreat.bl
open Go.RowKit
set_option linter.unusedVariables false
set_option linter.unusedSimpArgs false


def cutB (b : AB) (n : Nat) : AB := ⟨n, fun k => b.th k && decide (16 * k < n), fun i => if i < n then b.dat i else 0⟩
def cut (b : AB) (off : Int) : AB := if 0 ≤ off ∧ off ≤ 65536 then cutB b off.toNat else b
def cutR (off : Int) : Int := if off < 0 then 22 else if 65536 < off then 27 else 0
theorem cnt_le {N : Nat} {f g : Nat → Bool} (h : ∀ k, f k = true → g k = true) : cnt N f ≤ cnt N g := by
  unfold cnt
  rw [← List.countP_eq_length_filter, ← List.countP_eq_length_filter]
  exact List.countP_mono_left fun x _ hx => h x hx
theorem StoC.drew {w : World} {S room used : Nat} (h : StoC w S room used) : StoC w.drew S room used := ⟨h.c0, h.c1, h.f1⟩
theorem BodC.drew {w : World} {S B M n : Nat} (h : BodC w S B M n) : BodC w.drew S B M n := ⟨h.c0, h.c1, h.c2, h.f1⟩
def fp (S B M : Nat) (x : Nat) : Prop := x = S ∨ x = B ∨ x = M
/-- Behind a call that may have turned a body and its store. -/
structure BodE (w : World) (S B M room used : Nat) (b b' : AB) (w' : World) : Prop where
  s : StoC w' S room (used + b'.n - b.n)
  b : Bod w' S B M b'
  o : Only (fp S B M) w w'
def CutE (w : World) (S B M room used : Nat) (b : AB) (off : Int) (e : Ending) (w' : World) : Prop :=
  e = .returned (.int .i64 (cutR off)) ∧ BodE w S B M room used b (cut b off) w'

def delT (b : AB) (c k : Nat) : Nat → Bool := fun x => b.th x && !(decide (c ≤ x ∧ x < k))
def delD (b : AB) (c k : Nat) : Nat → UInt8 := fun i => if c ≤ i / 16 ∧ i / 16 < k then 0 else b.dat i

theorem cnt_congr {N : Nat} {f g : Nat → Bool} (h : ∀ k, f k = g k) : cnt N f = cnt N g := by
  obtain rfl : f = g := funext h
  rfl
theorem delT_cut {b : AB} {n c k : Nat} (ok : b.Ok) (hc : c = (n + 15) / 16) (hck : c ≤ k) (hk : (b.size + 15) / 16 ≤ k) (x : Nat) : delT b c k x = (cutB b n).th x := by
  show (b.th x && !(decide (c ≤ x ∧ x < k))) = (b.th x && decide (16 * x < n))
  cases hx : b.th x
  · rfl
  · have h1 := ok.th x hx
    by_cases h : 16 * x < n
    · have h2 : ¬ (c ≤ x ∧ x < k) := by omega
      simp [h, h2]
    · have h2 : (c ≤ x ∧ x < k) := by omega
      simp [h, h2]
set_option maxRecDepth 100000 in
theorem wipe_any (S B M n N a : Nat) (th : Nat → Bool) (dat : Nat → UInt8) (w : World) (hb : BodC w S B M n) (hM : MapAt w M th dat N) (ha : a ≤ 65536) :
    Calls Tryz.prog 116 #[Pq B, .int .i64 (a : Int)] w (fun e w' => e = .returned (.tuple #[]) ∧ MapAt w' M th (wiped dat a (a / 16)) N ∧ Only (· = M) w w') := by
  cases ht : th (a / 16)
  · refine (wipe_hole S B M n N a (a / 16) th dat w hb hM (by omega) ha ht).mono fun e w' ⟨he, hbl⟩ => ⟨he, ?_, Only.of_below hbl⟩
    refine (hM.of_block (hbl.block M hM.lt)).ext (fun _ => rfl) fun i => ?_
    unfold wiped
    split
    · next h =>
      have := hM.holes (a / 16) ht (i % 16) (by omega)
      rw [show 16 * (a / 16) + i % 16 = i from by omega] at this
      exact this.symm
    · rfl
  · exact wipe_there S B M n N a (a / 16) (a % 16) th dat w hb hM (by omega) (by omega) ha ht
set_option maxHeartbeats 1000000 in
set_option maxRecDepth 100000 in
theorem cut_any (S B M room used : Nat) (b : AB) (off : Int) (w : World) (hb : Bod w S B M b) (hs : StoC w S room used) (hu : b.n ≤ used) (hr : used ≤ 65536) (hSB : S ≠ B) (hSM : S ≠ M) (hBM : B ≠ M) :
    Calls Tryz.prog 108 #[Pq S, Pq B, .int .i64 off] w (CutE w S B M room used b off) := by
  have ho := owns_any S B M b.size w hb.c
  have hSl := World.block_lt_of_cell? w _ hs.c0
  have hB := hb.ltB
  have hM := hb.ltM
  have hsz := hb.ok.size
  have HSAME := Lib.hid (show ∀ e v, cut b off = b → cutR off = v → e = .returned (.int .i64 v) → CutE w S B M room used b off e w from fun e v h1 h2 he =>
    ⟨by rw [h2]; exact he, by rw [h1, Nat.add_sub_cancel]; exact hs, by rw [h1]; exact hb, Only.refl _ _⟩)
  by_cases h0 : off < 0
  · have HP := Lib.hid (HSAME.out _ 22 (by unfold cut; rw [if_neg (by omega)]) (by unfold cutR; rw [if_pos h0]) rfl)
    clear hsz hB hM hSB hSM hBM
    go_enter Tryz.func108, Tryz.ntmps108
    go_wp2
    go_ret
    exact HP.out
  by_cases h1 : 65536 < off
  · have HP := Lib.hid (HSAME.out _ 27 (by unfold cut; rw [if_neg (by omega)]) (by unfold cutR; rw [if_neg (by omega), if_pos h1]) rfl)
    clear hsz hB hM hSB hSM hBM
    go_enter Tryz.func108, Tryz.ntmps108
    go_wp2_with (go_at_call 114; ((with_reducible refine ho.mono ?_); rintro e w' ⟨rfl, rfl⟩))
    go_ret
    exact HP.out
  obtain ⟨n, rfl⟩ : ∃ n : Nat, off = (n : Int) := ⟨off.toNat, by omega⟩
  have hn : n ≤ 65536 := by omega
  have hcut : cut b (n : Int) = cutB b n := by unfold cut; rw [if_pos (by omega), Int.toNat_natCast]
  have hcutR : cutR (n : Int) = 0 := by unfold cutR; rw [if_neg (by omega), if_neg (by omega)]
  have c1 := hb.c.c1
  have c2 := hb.c.c2
  have hlen := hb.m.len 3
  have hck := chunksTo_any n w (by omega)
  have HCUT := Lib.hid hcut
  have HCR := Lib.hid hcutR
  have HB := Lib.hid hb
  have HS := Lib.hid hs
  have HNE := Lib.hid (show S ≠ B ∧ S ≠ M ∧ B ≠ M from ⟨hSB, hSM, hBM⟩)
  clear hcut hcutR hb hs HSAME hSB hSM hBM
  obtain ⟨c, hc⟩ : ∃ c, c = (n + 15) / 16 := ⟨_, rfl⟩
  obtain ⟨d, hd⟩ : ∃ d, d = (b.size + 15) / 16 := ⟨_, rfl⟩
  rw [← hc] at hck
  have HC := Lib.hid hc
  have HD := Lib.hid hd
  have hcl : c ≤ 4096 := by omega
  have hdl : d ≤ 4096 := by omega
  clear hc hd
  go_enter Tryz.func108, Tryz.ntmps108
  go_wp2_with (first | (go_at_call 114; ((with_reducible refine ho.mono ?_); rintro e w' ⟨rfl, rfl⟩)) | (go_at_call 115; ((with_reducible refine hck.mono ?_); rintro e w' ⟨rfl, rfl⟩)))
  clear ho hck hlen
  go_loopg [9] (4096 - c) (fun g s9 wr => ∃ (k N : Nat), g + k = 4096 ∧ c ≤ k ∧ s9 = .int .i64 (k : Int) ∧ (k ≤ d ∨ k = c) ∧ Hid (MapAt wr M (delT b c k) (delD b c k) N) ∧ Hid (Only (· = M) w wr))
  case atStart => exact ⟨c, b.n, by omega, by omega, rfl, by omega, Lib.hid (HB.out.m.ext (fun x => by unfold delT; simp; omega) (fun i => by unfold delD; rw [if_neg (by omega)])), Lib.hid (Only.refl _ _)⟩
  case round =>
    obtain ⟨k, N, hg, hck, rfl, hkd, HM, HO⟩ := hrel
    have hbB := HO.out.block B hB HNE.out.2.2
    have hc2 := (World.cell?_of_block (a := ⟨B, 2, none⟩) hbB).trans c2
    have hc1 := (World.cell?_of_block (a := ⟨B, 1, none⟩) hbB).trans c1
    have HCK := Lib.hid (show Calls Tryz.prog 115 #[.int .i64 (b.size : Int)] wr (fun e w' => e = .returned (.int .i64 (d : Int)) ∧ wr = w') by rw [HD.out]; exact chunksTo_any b.size wr (by omega))
    by_cases hlt : k < d
    · obtain ⟨w3, hdel, hM3, hO3⟩ := HM.out.del (dat' := delD b c (k + 1)) k (fun i hi => by
        unfold delD
        by_cases h : c ≤ i / 16 ∧ i / 16 < k
        · rw [if_pos (by omega), if_pos h]
        · rw [if_neg (by omega), if_neg h]) (fun j hj => by unfold delD; rw [if_pos (by omega)]) 0
      have HM3 := Lib.hid (hM3.ext (th' := delT b c (k + 1)) (fun x => by
        unfold updB delT
        by_cases e : x = k
        · subst e
          have : decide (c ≤ x ∧ x < x + 1) = true := by simp; omega
          rw [this, if_pos rfl]; simp
        · have : decide (c ≤ x ∧ x < k + 1) = decide (c ≤ x ∧ x < k) := decide_eq_decide.2 (by omega)
          rw [this, if_neg e]) (fun _ => rfl))
      have HO3 := Lib.hid (HO.out.trans hO3)
      clear hM3 hO3 hbB
      go_wp2_with (go_at_call 115; ((with_reducible refine HCK.out.mono ?_); rintro e w' ⟨rfl, rfl⟩))
      go_roundg (gk - 1)
      case measure => omega
      case rel => exact ⟨k + 1, _, by omega, by omega, by go_num, by omega, HM3, HO3⟩
    · have hN : N = cnt 4096 (delT b c k) := HM.out.cnt fun x hx => by
        unfold delT at hx
        simp only [Bool.and_eq_true] at hx
        have h1 := HB.out.ok.th x hx.1
        omega
      have hNb : N ≤ b.n := by rw [hN]; exact cnt_le fun x hx => by unfold delT at hx; simp only [Bool.and_eq_true] at hx; exact hx.1
      have hbS := HO.out.block S hSl HNE.out.2.1
      have s1 : wr.drew.cell? ⟨S, 1, none⟩ = some (.int .i64 (used : Int)) := (World.cell?_of_block (a := ⟨S, 1, none⟩) hbS).trans HS.out.c1
      have f1 : wr.drew.frozen? ⟨S, 1, none⟩ = false := (World.frozen?_of_block (a := ⟨S, 1, none⟩) hbS).trans HS.out.f1
      have d2 : wr.drew.cell? ⟨B, 2, none⟩ = some (.map (some M)) := hc2
      have hln : (Builtin.len_ #[158] 3 #[.map (some M)]).run Tryz.prog wr.drew = .ok (.int .i64 (N : Int)) wr.drew := MapAt.len (w := wr.drew) HM.out 3
      have HN := Lib.hid hN
      have HBS := Lib.hid hbS
      have HBB := Lib.hid hbB
      clear hN hbS hbB
      go_wp2_with (go_at_call 115; ((with_reducible refine HCK.out.mono ?_); rintro e w' ⟨rfl, rfl⟩))
      go_region
      obtain ⟨U, hU⟩ : ∃ U : Nat, U = used - (b.n - N) := ⟨_, rfl⟩
      have hUi : (used : Int) - ((b.n : Int) - (N : Int)) = (U : Int) := by omega
      rw [hUi]
      have W1 : StoC (wr.setCell ⟨S, 1, none⟩ (.int .i64 (U : Int))).drew S room U := ((HS.out.below HBS.out).set U).drew
      have W2 : BodC (wr.setCell ⟨S, 1, none⟩ (.int .i64 (U : Int))).drew S B M b.size := (HB.out.c.below HBB.out).below (set_block fun e => HNE.out.1 e.symm)
      have W3 : MapAt (wr.setCell ⟨S, 1, none⟩ (.int .i64 (U : Int))).drew M (delT b c k) (delD b c k) N := HM.out.of_block (set_block fun e => HNE.out.2.1 e.symm)
      have W4 : Only (fp S B M) w (wr.setCell ⟨S, 1, none⟩ (.int .i64 (U : Int))).drew := ((HO.out.mono (G := fp S B M) fun x hx => Or.inr (Or.inr hx)).setCell (p := ⟨S, 1, none⟩) (Or.inl rfl) _).drew
      generalize (wr.setCell ⟨S, 1, none⟩ (.int .i64 (U : Int))).drew = W at *
      have HWI := Lib.hid (wipe_any S B M b.size N n (delT b c k) (delD b c k) W W2 W3 hn)
      have HW1 := Lib.hid W1
      have HW2 := Lib.hid W2
      have HW4 := Lib.hid W4
      have HU := Lib.hid hU
      clear W1 W2 W3 W4 hU hUi s1 f1 d2 hln hc2 hc1 c1 c2
      have hBW := HW4.out.size
      go_wp2_with fail
      refine HWI.out.mono ?_
      rintro e w6 ⟨rfl, hm6, ho6⟩
      have hb6 := ho6.block B (Nat.lt_of_lt_of_le hB hBW) HNE.out.2.2
      have e1 := (World.cell?_of_block (a := ⟨B, 1, none⟩) hb6).trans HW2.out.c1
      have e2 := (World.frozen?_of_block (a := ⟨B, 1, none⟩) hb6).trans HW2.out.f1
      have HM6 := Lib.hid hm6
      have HO6 := Lib.hid ho6
      have HB6 := Lib.hid hb6
      clear hm6 ho6 hb6
      go_wp2
      go_ret
      have hS6 := HO6.out.block S (Nat.lt_of_lt_of_le hSl hBW) HNE.out.2.1
      have hcN : (cutB b n).n = N := by
        rw [HN.out]
        exact cnt_congr fun x => (delT_cut HB.out.ok HC.out hck (by have := HD.out; omega) x).symm
      refine ⟨?_, ?_, ?_, ?_⟩
      · rw [HCR.out]; rfl
      · rw [HCUT.out, hcN, show used + N - b.n = U from by rw [HU.out]; omega]
        exact (HW1.out.below hS6).below (set_block HNE.out.1)
      · rw [HCUT.out]
        refine Bod.of (N := N) ((HW2.out.below HB6.out).set n) ?_ ⟨hn, fun x hx => ?_, fun i hi => ?_⟩
        · refine (HM6.out.of_block (set_block fun e => HNE.out.2.2 e.symm)).ext (fun x => ?_) fun i => ?_
          · exact (delT_cut HB.out.ok HC.out hck (by have := HD.out; omega) x).symm
          · unfold cutB wiped delD
            dsimp only
            have h1 := HC.out
            have h2 := HD.out
            have h3 := HB.out.ok.dat i
            by_cases hi : i < n
            · rw [if_pos hi, if_neg (by omega), if_neg (by omega)]
            · rw [if_neg hi]
              by_cases h4 : i / 16 = n / 16
              · rw [if_pos (by omega)]
              · rw [if_neg (by omega)]
                by_cases h5 : i / 16 < k
                · rw [if_pos (by omega)]
                · rw [if_neg (by omega), h3 (by omega)]
        · simp only [cutB, Bool.and_eq_true, decide_eq_true_eq] at hx ⊢
          exact hx.2
        · simp only [cutB] at hi ⊢
          rw [if_neg (by omega)]
      · exact (HW4.out.trans (HO6.out.mono fun x hx => Or.inr (Or.inr hx))).setCell (Or.inr (Or.inl rfl)) _

set_option maxRecDepth 100000 in
theorem free_any (S B M room used : Nat) (b : AB) (w : World) (hb : Bod w S B M b) (hs : StoC w S room used) (hu : b.n ≤ used) (hr : used ≤ 65536) (hSB : S ≠ B) (hSM : S ≠ M) (hBM : B ≠ M) :
    Calls Tryz.prog 103 #[Pq S, Pq B] w (fun e w' => e = .returned (.tuple #[]) ∧ BodE w S B M room used b (cut b 0) w') := by
  have h := cut_any S B M room used b 0 w hb hs hu hr hSB hSM hBM
  clear hb hs hu hr hSB hSM hBM
  go_enter Tryz.func103, Tryz.ntmps103
  go_wp2_with (go_at_call 108; ((with_reducible refine h.mono ?_); rintro e w' ⟨rfl, h2⟩))
  go_end0
  exact ⟨rfl, h2⟩
end Go.Proofs.YtlnlehoekchdeaaGreat.bl
end
section
namespace Go.Proofs.YtlnlehoekchdeaaGreat.bl
open Go.RowKit
set_option linter.unusedVariables false
set_option linter.unusedSimpArgs false


/-- Bytes that lie in memory, in no block of F. -/
def BytesIn (w : World) (F : Nat → Prop) (A : Option Addr) (n : Nat) (f : Nat → UInt8) : Prop := ∀ i, i < n → ∃ b off, A = some ⟨b, off, none⟩ ∧ ¬ F b ∧ b < w.heap.size ∧ w.cell? ⟨b, off + i, none⟩ = some (U8 (f i))
theorem BytesIn.only {w w' : World} {F : Nat → Prop} {A : Option Addr} {n : Nat} {f : Nat → UInt8} (h : BytesIn w F A n f) (ho : Only F w w') : BytesIn w' F A n f := fun i hi => by
  obtain ⟨b, off, e, hF, hl, h0⟩ := h i hi
  exact ⟨b, off, e, hF, Nat.lt_of_lt_of_le hl ho.size, (World.cell?_of_block (a := ⟨b, off + i, none⟩) (ho.block b hl hF)).trans h0⟩
theorem BytesIn.part {w : World} {F : Nat → Prop} {b off n p T : Nat} {f : Nat → UInt8} (h : BytesIn w F (some ⟨b, off, none⟩) n f) (hT : T ≤ n) : Bytes w w.heap.size (some ⟨b, off + p, none⟩) (T - p) (fun i => f (p + i)) := fun i hi => by
  obtain ⟨b', off', e, hF, hl, h0⟩ := h (p + i) (by omega)
  injection e with e
  injection e with e1 e2
  subst e1; subst e2
  exact ⟨b, off + p, rfl, hl, by rw [Nat.add_assoc]; exact h0⟩

def thW (b : AB) (s a : Nat) : Nat → Bool := fun k => b.th k || decide (s < a ∧ s < 16 * k + 16 ∧ 16 * k < a)
def usedW (b : AB) (used s a : Nat) : Nat := used + cnt 4096 (thW b s a) - b.n
def okW (b : AB) (used room s q : Nat) : Prop := thW b s (s + q) ((s + q) / 16) = true ∨ usedW b used s (s + q) < room
/-- Where writing ends. -/
structure IsStop (b : AB) (used room s T p : Nat) : Prop where
  le : p ≤ T
  ok : ∀ q, q < p → okW b used room s q
  stop : p = T ∨ ¬ okW b used room s p
theorem IsStop.eq {b : AB} {used room s T p q : Nat} (h : IsStop b used room s T p) (k : IsStop b used room s T q) : p = q := by
  rcases Nat.lt_trichotomy p q with hl | e | hl
  · exfalso
    rcases h.stop with e | e
    · have := k.le; omega
    · exact e (k.ok p hl)
  · exact e
  · exfalso
    rcases k.stop with e | e
    · have := h.le; omega
    · exact e (h.ok q hl)
def wrB (b : AB) (s p : Nat) (f : Nat → UInt8) : AB := ⟨if p = 0 then b.size else max b.size (s + p), thW b s (s + p), over b.dat s p f⟩
theorem thW_self (b : AB) (s : Nat) (k : Nat) : thW b s (s + 0) k = b.th k := by
  unfold thW
  have : ¬ (s < s + 0 ∧ s < 16 * k + 16 ∧ 16 * k < s + 0) := by omega
  simp only [decide_eq_false this, Bool.or_false]
theorem over_self (d f : Nat → UInt8) (s : Nat) (i : Nat) : over d s 0 f i = d i := by unfold over; rw [if_neg (by omega)]
theorem wrB_zero (b : AB) (s : Nat) (f : Nat → UInt8) : wrB b s 0 f = b := by
  obtain ⟨n, th, dat⟩ := b
  unfold wrB
  congr 1
  · funext k; exact thW_self _ s k
  · funext i; exact over_self _ _ _ _
theorem thW_lt {b : AB} (ok : b.Ok) {s a k : Nat} (ha : a ≤ 65536) (h : thW b s a k = true) : k < 4096 := by
  unfold thW at h
  simp only [Bool.or_eq_true, decide_eq_true_eq] at h
  rcases h with h | h
  · have h1 := ok.th k h; have h2 := ok.size; omega
  · omega
theorem wrB_ok {b : AB} (ok : b.Ok) {s p : Nat} (h : s + p ≤ 65536) (f : Nat → UInt8) : (wrB b s p f).Ok := by
  have h1 := ok.size
  refine ⟨?_, fun k hk => ?_, fun i hi => ?_⟩
  · unfold wrB; dsimp only; split <;> omega
  · unfold wrB at hk ⊢
    dsimp only at hk ⊢
    unfold thW at hk
    simp only [Bool.or_eq_true, decide_eq_true_eq] at hk
    rcases hk with hk | hk
    · have h2 := ok.th k hk; split <;> omega
    · split <;> omega
  · unfold wrB at hi ⊢
    dsimp only at hi ⊢
    unfold over
    split at hi
    · rw [if_neg (by omega)]; exact ok.dat i hi
    · rw [if_neg (by omega)]; exact ok.dat i (by omega)
theorem thW_step {b : AB} {s p m k : Nat} (hk : (s + p) / 16 = k) (hm : 0 < m) (hm2 : s + p + m ≤ 16 * k + 16) (x : Nat) : thW b s (s + (p + m)) x = updB (thW b s (s + p)) k true x := by
  unfold updB
  by_cases e : x = k
  · subst e
    rw [if_pos rfl]
    unfold thW
    have : s < s + (p + m) ∧ s < 16 * x + 16 ∧ 16 * x < s + (p + m) := by omega
    simp only [decide_eq_true this, Bool.or_true]
  · rw [if_neg e]
    unfold thW
    congr 1
    apply decide_eq_decide.2
    constructor
    · rintro ⟨h1, h2, h3⟩
      have : x < k := by omega
      omega
    · rintro ⟨h1, h2, h3⟩
      omega
theorem over_step {d f : Nat → UInt8} {s p m : Nat} (i : Nat) : over d s (p + m) f i = over (over d s p f) (s + p) m (fun i => f (p + i)) i := by
  unfold over
  by_cases h1 : s + p ≤ i ∧ i < s + p + m
  · rw [if_pos h1, if_pos (by omega)]; congr 1; omega
  · rw [if_neg h1]
    by_cases h2 : s ≤ i ∧ i < s + p
    · rw [if_pos h2, if_pos (by omega)]
    · rw [if_neg h2, if_neg (by omega)]

def wr (b : AB) (off : Int) (p : Nat) (f : Nat → UInt8) : AB := wrB b off.toNat p f
def WR (b : AB) (used room : Nat) (off : Int) (len p : Nat) (err : Int) : Prop :=
  (off < 0 ∧ p = 0 ∧ err = 22) ∨ (0 ≤ off ∧ len = 0 ∧ p = 0 ∧ err = 0) ∨ (65536 ≤ off ∧ 0 < len ∧ p = 0 ∧ err = 27) ∨
  (0 ≤ off ∧ off < 65536 ∧ 0 < len ∧ IsStop b used room off.toNat (min len (65536 - off.toNat)) p ∧ err = if p = 0 then 28 else 0)
def WriteE (w : World) (S B M room used : Nat) (b : AB) (off : Int) (len : Nat) (f : Nat → UInt8) (e : Ending) (w' : World) : Prop :=
  ∃ (p : Nat) (err : Int), e = .returned (.tuple #[.int .i64 (p : Int), .int .i64 err]) ∧ WR b used room off len p err ∧ used + (wr b off p f).n - b.n ≤ room ∧ BodE w S B M room used b (wr b off p f) w'
end Go.Proofs.YtlnlehoekchdeaaGreat.bl
end
