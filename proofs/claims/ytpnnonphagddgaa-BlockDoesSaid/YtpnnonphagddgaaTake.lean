/- A body's bytes: what is taken from a chunk and put into one. -/
import Derived.Test.YtpnnonphagddgaaMap
import Derived.Deep.LoopGhost
import Derived.Deep.DeepMust
import Derived.Deep.DeepFit
import Derived.Deep.QuietTactic
import Derived.BigQuiet
import Derived.Deep.DeepCutAuto
namespace Go.Proofs.Ytpnnonphagddgaa
open Go.RowKit
set_option linter.unusedVariables false
set_option linter.unusedSimpArgs false

abbrev Pq (B : Nat) : Value := .pointer (some ⟨B, 0, none⟩)
/-- The three cells of a body. -/
structure BodC (w : World) (S B M n : Nat) : Prop where
  c0 : w.cell? ⟨B, 0, none⟩ = some (Pq S)
  c1 : w.cell? ⟨B, 1, none⟩ = some (.int .i64 (n : Int))
  c2 : w.cell? ⟨B, 2, none⟩ = some (.map (some M))
  f1 : w.frozen? ⟨B, 1, none⟩ = false
/-- The two cells of a store. -/
structure StoC (w : World) (S room used : Nat) : Prop where
  c0 : w.cell? ⟨S, 0, none⟩ = some (.int .i64 (room : Int))
  c1 : w.cell? ⟨S, 1, none⟩ = some (.int .i64 (used : Int))
  f1 : w.frozen? ⟨S, 1, none⟩ = false
def rowF (L : Nat) (f : Nat → UInt8) : List Value := (List.range L).map fun j => U8 (f j)
theorem rowF_length (L : Nat) (f : Nat → UInt8) : (rowF L f).length = L := by simp [rowF]
theorem rowF_get {L j : Nat} (f : Nat → UInt8) (hj : j < L) : (rowF L f)[j]? = some (U8 (f j)) := by simp [rowF, hj]
theorem rowF_congr {L : Nat} {f g : Nat → UInt8} (h : ∀ j, j < L → f j = g j) : rowF L f = rowF L g := by
  unfold rowF
  exact List.map_congr_left fun j hj => by rw [h j (by simpa using hj)]
theorem rowF_one {L : Nat} {f : Nat → UInt8} : ∀ v ∈ rowF L f, v.oneCell' = true := by
  intro v hv
  simp only [rowF, List.mem_map] at hv
  obtain ⟨j, _, rfl⟩ := hv
  rfl
theorem splice_rowF {L off m : Nat} (f g h : Nat → UInt8) (hm : off + m ≤ L) (hh : ∀ j, j < L → h j = if off ≤ j ∧ j < off + m then g (j - off) else f j) : splice (rowF L f) off (rowF m g) = rowF L h := by
  unfold splice
  apply List.ext_getElem?
  intro j
  rw [List.getElem?_append, List.getElem?_append]
  simp only [List.length_take, rowF_length, List.getElem?_take, List.getElem?_drop]
  rw [Nat.min_eq_left (by omega)]
  by_cases h1 : j < off
  · rw [if_pos h1, if_pos h1, rowF_get f (by omega), rowF_get h (by omega), hh j (by omega), if_neg (by omega)]
  · rw [if_neg h1]
    by_cases h2 : j - off < m
    · rw [if_pos h2, rowF_get g h2, rowF_get h (by omega), hh j (by omega), if_pos (by omega)]
    · rw [if_neg h2]
      by_cases h3 : j < L
      · rw [show off + m + (j - off - m) = j from by omega, rowF_get f h3, rowF_get h h3, hh j h3, if_neg (by omega)]
      · rw [List.getElem?_eq_none (by rw [rowF_length]; omega), List.getElem?_eq_none (by rw [rowF_length]; omega)]
theorem chunkL_rowF (dat : Nat → UInt8) (k : Nat) : chunkL dat k = rowF 16 (fun j => dat (16 * k + j)) := rfl
theorem under76 : Try.prog.underlying 76 = some (.array 16 5) := by kernel_rfl
theorem info76 : (Try.prog.info? 76).map (·.size) = some 16 := by kernel_rfl
theorem info5 : (Try.prog.info? 5).map (·.size) = some 1 := by kernel_rfl

abbrev Z16 : Array Value := #[.int .u8 0, .int .u8 0, .int .u8 0, .int .u8 0, .int .u8 0, .int .u8 0, .int .u8 0, .int .u8 0, .int .u8 0, .int .u8 0, .int .u8 0, .int .u8 0, .int .u8 0, .int .u8 0, .int .u8 0, .int .u8 0]
theorem store_chunk (w : World) (dat : Nat → UInt8) (k : Nat) :
    (storeCells ⟨w.heap.size, 0, none⟩ (chunkA dat k).toList).run Try.prog (w.alloc (.cells Z16 76)) = .ok () (w.alloc (.cells (chunkA dat k) 76)) :=
  run_storeCells_new w 76 Z16 (chunkA dat k) (by rw [chunkA_size]; exact info76) (by rw [chunkA_size]; rfl) (chunkA_one dat k)
theorem slice_chunk (w : World) (b r : Nat) (hr : r < 16) :
    (Instr.sliceAt 76 (.pointer (some ⟨b, 0, none⟩)) (some (.int .i64 (r : Int))) none none).run Try.prog w = .ok (.slice (some ⟨b, r, none⟩) (16 - r) (16 - r)) w := by
  have h1 : (r : Int) ≤ 16 := by omega
  have h2 : ¬ (16 : Nat) = r := by omega
  have h3 : (⟨b, 0, none⟩ : Addr).add r = ⟨b, r, none⟩ := by unfold Addr.add; split <;> simp_all
  unfold Instr.sliceAt
  simp [run_underlying under76, Instr.sliceBounds, Instr.sliceBound, h1, h2, h3, Instr.sureAddr, asIntOf]
  intro h; omega
/-- The cells that lie at a chunk's place r are the bytes from there on. -/
theorem chunk_src (w : World) (dat : Nat → UInt8) (k r m a : Nat) (ha : a = 16 * k + r) (hm : m ≤ 16 - r) (hr : r < 16) (o : World) :
    ∀ j v, (rowF m (fun j => dat (a + j)))[j]? = some v → (w.alloc (.cells (chunkA dat k) 76)).cell? ((⟨w.heap.size, r, none⟩ : Addr).add j) = some v := by
  intro j v hv
  have hj : j < m := by
    have := (List.getElem?_eq_some_iff.1 hv).1
    simpa [rowF_length] using this
  rw [rowF_get _ hj] at hv
  injection hv with hv
  subst hv
  have h3 : (⟨w.heap.size, r, none⟩ : Addr).add j = ⟨w.heap.size, r + j, none⟩ := by unfold Addr.add; split <;> simp_all
  rw [h3, ha]
  have := chunkL_get dat k (r + j) (by omega)
  rw [Nat.add_assoc]
  simpa [chunkA] using this
theorem ret_len {a b : Nat} (h : a = b) : Ending.returned (.int .i64 (a : Int)) = .returned (.int .i64 (b : Int)) := by rw [h]
set_option maxHeartbeats 1000000 in
theorem take_any (S B M n N a k r off dl dc g L : Nat) (th : Nat → Bool) (dat f : Nat → UInt8) (w : World) (hb : BodC w S B M n) (hM : MapAt w M th dat N) (hk : (a : Int) / 16 = k) (hr : (a : Int) % 16 = r) (ha : a ≤ 65536)
    (hg : w.heap[g]? = some (.cells (rowF L f).toArray 5 (0, 0))) (hd : off + dl ≤ L) :
    Calls Try.prog 36 #[Pq B, .int .i64 (a : Int), .slice (some ⟨g, off, none⟩) dl dc] w (fun e w' => e = .returned (.int .i64 ((min (16 - r) dl : Nat) : Int)) ∧
      w'.heap[g]? = some (.cells (rowF L (fun j => if off ≤ j ∧ j < off + min (16 - r) dl then dat (a + (j - off)) else f j)).toArray 5 (0, 0)) ∧ Below g w w') := by
  have hlook := hM.look k false
  have h2 := hb.c2
  have har : a = 16 * k + r := by omega
  have hr16 : r < 16 := by omega
  have hglt : g < w.heap.size := (Array.getElem?_eq_some_iff.1 hg).1
  have hg2 : (w.alloc (.cells (chunkA dat k) 76)).heap[g]? = some (.cells (rowF L f).toArray 5 (0, 0)) := (Below.heap_alloc w _ g hglt).trans hg
  obtain ⟨m, hm⟩ : ∃ m, m = min (16 - r) dl := ⟨_, rfl⟩
  have hm1 : m ≤ 16 - r := by omega
  have hm2 : m ≤ dl := by omega
  have HS := Lib.hid (chunk_src w dat k r m a har hm1 hr16 w)
  have HAR := Lib.hid har
  have HM := Lib.hid hm
  have HG := Lib.hid hg2
  have HL := Lib.hid (show (rowF m (fun j => dat (a + j))).length = (16 - r).min dl by rw [rowF_length]; exact hm)
  have HB := Lib.hid (show Below g w (w.alloc (.cells (chunkA dat k) 76)) from (Below.refl _ _).alloc (by omega) _)
  have HX := Lib.hid (splice_rowF (L := L) (off := off) (m := m) f (fun j => dat (a + j)) (fun j => if off ≤ j ∧ j < off + m then dat (a + (j - off)) else f j) (by omega) (fun j _ => rfl))
  have HMM := Lib.hid (show (rowF m (fun j => dat (a + j))).length = m by rw [rowF_length])
  have HF := Lib.hid (show off + (rowF m (fun j => dat (a + j))).length ≤ (rowF L f).length by rw [rowF_length, rowF_length]; omega)
  rw [← hm]
  clear har hm hg hg2
  simp only [Bool.false_eq_true, if_false] at hlook
  have hst := store_chunk w dat k
  have hsz := chunkA_size dat k
  have hsl := slice_chunk (w.alloc (.cells (chunkA dat k) 76)) w.heap.size r hr16
  go_enter Try.func36, Try.ntmps36
  go_wp2_with ((with_reducible refine wpList_copy_splice rfl _ _ 33 33 rfl 5 Try.underlying33 info5 _ _ _ _ _ _ rfl rfl g off (rowF L f) 5 HG.out (rowF m (fun j => dat (a + j))) HL.out (fun _ => ⟨rfl, _, rfl, HS.out⟩) HF.out rowF_one g w HB.out (Nat.le_refl _) ?_); intro w2 hg2 hb2)
  go_ret
  exact ⟨ret_len HMM.out, by rw [← HX.out]; exact hg2.out, hb2⟩

/-- Bytes that lie in memory, below block X. -/
def Bytes (w : World) (X : Nat) (A : Option Addr) (n : Nat) (f : Nat → UInt8) : Prop := ∀ i, i < n → ∃ b off, A = some ⟨b, off, none⟩ ∧ b < X ∧ w.cell? ⟨b, off + i, none⟩ = some (U8 (f i))
theorem Bytes.below {w w' : World} {X n : Nat} {A : Option Addr} {f : Nat → UInt8} (h : Bytes w X A n f) (hb : Below X w w') : Bytes w' X A n f := fun i hi => by
  obtain ⟨b, off, e, hB, h0⟩ := h i hi
  exact ⟨b, off, e, hB, (hb.cell (p := ⟨b, off + i, none⟩) hB).trans h0⟩
theorem add0 (b off j : Nat) : (⟨b, off, none⟩ : Addr).add j = ⟨b, off + j, none⟩ := by unfold Addr.add; split <;> simp_all
theorem loadFrom_row (w : World) (c : Nat) (t : TypeId) (L : List Value) (n : Nat) (hn : L.length = n) (h : w.heap[c]? = some (.cells L.toArray t (0, 0))) :
    (loadCellsFrom ⟨c, 0, none⟩ 0 n #[]).run Try.prog w = .ok L.toArray w := by
  subst hn
  have := run_loadCells_list (P := Try.prog) w ⟨c, 0, none⟩ L (fun j v hv => by
    rw [add0, Nat.zero_add, cell_of_row _ _ j L.toArray t (0, 0) h]
    simpa using hv)
  simpa [loadCells] using this
/-- The bytes of a chunk that a source is laid over. -/
def over (dat : Nat → UInt8) (a m : Nat) (f : Nat → UInt8) : Nat → UInt8 := fun i => if a ≤ i ∧ i < a + m then f (i - a) else dat i
theorem over_off {dat f : Nat → UInt8} {a m k r : Nat} (ha : a = 16 * k + r) (hm : m ≤ 16 - r) (hr : r < 16) : ∀ i, i / 16 ≠ k → over dat a m f i = dat i := by
  intro i hi
  unfold over
  rw [if_neg (by omega)]

/-- A chunk that lies in a block of its own: its cells one by one. -/
theorem chunk_cells {w : World} {c : Nat} {t : TypeId} {dat : Nat → UInt8} {k : Nat} (h : w.heap[c]? = some (.cells (chunkL dat k).toArray t (0, 0))) :
    ∃ V : Nat → Value, chunkA dat k = #[V 0, V 1, V 2, V 3, V 4, V 5, V 6, V 7, V 8, V 9, V 10, V 11, V 12, V 13, V 14, V 15] ∧ ∀ j, j < 16 → w.cell? ⟨c, j, none⟩ = some (V j) :=
  ⟨fun j => U8 (dat (16 * k + j)), rfl, fun j hj => by
    rw [cell_of_row _ _ j _ t (0, 0) h]
    have := chunkL_get dat k j hj
    simpa using this⟩
set_option maxHeartbeats 1000000 in
theorem put_any (S B M n N a k r dl dc : Nat) (A : Option Addr) (th : Nat → Bool) (dat f : Nat → UInt8) (w : World) (hb : BodC w S B M n) (hM : MapAt w M th dat N) (hk : (a : Int) / 16 = k) (hr : (a : Int) % 16 = r) (ha : a ≤ 65536)
    (hs : Bytes w w.heap.size A dl f) (hd : 0 < dl) :
    Calls Try.prog 33 #[Pq B, .int .i64 (a : Int), .slice A dl dc] w (fun e w' => e = .returned (.int .i64 ((min dl (16 - r) : Nat) : Int)) ∧
      MapAt w' M (updB th k true) (over dat a (min dl (16 - r)) f) (addN th k N) ∧ Only (· = M) w w') := by
  have hlook := hM.look k false
  have h2 := hb.c2
  have hBl := World.block_lt_of_cell? w _ h2
  have har : a = 16 * k + r := by omega
  have hr16 : r < 16 := by omega
  obtain ⟨m, hm⟩ : ∃ m, m = min dl (16 - r) := ⟨_, rfl⟩
  have hm1 : m ≤ 16 - r := by omega
  have hm2 : m ≤ dl := by omega
  obtain ⟨sb, so, rfl, hsl0, _⟩ := hs 0 hd
  have hsrc : ∀ j v, (rowF m f)[j]? = some v → (w.alloc (.cells (chunkA dat k) 76)).cell? ((⟨sb, so, none⟩ : Addr).add j) = some v := by
    intro j v hv
    have hj : j < m := by
      have := (List.getElem?_eq_some_iff.1 hv).1
      simpa [rowF_length] using this
    rw [rowF_get _ hj] at hv
    injection hv with hv
    subst hv
    obtain ⟨b, off, e, hB, h0⟩ := hs j (by omega)
    injection e with e
    injection e with e1 e2
    subst e1; subst e2
    rw [add0]
    exact (((Below.refl _ _).alloc (Nat.le_refl _) _).cell (p := ⟨sb, so + j, none⟩) hB).trans h0
  have HS := Lib.hid hsrc
  have HAR := Lib.hid har
  have HG := Lib.hid (show (w.alloc (.cells (chunkA dat k) 76)).heap[w.heap.size]? = some (.cells (chunkL dat k).toArray 76 (0, 0)) from heap_alloc_last w _)
  have HL := Lib.hid (show (rowF m f).length = dl.min (16 - r) by rw [rowF_length]; exact hm)
  have HB := Lib.hid (show Below w.heap.size w (w.alloc (.cells (chunkA dat k) 76)) from (Below.refl _ _).alloc (Nat.le_refl _) _)
  have HX := Lib.hid (show splice (chunkL dat k) r (rowF m f) = chunkL (over dat a m f) k from
    splice_rowF (L := 16) (off := r) (m := m) (fun j => dat (16 * k + j)) f (fun j => over dat a m f (16 * k + j)) (by omega) (fun j hj => by
      unfold over
      by_cases h : r ≤ j ∧ j < r + m
      · rw [if_pos (by omega), if_pos h]; congr 1; omega
      · rw [if_neg (by omega), if_neg h]))
  have HO := Lib.hid (over_off (dat := dat) (f := f) har hm1 hr16)
  have HMM := Lib.hid (show (rowF m f).length = m by rw [rowF_length])
  have HF := Lib.hid (show r + (rowF m f).length ≤ (chunkL dat k).length by rw [rowF_length, chunkL_length]; omega)
  rw [← hm]
  clear har hm hsrc hs
  simp only [Bool.false_eq_true, if_false] at hlook
  have hst := store_chunk w dat k
  have hsz := chunkA_size dat k
  have hsl := slice_chunk (w.alloc (.cells (chunkA dat k) 76)) w.heap.size r hr16
  go_enter Try.func33, Try.ntmps33
  go_wp2_with ((with_reducible refine wpList_copy_splice rfl _ _ 33 33 rfl 5 Try.underlying33 info5 _ _ _ _ _ _ rfl rfl w.heap.size r (chunkL dat k) 76 HG.out (rowF m f) HL.out (fun _ => ⟨rfl, _, rfl, HS.out⟩) HF.out rowF_one w.heap.size w HB.out (Nat.le_refl _) ?_); intro w2 hg2 hb2)
  have hg3 := hg2.out
  rw [HX.out] at hg3
  obtain ⟨V, hV, hcell⟩ := chunk_cells (w := w2.drew) hg3
  have hM2 : MapAt w2.drew M th dat N := hM.of_block (hb2.block _ hM.lt)
  obtain ⟨w3, hput, hM3, ho3⟩ := hM2.put k HO.out
  have hc2 : w2.drew.cell? ⟨B, 2, none⟩ = some (.map (some M)) := (hb2.cell (p := ⟨B, 2, none⟩) hBl).trans h2
  rw [hV] at hput
  have c0 := hcell 0 (by omega)
  have c1 := hcell 1 (by omega)
  have c2 := hcell 2 (by omega)
  have c3 := hcell 3 (by omega)
  have c4 := hcell 4 (by omega)
  have c5 := hcell 5 (by omega)
  have c6 := hcell 6 (by omega)
  have c7 := hcell 7 (by omega)
  have c8 := hcell 8 (by omega)
  have c9 := hcell 9 (by omega)
  have c10 := hcell 10 (by omega)
  have c11 := hcell 11 (by omega)
  have c12 := hcell 12 (by omega)
  have c13 := hcell 13 (by omega)
  have c14 := hcell 14 (by omega)
  have c15 := hcell 15 (by omega)
  have HM3 := Lib.hid hM3
  have HO3 := Lib.hid ((Only.of_below hb2).drew.trans ho3)
  clear hg3 hM3 ho3 hM2 hsl hst hlook hM hV hcell hsz
  go_region
  go_wp2
  go_ret
  exact ⟨ret_len HMM.out, HM3.out, HO3.out⟩
end Go.Proofs.Ytpnnonphagddgaa
