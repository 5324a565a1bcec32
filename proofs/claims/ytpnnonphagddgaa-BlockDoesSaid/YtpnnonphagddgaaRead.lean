/- A body told by its size, its chunks, its bytes; and Read. -/
import Derived.Test.YtpnnonphagddgaaSmall
namespace Go.Proofs.Ytpnnonphagddgaa
open Go.RowKit
set_option linter.unusedVariables false
set_option linter.unusedSimpArgs false

/-- What a body is: its size, which chunks are there, its bytes. -/
structure AB where
  size : Nat
  th : Nat → Bool
  dat : Nat → UInt8
def AB.n (b : AB) : Nat := cnt 4096 b.th
structure AB.Ok (b : AB) : Prop where
  size : b.size ≤ 65536
  th : ∀ k, b.th k = true → 16 * k < b.size
  dat : ∀ i, b.size ≤ i → b.dat i = 0
theorem below_step {w0 w w' : World} {X : Nat} (h : Below X w0 w) (hb : Below X w w') : Below X w0 w' := h.trans hb
structure Bod (w : World) (S B M : Nat) (b : AB) : Prop where
  c : BodC w S B M b.size
  m : MapAt w M b.th b.dat b.n
  ok : b.Ok
theorem Bod.of {w : World} {S B M N : Nat} {b : AB} (c : BodC w S B M b.size) (m : MapAt w M b.th b.dat N) (ok : b.Ok) : Bod w S B M b := by
  refine ⟨c, ?_, ok⟩
  have h := m.cnt (N := 4096) fun k hk => by have h1 := ok.th k hk; have h2 := ok.size; omega
  unfold AB.n
  rw [← h]
  exact m
theorem Bod.keep {w w' : World} {S B M : Nat} {b : AB} (h : Bod w S B M b) (h1 : w'.heap[B]? = w.heap[B]?) (h2 : w'.heap[M]? = w.heap[M]?) : Bod w' S B M b := ⟨h.c.below h1, h.m.of_block h2, h.ok⟩
theorem Bod.ltB {w : World} {S B M : Nat} {b : AB} (h : Bod w S B M b) : B < w.heap.size := World.block_lt_of_cell? w _ h.c.c0
theorem Bod.ltM {w : World} {S B M : Nat} {b : AB} (h : Bod w S B M b) : M < w.heap.size := h.m.lt
theorem Bod.below {w w' : World} {S B M X : Nat} {b : AB} (h : Bod w S B M b) (hb : Below X w w') (h1 : B < X) (h2 : M < X) : Bod w' S B M b := h.keep (hb.block B h1) (hb.block M h2)

theorem make_bytes (w : World) (n : Nat) (hn : n ≤ 1000000) :
    (Instr.makeSlice 33 (.int .i64 (n : Int)) (.int .i64 (n : Int))).run Try.prog w = .ok (.slice (some ⟨w.heap.size, 0, none⟩) n n) (w.alloc (.cells (rowF n (fun _ => 0)).toArray 5)) := by
  obtain ⟨i, hi, hz, hs, hb⟩ := info_parts (P := Try.prog) (e := 5) (z := .int .u8 0) (size := 1) (bytes := 1) (by kernel_rfl)
  have hr := run_make (P := Try.prog) w 33 5 i (.int .u8 0) Try.underlying33 hi hz .i64 .i64 n n (by omega) (Int.le_refl _) (by rw [hb]; omega) (by omega)
  rw [hr]
  simp only [Int.toNat_natCast, hs]
  congr 3
  apply Array.ext_getElem?
  intro j
  simp [madeCells, rowF, Value.cells, U8, Nat.mod_one, Array.getElem?_range, List.getElem?_range]
  by_cases h : j < n <;> simp [h]

/-- A row of bytes of the call's own. -/
def Row (w : World) (lo : Nat) (A : Option Addr) (n c : Nat) (f : Nat → UInt8) : Prop := n = c ∧ ((A = none ∧ n = 0) ∨ ∃ g, lo ≤ g ∧ A = some ⟨g, 0, none⟩ ∧ w.heap[g]? = some (.cells (rowF n f).toArray 5 (0, 0)))
def readR (b : AB) (off n : Int) : Int × Nat := if off < 0 ∨ n < 0 then (22, 0) else (0, min n.toNat (b.size - off.toNat))
def ReadE (w : World) (b : AB) (off n : Int) (e : Ending) (w' : World) : Prop :=
  ∃ A c, e = .returned (.tuple #[.slice A (readR b off n).2 c, .int .i64 (readR b off n).1]) ∧ Row w' w.heap.size A (readR b off n).2 c (fun j => b.dat (off.toNat + j)) ∧ Below w.heap.size w w'

theorem row_step {m g : Nat} {w : World} {f f' : Nat → UInt8} (h : w.heap[g]? = some (.cells (rowF m f).toArray 5 (0, 0))) (hf : ∀ j, j < m → f j = f' j) : w.heap[g]? = some (.cells (rowF m f').toArray 5 (0, 0)) := by
  rw [← rowF_congr hf]; exact h

theorem take_at (S B M g L s done : Nat) (b : AB) (f : Nat → UInt8) (w : World) (hb : Bod w S B M b) (ha : s + done ≤ 65536) (hg : w.heap[g]? = some (.cells (rowF L f).toArray 5 (0, 0))) (hd : done < L) :
    Calls Try.prog 36 #[Pq B, .int .i64 ((s : Int) + (done : Int)), .slice (some ⟨g, done, none⟩) (L - done) (L - done)] w (fun e w' => ∃ m : Nat, e = .returned (.int .i64 (m : Int)) ∧ 0 < m ∧ done + m ≤ L ∧
      w'.heap[g]? = some (.cells (rowF L (fun j => if done ≤ j ∧ j < done + m then b.dat (s + j) else f j)).toArray 5 (0, 0)) ∧ Below g w w') := by
  have h := take_any S B M b.size b.n (s + done) ((s + done) / 16) ((s + done) % 16) done (L - done) (L - done) g L b.th b.dat f w hb.c hb.m (by omega) (by omega) ha hg (by omega)
  rw [show ((s : Int) + (done : Int)) = ((s + done : Nat) : Int) from by omega]
  refine h.mono fun e w' ⟨he, h1, h2⟩ => ⟨_, he, by omega, by omega, row_step h1 fun j _ => ?_, h2⟩
  split
  · congr 1; omega
  · rfl

set_option maxHeartbeats 1000000 in
theorem read_any (S B M : Nat) (b : AB) (off n : Int) (w : World) (hb : Bod w S B M b) : Calls Try.prog 17 #[Pq S, Pq B, .int .i64 off, .int .i64 n] w (ReadE w b off n) := by
  have ho := owns_any S B M b.size w hb.c
  have hB := hb.ltB
  have hM := hb.ltM
  have hsz := hb.ok.size
  by_cases h0 : off < 0
  · have HP := Lib.hid (show ReadE w b off n (.returned (.tuple #[.slice none 0 0, .int .i64 22])) w from by
      have : readR b off n = (22, 0) := by unfold readR; rw [if_pos (Or.inl h0)]
      refine ⟨none, 0, ?_, ?_, Below.refl _ _⟩
      · rw [this]
      · rw [this]; exact ⟨rfl, .inl ⟨rfl, rfl⟩⟩)
    clear hsz hB hM
    go_enter Try.func17, Try.ntmps17
    go_wp2
    go_ret2
    exact HP.out
  by_cases h1 : n < 0
  · have HP := Lib.hid (show ReadE w b off n (.returned (.tuple #[.slice none 0 0, .int .i64 22])) w from by
      have : readR b off n = (22, 0) := by unfold readR; rw [if_pos (Or.inr h1)]
      refine ⟨none, 0, ?_, ?_, Below.refl _ _⟩
      · rw [this]
      · rw [this]; exact ⟨rfl, .inl ⟨rfl, rfl⟩⟩)
    clear hsz hB hM
    go_enter Try.func17, Try.ntmps17
    go_wp2
    go_ret2
    exact HP.out
  obtain ⟨s, rfl⟩ : ∃ s : Nat, off = (s : Int) := ⟨off.toNat, by omega⟩
  obtain ⟨q, rfl⟩ : ∃ q : Nat, n = (q : Int) := ⟨n.toNat, by omega⟩
  have hR : readR b (s : Int) (q : Int) = (0, min q (b.size - s)) := by unfold readR; rw [if_neg (by omega)]; simp
  have c1 := hb.c.c1
  by_cases h2 : b.size ≤ s
  · have HP := Lib.hid (show ReadE w b (s : Int) (q : Int) (.returned (.tuple #[.slice none 0 0, .int .i64 0])) w from by
      have : readR b (s : Int) (q : Int) = (0, 0) := by rw [hR, show min q (b.size - s) = 0 from by omega]
      refine ⟨none, 0, ?_, ?_, Below.refl _ _⟩
      · rw [this]
      · rw [this]; exact ⟨rfl, .inl ⟨rfl, rfl⟩⟩)
    clear hsz hB hM hR
    have h2b : (b.size : Int) ≤ (s : Int) := by omega
    have h2c : ¬ ((s : Int) < (b.size : Int)) := by omega
    go_enter Try.func17, Try.ntmps17
    go_wp2_with (go_at_call 31; ((with_reducible refine ho.mono ?_); rintro e w' ⟨rfl, rfl⟩))
    go_ret2
    exact HP.out
  obtain ⟨m, hm⟩ : ∃ m, m = min q (b.size - s) := ⟨_, rfl⟩
  have hmk := make_bytes w m (by omega)
  have HR := Lib.hid hR
  have HM := Lib.hid hm
  have hms : s + m ≤ 65536 := by omega
  have h2b : ¬ (b.size : Int) ≤ (s : Int) := by omega
  have h2c : ((s : Int) < (b.size : Int)) := by omega
  have HG := Lib.hid (heap_alloc_last w (.cells (rowF m (fun _ => 0)).toArray 5))
  have HB := Lib.hid (hb.below (below_one w (.cells (rowF m (fun _ => 0)).toArray 5)) hB hM)
  have HBL := Lib.hid (below_one w (.cells (rowF m (fun _ => 0)).toArray 5))
  have HF := Lib.hid (show ∀ w', w'.heap[w.heap.size]? = some (.cells (rowF m (fun j => if j < m then b.dat (s + j) else 0)).toArray 5 (0, 0)) → Below w.heap.size w w' →
      ReadE w b (s : Int) (q : Int) (.returned (.tuple #[.slice (some ⟨w.heap.size, 0, none⟩) m m, .int .i64 0])) w' from fun w' hg hbl => by
    refine ⟨some ⟨w.heap.size, 0, none⟩, m, ?_, ?_, hbl⟩
    · rw [hR, ← hm]
    · rw [hR, ← hm]
      exact ⟨rfl, .inr ⟨w.heap.size, Nat.le_refl _, rfl, row_step hg fun j hj => by rw [if_pos hj, Int.toNat_natCast]⟩⟩)
  have h2d : decide (b.size ≤ s) = false := by simp; omega
  have key : (m = q ∧ (q : Int) ≤ (b.size : Int) - (s : Int)) ∨ ((b.size : Int) - (s : Int) = (m : Int) ∧ ¬ ((q : Int) ≤ (m : Int))) := by omega
  clear hR hm hb h2
  rcases key with ⟨rfl, hle⟩ | ⟨hd, hlt⟩
  · go_enter Try.func17, Try.ntmps17
    go_wp2_with (go_at_call 31; ((with_reducible refine ho.mono ?_); rintro e w' ⟨rfl, rfl⟩))
    clear hmk
    generalize hW : w.alloc (.cells (rowF m (fun _ => 0)).toArray 5) = W at *
    have HW := Lib.hid hW
    clear hW
    go_loopg [12] m (fun g s12 wr => ∃ done : Nat, g + done = m ∧ s12 = .int .i64 (done : Int) ∧ Hid (wr.heap[w.heap.size]? = some (.cells (rowF m (fun j => if j < done then b.dat (s + j) else 0)).toArray 5 (0, 0))) ∧ Hid (Below w.heap.size w wr) ∧ Hid (Bod wr S B M b))
    case atStart => exact ⟨0, by omega, rfl, Lib.hid (row_step HG.out fun j _ => by simp), HBL, HB⟩
    case round =>
      clear HG HBL HB
      obtain ⟨done, hg, rfl, HG, HBL, HB⟩ := hrel
      by_cases hlt : done < m
      · have HT := Lib.hid (take_at S B M w.heap.size m s done b _ wr HB.out (by omega) HG.out hlt)
        have hne : ¬ m = done := by omega
        go_wp2_with fail
        refine HT.out.mono ?_
        rintro e w4 ⟨p, rfl, hp0, hp1, hrow, hb4⟩
        have HR4 := Lib.hid hrow
        have HB4 := Lib.hid hb4
        have HX := Lib.hid (HB.out.below hb4 hB hM)
        clear hrow hb4 HT
        go_wp2_with fail
        go_roundg (gk - p)
        case measure => omega
        case rel => exact ⟨done + p, by omega, by go_num, Lib.hid (row_step HR4.out fun j hj => by
          by_cases h1 : j < done
          · rw [if_neg (by omega), if_pos h1, if_pos (by omega)]
          · by_cases h2 : j < done + p
            · rw [if_pos (by omega), if_pos h2]
            · rw [if_neg (by omega), if_neg h1, if_neg h2]), Lib.hid (below_step HBL.out HB4.out), HX⟩
      · have hdone : done = m := by omega
        have HE := Lib.hid (HF.out wr (row_step HG.out fun j hj => by rw [if_pos (by omega), if_pos hj]) HBL.out)
        clear hdone
        go_wp2_with fail
        go_ret2
        exact HE.out
  · go_enter Try.func17, Try.ntmps17
    go_wp2_with (go_at_call 31; ((with_reducible refine ho.mono ?_); rintro e w' ⟨rfl, rfl⟩))
    clear hmk
    generalize hW : w.alloc (.cells (rowF m (fun _ => 0)).toArray 5) = W at *
    have HW := Lib.hid hW
    clear hW
    go_loopg [12] m (fun g s12 wr => ∃ done : Nat, g + done = m ∧ s12 = .int .i64 (done : Int) ∧ Hid (wr.heap[w.heap.size]? = some (.cells (rowF m (fun j => if j < done then b.dat (s + j) else 0)).toArray 5 (0, 0))) ∧ Hid (Below w.heap.size w wr) ∧ Hid (Bod wr S B M b))
    case atStart => exact ⟨0, by omega, rfl, Lib.hid (row_step HG.out fun j _ => by simp), HBL, HB⟩
    case round =>
      clear HG HBL HB
      obtain ⟨done, hg, rfl, HG, HBL, HB⟩ := hrel
      by_cases hlt : done < m
      · have HT := Lib.hid (take_at S B M w.heap.size m s done b _ wr HB.out (by omega) HG.out hlt)
        have hne : ¬ m = done := by omega
        go_wp2_with fail
        refine HT.out.mono ?_
        rintro e w4 ⟨p, rfl, hp0, hp1, hrow, hb4⟩
        have HR4 := Lib.hid hrow
        have HB4 := Lib.hid hb4
        have HX := Lib.hid (HB.out.below hb4 hB hM)
        clear hrow hb4 HT
        go_wp2_with fail
        go_roundg (gk - p)
        case measure => omega
        case rel => exact ⟨done + p, by omega, by go_num, Lib.hid (row_step HR4.out fun j hj => by
          by_cases h1 : j < done
          · rw [if_neg (by omega), if_pos h1, if_pos (by omega)]
          · by_cases h2 : j < done + p
            · rw [if_pos (by omega), if_pos h2]
            · rw [if_neg (by omega), if_neg h1, if_neg h2]), Lib.hid (below_step HBL.out HB4.out), HX⟩
      · have hdone : done = m := by omega
        have HE := Lib.hid (HF.out wr (row_step HG.out fun j hj => by rw [if_pos (by omega), if_pos hj]) HBL.out)
        clear hdone
        go_wp2_with fail
        go_ret2
        exact HE.out
end Go.Proofs.Ytpnnonphagddgaa
