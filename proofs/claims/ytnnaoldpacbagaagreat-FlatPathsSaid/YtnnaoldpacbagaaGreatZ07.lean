/- A body told by its size, its chunks, its bytes; and Read. Cut and Free. Write. Write: what its loop holds, and its ends. Write, walked. Holes: the numbers of the chunks that are not there. -/
import Derived.Test.YtnnaoldpacbagaaGreatZ06
section
namespace Go.Proofs.YtnnaoldpacbagaaGreat.bl
open Go.RowKit
set_option linter.unusedVariables false
set_option linter.unusedSimpArgs false


/-- What a body is: its size, which chunks are there, its bytes. -/
structure AB where
  size : Nat
  th : Nat → Bool
  dat : Nat → UInt8
def AB.n (b : AB) : Nat := cnt 4096 b.th
structure AB.Ok (b : AB) : Prop where
  size : b.size ≤ 65536
  th : ∀ k, b.th k = true → 16 * k < b.size
  dat : ∀ i, b.size ≤ i → b.dat i = 0
theorem below_step {w0 w w' : World} {X : Nat} (h : Below X w0 w) (hb : Below X w w') : Below X w0 w' := h.trans hb
structure Bod (w : World) (S B M : Nat) (b : AB) : Prop where
  c : BodC w S B M b.size
  m : MapAt w M b.th b.dat b.n
  ok : b.Ok
theorem Bod.of {w : World} {S B M N : Nat} {b : AB} (c : BodC w S B M b.size) (m : MapAt w M b.th b.dat N) (ok : b.Ok) : Bod w S B M b := by
  refine ⟨c, ?_, ok⟩
  have h := m.cnt (N := 4096) fun k hk => by have h1 := ok.th k hk; have h2 := ok.size; omega
  unfold AB.n
  rw [← h]
  exact m
theorem Bod.keep {w w' : World} {S B M : Nat} {b : AB} (h : Bod w S B M b) (h1 : w'.heap[B]? = w.heap[B]?) (h2 : w'.heap[M]? = w.heap[M]?) : Bod w' S B M b := ⟨h.c.below h1, h.m.of_block h2, h.ok⟩
theorem Bod.ltB {w : World} {S B M : Nat} {b : AB} (h : Bod w S B M b) : B < w.heap.size := World.block_lt_of_cell? w _ h.c.c0
theorem Bod.ltM {w : World} {S B M : Nat} {b : AB} (h : Bod w S B M b) : M < w.heap.size := h.m.lt
theorem Bod.below {w w' : World} {S B M X : Nat} {b : AB} (h : Bod w S B M b) (hb : Below X w w') (h1 : B < X) (h2 : M < X) : Bod w' S B M b := h.keep (hb.block B h1) (hb.block M h2)

set_option maxRecDepth 100000 in
theorem make_bytes (w : World) (n : Nat) (hn : n ≤ 1000000) :
    (Instr.makeSlice 53 (.int .i64 (n : Int)) (.int .i64 (n : Int))).run Tryz.prog w = .ok (.slice (some ⟨w.heap.size, 0, none⟩) n n) (w.alloc (.cells (rowF n (fun _ => 0)).toArray 5)) := by
  obtain ⟨i, hi, hz, hs, hb⟩ := info_parts (P := Tryz.prog) (e := 5) (z := .int .u8 0) (size := 1) (bytes := 1) (by kernel_rfl)
  have hr := run_make (P := Tryz.prog) w 53 5 i (.int .u8 0) Tryz.underlying53 hi hz .i64 .i64 n n (by omega) (Int.le_refl _) (by rw [hb]; omega) (by omega)
  rw [hr]
  simp only [Int.toNat_natCast, hs]
  congr 3
  apply Array.ext_getElem?
  intro j
  simp [madeCells, rowF, Value.cells, U8, Nat.mod_one, Array.getElem?_range, List.getElem?_range]
  by_cases h : j < n <;> simp [h]

/-- A row of bytes of the call's own. -/
def Row (w : World) (lo : Nat) (A : Option Addr) (n c : Nat) (f : Nat → UInt8) : Prop := n = c ∧ ((A = none ∧ n = 0) ∨ ∃ g, lo ≤ g ∧ A = some ⟨g, 0, none⟩ ∧ w.heap[g]? = some (.cells (rowF n f).toArray 5 (0, 0)))
def readR (b : AB) (off n : Int) : Int × Nat := if off < 0 ∨ n < 0 then (22, 0) else (0, min n.toNat (b.size - off.toNat))
def ReadE (w : World) (b : AB) (off n : Int) (e : Ending) (w' : World) : Prop :=
  ∃ A c, e = .returned (.tuple #[.slice A (readR b off n).2 c, .int .i64 (readR b off n).1]) ∧ Row w' w.heap.size A (readR b off n).2 c (fun j => b.dat (off.toNat + j)) ∧ Below w.heap.size w w'

theorem row_step {m g : Nat} {w : World} {f f' : Nat → UInt8} (h : w.heap[g]? = some (.cells (rowF m f).toArray 5 (0, 0))) (hf : ∀ j, j < m → f j = f' j) : w.heap[g]? = some (.cells (rowF m f').toArray 5 (0, 0)) := by
  rw [← rowF_congr hf]; exact h

set_option maxRecDepth 100000 in
theorem take_at (S B M g L s done : Nat) (b : AB) (f : Nat → UInt8) (w : World) (hb : Bod w S B M b) (ha : s + done ≤ 65536) (hg : w.heap[g]? = some (.cells (rowF L f).toArray 5 (0, 0))) (hd : done < L) :
    Calls Tryz.prog 167 #[Pq B, .int .i64 ((s : Int) + (done : Int)), .slice (some ⟨g, done, none⟩) (L - done) (L - done)] w (fun e w' => ∃ m : Nat, e = .returned (.int .i64 (m : Int)) ∧ 0 < m ∧ done + m ≤ L ∧
      w'.heap[g]? = some (.cells (rowF L (fun j => if done ≤ j ∧ j < done + m then b.dat (s + j) else f j)).toArray 5 (0, 0)) ∧ Below g w w') := by
  have h := take_any S B M b.size b.n (s + done) ((s + done) / 16) ((s + done) % 16) done (L - done) (L - done) g L b.th b.dat f w hb.c hb.m (by omega) (by omega) ha hg (by omega)
  rw [show ((s : Int) + (done : Int)) = ((s + done : Nat) : Int) from by omega]
  refine h.mono fun e w' ⟨he, h1, h2⟩ => ⟨_, he, by omega, by omega, row_step h1 fun j _ => ?_, h2⟩
  split
  · congr 1; omega
  · rfl

set_option maxRecDepth 100000 in
set_option maxHeartbeats 1000000 in
theorem read_any (S B M : Nat) (b : AB) (off n : Int) (w : World) (hb : Bod w S B M b) : Calls Tryz.prog 124 #[Pq S, Pq B, .int .i64 off, .int .i64 n] w (ReadE w b off n) := by
  have ho := owns_any S B M b.size w hb.c
  have hB := hb.ltB
  have hM := hb.ltM
  have hsz := hb.ok.size
  by_cases h0 : off < 0
  · have HP := Lib.hid (show ReadE w b off n (.returned (.tuple #[.slice none 0 0, .int .i64 22])) w from by
      have : readR b off n = (22, 0) := by unfold readR; rw [if_pos (Or.inl h0)]
      refine ⟨none, 0, ?_, ?_, Below.refl _ _⟩
      · rw [this]
      · rw [this]; exact ⟨rfl, .inl ⟨rfl, rfl⟩⟩)
    clear hsz hB hM
    go_enter Tryz.func124, Tryz.ntmps124
    go_wp2
    go_ret2
    exact HP.out
  by_cases h1 : n < 0
  · have HP := Lib.hid (show ReadE w b off n (.returned (.tuple #[.slice none 0 0, .int .i64 22])) w from by
      have : readR b off n = (22, 0) := by unfold readR; rw [if_pos (Or.inr h1)]
      refine ⟨none, 0, ?_, ?_, Below.refl _ _⟩
      · rw [this]
      · rw [this]; exact ⟨rfl, .inl ⟨rfl, rfl⟩⟩)
    clear hsz hB hM
    go_enter Tryz.func124, Tryz.ntmps124
    go_wp2
    go_ret2
    exact HP.out
  obtain ⟨s, rfl⟩ : ∃ s : Nat, off = (s : Int) := ⟨off.toNat, by omega⟩
  obtain ⟨q, rfl⟩ : ∃ q : Nat, n = (q : Int) := ⟨n.toNat, by omega⟩
  have hR : readR b (s : Int) (q : Int) = (0, min q (b.size - s)) := by unfold readR; rw [if_neg (by omega)]; simp
  have c1 := hb.c.c1
  by_cases h2 : b.size ≤ s
  · have HP := Lib.hid (show ReadE w b (s : Int) (q : Int) (.returned (.tuple #[.slice none 0 0, .int .i64 0])) w from by
      have : readR b (s : Int) (q : Int) = (0, 0) := by rw [hR, show min q (b.size - s) = 0 from by omega]
      refine ⟨none, 0, ?_, ?_, Below.refl _ _⟩
      · rw [this]
      · rw [this]; exact ⟨rfl, .inl ⟨rfl, rfl⟩⟩)
    clear hsz hB hM hR
    have h2b : (b.size : Int) ≤ (s : Int) := by omega
    have h2c : ¬ ((s : Int) < (b.size : Int)) := by omega
    go_enter Tryz.func124, Tryz.ntmps124
    go_wp2_with (go_at_call 137; ((with_reducible refine ho.mono ?_); rintro e w' ⟨rfl, rfl⟩))
    go_ret2
    exact HP.out
  obtain ⟨m, hm⟩ : ∃ m, m = min q (b.size - s) := ⟨_, rfl⟩
  have hmk := make_bytes w m (by omega)
  have HR := Lib.hid hR
  have HM := Lib.hid hm
  have hms : s + m ≤ 65536 := by omega
  have h2b : ¬ (b.size : Int) ≤ (s : Int) := by omega
  have h2c : ((s : Int) < (b.size : Int)) := by omega
  have HG := Lib.hid (heap_alloc_last w (.cells (rowF m (fun _ => 0)).toArray 5))
  have HB := Lib.hid (hb.below (below_one w (.cells (rowF m (fun _ => 0)).toArray 5)) hB hM)
  have HBL := Lib.hid (below_one w (.cells (rowF m (fun _ => 0)).toArray 5))
  have HF := Lib.hid (show ∀ w', w'.heap[w.heap.size]? = some (.cells (rowF m (fun j => if j < m then b.dat (s + j) else 0)).toArray 5 (0, 0)) → Below w.heap.size w w' →
      ReadE w b (s : Int) (q : Int) (.returned (.tuple #[.slice (some ⟨w.heap.size, 0, none⟩) m m, .int .i64 0])) w' from fun w' hg hbl => by
    refine ⟨some ⟨w.heap.size, 0, none⟩, m, ?_, ?_, hbl⟩
    · rw [hR, ← hm]
    · rw [hR, ← hm]
      exact ⟨rfl, .inr ⟨w.heap.size, Nat.le_refl _, rfl, row_step hg fun j hj => by rw [if_pos hj, Int.toNat_natCast]⟩⟩)
  have h2d : decide (b.size ≤ s) = false := by simp; omega
  have key : (m = q ∧ (q : Int) ≤ (b.size : Int) - (s : Int)) ∨ ((b.size : Int) - (s : Int) = (m : Int) ∧ ¬ ((q : Int) ≤ (m : Int))) := by omega
  clear hR hm hb h2
  rcases key with ⟨rfl, hle⟩ | ⟨hd, hlt⟩
  · go_enter Tryz.func124, Tryz.ntmps124
    go_wp2_with (go_at_call 137; ((with_reducible refine ho.mono ?_); rintro e w' ⟨rfl, rfl⟩))
    clear hmk
    generalize hW : w.alloc (.cells (rowF m (fun _ => 0)).toArray 5) = W at *
    have HW := Lib.hid hW
    clear hW
    go_loopg [12] m (fun g s12 wr => ∃ done : Nat, g + done = m ∧ s12 = .int .i64 (done : Int) ∧ Hid (wr.heap[w.heap.size]? = some (.cells (rowF m (fun j => if j < done then b.dat (s + j) else 0)).toArray 5 (0, 0))) ∧ Hid (Below w.heap.size w wr) ∧ Hid (Bod wr S B M b))
    case atStart => exact ⟨0, by omega, rfl, Lib.hid (row_step HG.out fun j _ => by simp), HBL, HB⟩
    case round =>
      clear HG HBL HB
      obtain ⟨done, hg, rfl, HG, HBL, HB⟩ := hrel
      by_cases hlt : done < m
      · have HT := Lib.hid (take_at S B M w.heap.size m s done b _ wr HB.out (by omega) HG.out hlt)
        have hne : ¬ m = done := by omega
        go_wp2_with fail
        refine HT.out.mono ?_
        rintro e w4 ⟨p, rfl, hp0, hp1, hrow, hb4⟩
        have HR4 := Lib.hid hrow
        have HB4 := Lib.hid hb4
        have HX := Lib.hid (HB.out.below hb4 hB hM)
        clear hrow hb4 HT
        go_wp2_with fail
        go_roundg (gk - p)
        case measure => omega
        case rel => exact ⟨done + p, by omega, by go_num, Lib.hid (row_step HR4.out fun j hj => by
          by_cases h1 : j < done
          · rw [if_neg (by omega), if_pos h1, if_pos (by omega)]
          · by_cases h2 : j < done + p
            · rw [if_pos (by omega), if_pos h2]
            · rw [if_neg (by omega), if_neg h1, if_neg h2]), Lib.hid (below_step HBL.out HB4.out), HX⟩
      · have hdone : done = m := by omega
        have HE := Lib.hid (HF.out wr (row_step HG.out fun j hj => by rw [if_pos (by omega), if_pos hj]) HBL.out)
        clear hdone
        go_wp2_with fail
        go_ret2
        exact HE.out
  · go_enter Tryz.func124, Tryz.ntmps124
    go_wp2_with (go_at_call 137; ((with_reducible refine ho.mono ?_); rintro e w' ⟨rfl, rfl⟩))
    clear hmk
    generalize hW : w.alloc (.cells (rowF m (fun _ => 0)).toArray 5) = W at *
    have HW := Lib.hid hW
    clear hW
    go_loopg [12] m (fun g s12 wr => ∃ done : Nat, g + done = m ∧ s12 = .int .i64 (done : Int) ∧ Hid (wr.heap[w.heap.size]? = some (.cells (rowF m (fun j => if j < done then b.dat (s + j) else 0)).toArray 5 (0, 0))) ∧ Hid (Below w.heap.size w wr) ∧ Hid (Bod wr S B M b))
    case atStart => exact ⟨0, by omega, rfl, Lib.hid (row_step HG.out fun j _ => by simp), HBL, HB⟩
    case round =>
      clear HG HBL HB
      obtain ⟨done, hg, rfl, HG, HBL, HB⟩ := hrel
      by_cases hlt : done < m
      · have HT := Lib.hid (take_at S B M w.heap.size m s done b _ wr HB.out (by omega) HG.out hlt)
        have hne : ¬ m = done := by omega
        go_wp2_with fail
        refine HT.out.mono ?_
        rintro e w4 ⟨p, rfl, hp0, hp1, hrow, hb4⟩
        have HR4 := Lib.hid hrow
        have HB4 := Lib.hid hb4
        have HX := Lib.hid (HB.out.below hb4 hB hM)
        clear hrow hb4 HT
        go_wp2_with fail
        go_roundg (gk - p)
        case measure => omega
        case rel => exact ⟨done + p, by omega, by go_num, Lib.hid (row_step HR4.out fun j hj => by
          by_cases h1 : j < done
          · rw [if_neg (by omega), if_pos h1, if_pos (by omega)]
          · by_cases h2 : j < done + p
            · rw [if_pos (by omega), if_pos h2]
            · rw [if_neg (by omega), if_neg h1, if_neg h2]), Lib.hid (below_step HBL.out HB4.out), HX⟩
      · have hdone : done = m := by omega
        have HE := Lib.hid (HF.out wr (row_step HG.out fun j hj => by rw [if_pos (by omega), if_pos hj]) HBL.out)
        clear hdone
        go_wp2_with fail
        go_ret2
        exact HE.out
end Go.Proofs.YtnnaoldpacbagaaGreat.bl
end
section
namespace Go.Proofs.YtnnaoldpacbagaaGreat.bl
open Go.RowKit
set_option linter.unusedVariables false
set_option linter.unusedSimpArgs false


def cutB (b : AB) (n : Nat) : AB := ⟨n, fun k => b.th k && decide (16 * k < n), fun i => if i < n then b.dat i else 0⟩
def cut (b : AB) (off : Int) : AB := if 0 ≤ off ∧ off ≤ 65536 then cutB b off.toNat else b
def cutR (off : Int) : Int := if off < 0 then 22 else if 65536 < off then 27 else 0
theorem cnt_le {N : Nat} {f g : Nat → Bool} (h : ∀ k, f k = true → g k = true) : cnt N f ≤ cnt N g := by
  unfold cnt
  rw [← List.countP_eq_length_filter, ← List.countP_eq_length_filter]
  exact List.countP_mono_left fun x _ hx => h x hx
theorem StoC.drew {w : World} {S room used : Nat} (h : StoC w S room used) : StoC w.drew S room used := ⟨h.c0, h.c1, h.f1⟩
theorem BodC.drew {w : World} {S B M n : Nat} (h : BodC w S B M n) : BodC w.drew S B M n := ⟨h.c0, h.c1, h.c2, h.f1⟩
def fp (S B M : Nat) (x : Nat) : Prop := x = S ∨ x = B ∨ x = M
/-- Behind a call that may have turned a body and its store. -/
structure BodE (w : World) (S B M room used : Nat) (b b' : AB) (w' : World) : Prop where
  s : StoC w' S room (used + b'.n - b.n)
  b : Bod w' S B M b'
  o : Only (fp S B M) w w'
def CutE (w : World) (S B M room used : Nat) (b : AB) (off : Int) (e : Ending) (w' : World) : Prop :=
  e = .returned (.int .i64 (cutR off)) ∧ BodE w S B M room used b (cut b off) w'

def delT (b : AB) (c k : Nat) : Nat → Bool := fun x => b.th x && !(decide (c ≤ x ∧ x < k))
def delD (b : AB) (c k : Nat) : Nat → UInt8 := fun i => if c ≤ i / 16 ∧ i / 16 < k then 0 else b.dat i

theorem cnt_congr {N : Nat} {f g : Nat → Bool} (h : ∀ k, f k = g k) : cnt N f = cnt N g := by
  obtain rfl : f = g := funext h
  rfl
theorem delT_cut {b : AB} {n c k : Nat} (ok : b.Ok) (hc : c = (n + 15) / 16) (hck : c ≤ k) (hk : (b.size + 15) / 16 ≤ k) (x : Nat) : delT b c k x = (cutB b n).th x := by
  show (b.th x && !(decide (c ≤ x ∧ x < k))) = (b.th x && decide (16 * x < n))
  cases hx : b.th x
  · rfl
  · have h1 := ok.th x hx
    by_cases h : 16 * x < n
    · have h2 : ¬ (c ≤ x ∧ x < k) := by omega
      simp [h, h2]
    · have h2 : (c ≤ x ∧ x < k) := by omega
      simp [h, h2]
set_option maxRecDepth 100000 in
theorem wipe_any (S B M n N a : Nat) (th : Nat → Bool) (dat : Nat → UInt8) (w : World) (hb : BodC w S B M n) (hM : MapAt w M th dat N) (ha : a ≤ 65536) :
    Calls Tryz.prog 198 #[Pq B, .int .i64 (a : Int)] w (fun e w' => e = .returned (.tuple #[]) ∧ MapAt w' M th (wiped dat a (a / 16)) N ∧ Only (· = M) w w') := by
  cases ht : th (a / 16)
  · refine (wipe_hole S B M n N a (a / 16) th dat w hb hM (by omega) ha ht).mono fun e w' ⟨he, hbl⟩ => ⟨he, ?_, Only.of_below hbl⟩
    refine (hM.of_block (hbl.block M hM.lt)).ext (fun _ => rfl) fun i => ?_
    unfold wiped
    split
    · next h =>
      have := hM.holes (a / 16) ht (i % 16) (by omega)
      rw [show 16 * (a / 16) + i % 16 = i from by omega] at this
      exact this.symm
    · rfl
  · exact wipe_there S B M n N a (a / 16) (a % 16) th dat w hb hM (by omega) (by omega) ha ht
set_option maxHeartbeats 1000000 in
set_option maxRecDepth 100000 in
theorem cut_any (S B M room used : Nat) (b : AB) (off : Int) (w : World) (hb : Bod w S B M b) (hs : StoC w S room used) (hu : b.n ≤ used) (hr : used ≤ 65536) (hSB : S ≠ B) (hSM : S ≠ M) (hBM : B ≠ M) :
    Calls Tryz.prog 189 #[Pq S, Pq B, .int .i64 off] w (CutE w S B M room used b off) := by
  have ho := owns_any S B M b.size w hb.c
  have hSl := World.block_lt_of_cell? w _ hs.c0
  have hB := hb.ltB
  have hM := hb.ltM
  have hsz := hb.ok.size
  have HSAME := Lib.hid (show ∀ e v, cut b off = b → cutR off = v → e = .returned (.int .i64 v) → CutE w S B M room used b off e w from fun e v h1 h2 he =>
    ⟨by rw [h2]; exact he, by rw [h1, Nat.add_sub_cancel]; exact hs, by rw [h1]; exact hb, Only.refl _ _⟩)
  by_cases h0 : off < 0
  · have HP := Lib.hid (HSAME.out _ 22 (by unfold cut; rw [if_neg (by omega)]) (by unfold cutR; rw [if_pos h0]) rfl)
    clear hsz hB hM hSB hSM hBM
    go_enter Tryz.func189, Tryz.ntmps189
    go_wp2
    go_ret
    exact HP.out
  by_cases h1 : 65536 < off
  · have HP := Lib.hid (HSAME.out _ 27 (by unfold cut; rw [if_neg (by omega)]) (by unfold cutR; rw [if_neg (by omega), if_pos h1]) rfl)
    clear hsz hB hM hSB hSM hBM
    go_enter Tryz.func189, Tryz.ntmps189
    go_wp2_with (go_at_call 137; ((with_reducible refine ho.mono ?_); rintro e w' ⟨rfl, rfl⟩))
    go_ret
    exact HP.out
  obtain ⟨n, rfl⟩ : ∃ n : Nat, off = (n : Int) := ⟨off.toNat, by omega⟩
  have hn : n ≤ 65536 := by omega
  have hcut : cut b (n : Int) = cutB b n := by unfold cut; rw [if_pos (by omega), Int.toNat_natCast]
  have hcutR : cutR (n : Int) = 0 := by unfold cutR; rw [if_neg (by omega), if_neg (by omega)]
  have c1 := hb.c.c1
  have c2 := hb.c.c2
  have hlen := hb.m.len 3
  have hck := chunksTo_any n w (by omega)
  have HCUT := Lib.hid hcut
  have HCR := Lib.hid hcutR
  have HB := Lib.hid hb
  have HS := Lib.hid hs
  have HNE := Lib.hid (show S ≠ B ∧ S ≠ M ∧ B ≠ M from ⟨hSB, hSM, hBM⟩)
  clear hcut hcutR hb hs HSAME hSB hSM hBM
  obtain ⟨c, hc⟩ : ∃ c, c = (n + 15) / 16 := ⟨_, rfl⟩
  obtain ⟨d, hd⟩ : ∃ d, d = (b.size + 15) / 16 := ⟨_, rfl⟩
  rw [← hc] at hck
  have HC := Lib.hid hc
  have HD := Lib.hid hd
  have hcl : c ≤ 4096 := by omega
  have hdl : d ≤ 4096 := by omega
  clear hc hd
  go_enter Tryz.func189, Tryz.ntmps189
  go_wp2_with (first | (go_at_call 137; ((with_reducible refine ho.mono ?_); rintro e w' ⟨rfl, rfl⟩)) | (go_at_call 197; ((with_reducible refine hck.mono ?_); rintro e w' ⟨rfl, rfl⟩)))
  clear ho hck hlen
  go_loopg [9] (4096 - c) (fun g s9 wr => ∃ (k N : Nat), g + k = 4096 ∧ c ≤ k ∧ s9 = .int .i64 (k : Int) ∧ (k ≤ d ∨ k = c) ∧ Hid (MapAt wr M (delT b c k) (delD b c k) N) ∧ Hid (Only (· = M) w wr))
  case atStart => exact ⟨c, b.n, by omega, by omega, rfl, by omega, Lib.hid (HB.out.m.ext (fun x => by unfold delT; simp; omega) (fun i => by unfold delD; rw [if_neg (by omega)])), Lib.hid (Only.refl _ _)⟩
  case round =>
    obtain ⟨k, N, hg, hck, rfl, hkd, HM, HO⟩ := hrel
    have hbB := HO.out.block B hB HNE.out.2.2
    have hc2 := (World.cell?_of_block (a := ⟨B, 2, none⟩) hbB).trans c2
    have hc1 := (World.cell?_of_block (a := ⟨B, 1, none⟩) hbB).trans c1
    have HCK := Lib.hid (show Calls Tryz.prog 197 #[.int .i64 (b.size : Int)] wr (fun e w' => e = .returned (.int .i64 (d : Int)) ∧ wr = w') by rw [HD.out]; exact chunksTo_any b.size wr (by omega))
    by_cases hlt : k < d
    · obtain ⟨w3, hdel, hM3, hO3⟩ := HM.out.del (dat' := delD b c (k + 1)) k (fun i hi => by
        unfold delD
        by_cases h : c ≤ i / 16 ∧ i / 16 < k
        · rw [if_pos (by omega), if_pos h]
        · rw [if_neg (by omega), if_neg h]) (fun j hj => by unfold delD; rw [if_pos (by omega)]) 0
      have HM3 := Lib.hid (hM3.ext (th' := delT b c (k + 1)) (fun x => by
        unfold updB delT
        by_cases e : x = k
        · subst e
          have : decide (c ≤ x ∧ x < x + 1) = true := by simp; omega
          rw [this, if_pos rfl]; simp
        · have : decide (c ≤ x ∧ x < k + 1) = decide (c ≤ x ∧ x < k) := decide_eq_decide.2 (by omega)
          rw [this, if_neg e]) (fun _ => rfl))
      have HO3 := Lib.hid (HO.out.trans hO3)
      clear hM3 hO3 hbB
      go_wp2_with (go_at_call 197; ((with_reducible refine HCK.out.mono ?_); rintro e w' ⟨rfl, rfl⟩))
      go_roundg (gk - 1)
      case measure => omega
      case rel => exact ⟨k + 1, _, by omega, by omega, by go_num, by omega, HM3, HO3⟩
    · have hN : N = cnt 4096 (delT b c k) := HM.out.cnt fun x hx => by
        unfold delT at hx
        simp only [Bool.and_eq_true] at hx
        have h1 := HB.out.ok.th x hx.1
        omega
      have hNb : N ≤ b.n := by rw [hN]; exact cnt_le fun x hx => by unfold delT at hx; simp only [Bool.and_eq_true] at hx; exact hx.1
      have hbS := HO.out.block S hSl HNE.out.2.1
      have s1 : wr.drew.cell? ⟨S, 1, none⟩ = some (.int .i64 (used : Int)) := (World.cell?_of_block (a := ⟨S, 1, none⟩) hbS).trans HS.out.c1
      have f1 : wr.drew.frozen? ⟨S, 1, none⟩ = false := (World.frozen?_of_block (a := ⟨S, 1, none⟩) hbS).trans HS.out.f1
      have d2 : wr.drew.cell? ⟨B, 2, none⟩ = some (.map (some M)) := hc2
      have hln : (Builtin.len_ #[217] 3 #[.map (some M)]).run Tryz.prog wr.drew = .ok (.int .i64 (N : Int)) wr.drew := MapAt.len (w := wr.drew) HM.out 3
      have HN := Lib.hid hN
      have HBS := Lib.hid hbS
      have HBB := Lib.hid hbB
      clear hN hbS hbB
      go_wp2_with (go_at_call 197; ((with_reducible refine HCK.out.mono ?_); rintro e w' ⟨rfl, rfl⟩))
      go_region
      obtain ⟨U, hU⟩ : ∃ U : Nat, U = used - (b.n - N) := ⟨_, rfl⟩
      have hUi : (used : Int) - ((b.n : Int) - (N : Int)) = (U : Int) := by omega
      rw [hUi]
      have W1 : StoC (wr.setCell ⟨S, 1, none⟩ (.int .i64 (U : Int))).drew S room U := ((HS.out.below HBS.out).set U).drew
      have W2 : BodC (wr.setCell ⟨S, 1, none⟩ (.int .i64 (U : Int))).drew S B M b.size := (HB.out.c.below HBB.out).below (set_block fun e => HNE.out.1 e.symm)
      have W3 : MapAt (wr.setCell ⟨S, 1, none⟩ (.int .i64 (U : Int))).drew M (delT b c k) (delD b c k) N := HM.out.of_block (set_block fun e => HNE.out.2.1 e.symm)
      have W4 : Only (fp S B M) w (wr.setCell ⟨S, 1, none⟩ (.int .i64 (U : Int))).drew := ((HO.out.mono (G := fp S B M) fun x hx => Or.inr (Or.inr hx)).setCell (p := ⟨S, 1, none⟩) (Or.inl rfl) _).drew
      generalize (wr.setCell ⟨S, 1, none⟩ (.int .i64 (U : Int))).drew = W at *
      have HWI := Lib.hid (wipe_any S B M b.size N n (delT b c k) (delD b c k) W W2 W3 hn)
      have HW1 := Lib.hid W1
      have HW2 := Lib.hid W2
      have HW4 := Lib.hid W4
      have HU := Lib.hid hU
      clear W1 W2 W3 W4 hU hUi s1 f1 d2 hln hc2 hc1 c1 c2
      have hBW := HW4.out.size
      go_wp2_with fail
      refine HWI.out.mono ?_
      rintro e w6 ⟨rfl, hm6, ho6⟩
      have hb6 := ho6.block B (Nat.lt_of_lt_of_le hB hBW) HNE.out.2.2
      have e1 := (World.cell?_of_block (a := ⟨B, 1, none⟩) hb6).trans HW2.out.c1
      have e2 := (World.frozen?_of_block (a := ⟨B, 1, none⟩) hb6).trans HW2.out.f1
      have HM6 := Lib.hid hm6
      have HO6 := Lib.hid ho6
      have HB6 := Lib.hid hb6
      clear hm6 ho6 hb6
      go_wp2
      go_ret
      have hS6 := HO6.out.block S (Nat.lt_of_lt_of_le hSl hBW) HNE.out.2.1
      have hcN : (cutB b n).n = N := by
        rw [HN.out]
        exact cnt_congr fun x => (delT_cut HB.out.ok HC.out hck (by have := HD.out; omega) x).symm
      refine ⟨?_, ?_, ?_, ?_⟩
      · rw [HCR.out]; rfl
      · rw [HCUT.out, hcN, show used + N - b.n = U from by rw [HU.out]; omega]
        exact (HW1.out.below hS6).below (set_block HNE.out.1)
      · rw [HCUT.out]
        refine Bod.of (N := N) ((HW2.out.below HB6.out).set n) ?_ ⟨hn, fun x hx => ?_, fun i hi => ?_⟩
        · refine (HM6.out.of_block (set_block fun e => HNE.out.2.2 e.symm)).ext (fun x => ?_) fun i => ?_
          · exact (delT_cut HB.out.ok HC.out hck (by have := HD.out; omega) x).symm
          · unfold cutB wiped delD
            dsimp only
            have h1 := HC.out
            have h2 := HD.out
            have h3 := HB.out.ok.dat i
            by_cases hi : i < n
            · rw [if_pos hi, if_neg (by omega), if_neg (by omega)]
            · rw [if_neg hi]
              by_cases h4 : i / 16 = n / 16
              · rw [if_pos (by omega)]
              · rw [if_neg (by omega)]
                by_cases h5 : i / 16 < k
                · rw [if_pos (by omega)]
                · rw [if_neg (by omega), h3 (by omega)]
        · simp only [cutB, Bool.and_eq_true, decide_eq_true_eq] at hx ⊢
          exact hx.2
        · simp only [cutB] at hi ⊢
          rw [if_neg (by omega)]
      · exact (HW4.out.trans (HO6.out.mono fun x hx => Or.inr (Or.inr hx))).setCell (Or.inr (Or.inl rfl)) _

set_option maxRecDepth 100000 in
theorem free_any (S B M room used : Nat) (b : AB) (w : World) (hb : Bod w S B M b) (hs : StoC w S room used) (hu : b.n ≤ used) (hr : used ≤ 65536) (hSB : S ≠ B) (hSM : S ≠ M) (hBM : B ≠ M) :
    Calls Tryz.prog 176 #[Pq S, Pq B] w (fun e w' => e = .returned (.tuple #[]) ∧ BodE w S B M room used b (cut b 0) w') := by
  have h := cut_any S B M room used b 0 w hb hs hu hr hSB hSM hBM
  clear hb hs hu hr hSB hSM hBM
  go_enter Tryz.func176, Tryz.ntmps176
  go_wp2_with (go_at_call 189; ((with_reducible refine h.mono ?_); rintro e w' ⟨rfl, h2⟩))
  go_end0
  exact ⟨rfl, h2⟩
end Go.Proofs.YtnnaoldpacbagaaGreat.bl
end
section
namespace Go.Proofs.YtnnaoldpacbagaaGreat.bl
open Go.RowKit
set_option linter.unusedVariables false
set_option linter.unusedSimpArgs false


/-- Bytes that lie in memory, in no block of F. -/
def BytesIn (w : World) (F : Nat → Prop) (A : Option Addr) (n : Nat) (f : Nat → UInt8) : Prop := ∀ i, i < n → ∃ b off, A = some ⟨b, off, none⟩ ∧ ¬ F b ∧ b < w.heap.size ∧ w.cell? ⟨b, off + i, none⟩ = some (U8 (f i))
theorem BytesIn.only {w w' : World} {F : Nat → Prop} {A : Option Addr} {n : Nat} {f : Nat → UInt8} (h : BytesIn w F A n f) (ho : Only F w w') : BytesIn w' F A n f := fun i hi => by
  obtain ⟨b, off, e, hF, hl, h0⟩ := h i hi
  exact ⟨b, off, e, hF, Nat.lt_of_lt_of_le hl ho.size, (World.cell?_of_block (a := ⟨b, off + i, none⟩) (ho.block b hl hF)).trans h0⟩
theorem BytesIn.part {w : World} {F : Nat → Prop} {b off n p T : Nat} {f : Nat → UInt8} (h : BytesIn w F (some ⟨b, off, none⟩) n f) (hT : T ≤ n) : Bytes w w.heap.size (some ⟨b, off + p, none⟩) (T - p) (fun i => f (p + i)) := fun i hi => by
  obtain ⟨b', off', e, hF, hl, h0⟩ := h (p + i) (by omega)
  injection e with e
  injection e with e1 e2
  subst e1; subst e2
  exact ⟨b, off + p, rfl, hl, by rw [Nat.add_assoc]; exact h0⟩

def thW (b : AB) (s a : Nat) : Nat → Bool := fun k => b.th k || decide (s < a ∧ s < 16 * k + 16 ∧ 16 * k < a)
def usedW (b : AB) (used s a : Nat) : Nat := used + cnt 4096 (thW b s a) - b.n
def okW (b : AB) (used room s q : Nat) : Prop := thW b s (s + q) ((s + q) / 16) = true ∨ usedW b used s (s + q) < room
/-- Where writing ends. -/
structure IsStop (b : AB) (used room s T p : Nat) : Prop where
  le : p ≤ T
  ok : ∀ q, q < p → okW b used room s q
  stop : p = T ∨ ¬ okW b used room s p
theorem IsStop.eq {b : AB} {used room s T p q : Nat} (h : IsStop b used room s T p) (k : IsStop b used room s T q) : p = q := by
  rcases Nat.lt_trichotomy p q with hl | e | hl
  · exfalso
    rcases h.stop with e | e
    · have := k.le; omega
    · exact e (k.ok p hl)
  · exact e
  · exfalso
    rcases k.stop with e | e
    · have := h.le; omega
    · exact e (h.ok q hl)
def wrB (b : AB) (s p : Nat) (f : Nat → UInt8) : AB := ⟨if p = 0 then b.size else max b.size (s + p), thW b s (s + p), over b.dat s p f⟩
theorem thW_self (b : AB) (s : Nat) (k : Nat) : thW b s (s + 0) k = b.th k := by
  unfold thW
  have : ¬ (s < s + 0 ∧ s < 16 * k + 16 ∧ 16 * k < s + 0) := by omega
  simp only [decide_eq_false this, Bool.or_false]
theorem over_self (d f : Nat → UInt8) (s : Nat) (i : Nat) : over d s 0 f i = d i := by unfold over; rw [if_neg (by omega)]
theorem wrB_zero (b : AB) (s : Nat) (f : Nat → UInt8) : wrB b s 0 f = b := by
  obtain ⟨n, th, dat⟩ := b
  unfold wrB
  congr 1
  · funext k; exact thW_self _ s k
  · funext i; exact over_self _ _ _ _
theorem thW_lt {b : AB} (ok : b.Ok) {s a k : Nat} (ha : a ≤ 65536) (h : thW b s a k = true) : k < 4096 := by
  unfold thW at h
  simp only [Bool.or_eq_true, decide_eq_true_eq] at h
  rcases h with h | h
  · have h1 := ok.th k h; have h2 := ok.size; omega
  · omega
theorem wrB_ok {b : AB} (ok : b.Ok) {s p : Nat} (h : s + p ≤ 65536) (f : Nat → UInt8) : (wrB b s p f).Ok := by
  have h1 := ok.size
  refine ⟨?_, fun k hk => ?_, fun i hi => ?_⟩
  · unfold wrB; dsimp only; split <;> omega
  · unfold wrB at hk ⊢
    dsimp only at hk ⊢
    unfold thW at hk
    simp only [Bool.or_eq_true, decide_eq_true_eq] at hk
    rcases hk with hk | hk
    · have h2 := ok.th k hk; split <;> omega
    · split <;> omega
  · unfold wrB at hi ⊢
    dsimp only at hi ⊢
    unfold over
    split at hi
    · rw [if_neg (by omega)]; exact ok.dat i hi
    · rw [if_neg (by omega)]; exact ok.dat i (by omega)
theorem thW_step {b : AB} {s p m k : Nat} (hk : (s + p) / 16 = k) (hm : 0 < m) (hm2 : s + p + m ≤ 16 * k + 16) (x : Nat) : thW b s (s + (p + m)) x = updB (thW b s (s + p)) k true x := by
  unfold updB
  by_cases e : x = k
  · subst e
    rw [if_pos rfl]
    unfold thW
    have : s < s + (p + m) ∧ s < 16 * x + 16 ∧ 16 * x < s + (p + m) := by omega
    simp only [decide_eq_true this, Bool.or_true]
  · rw [if_neg e]
    unfold thW
    congr 1
    apply decide_eq_decide.2
    constructor
    · rintro ⟨h1, h2, h3⟩
      have : x < k := by omega
      omega
    · rintro ⟨h1, h2, h3⟩
      omega
theorem over_step {d f : Nat → UInt8} {s p m : Nat} (i : Nat) : over d s (p + m) f i = over (over d s p f) (s + p) m (fun i => f (p + i)) i := by
  unfold over
  by_cases h1 : s + p ≤ i ∧ i < s + p + m
  · rw [if_pos h1, if_pos (by omega)]; congr 1; omega
  · rw [if_neg h1]
    by_cases h2 : s ≤ i ∧ i < s + p
    · rw [if_pos h2, if_pos (by omega)]
    · rw [if_neg h2, if_neg (by omega)]

def wr (b : AB) (off : Int) (p : Nat) (f : Nat → UInt8) : AB := wrB b off.toNat p f
def WR (b : AB) (used room : Nat) (off : Int) (len p : Nat) (err : Int) : Prop :=
  (off < 0 ∧ p = 0 ∧ err = 22) ∨ (0 ≤ off ∧ len = 0 ∧ p = 0 ∧ err = 0) ∨ (65536 ≤ off ∧ 0 < len ∧ p = 0 ∧ err = 27) ∨
  (0 ≤ off ∧ off < 65536 ∧ 0 < len ∧ IsStop b used room off.toNat (min len (65536 - off.toNat)) p ∧ err = if p = 0 then 28 else 0)
def WriteE (w : World) (S B M room used : Nat) (b : AB) (off : Int) (len : Nat) (f : Nat → UInt8) (e : Ending) (w' : World) : Prop :=
  ∃ (p : Nat) (err : Int), e = .returned (.tuple #[.int .i64 (p : Int), .int .i64 err]) ∧ WR b used room off len p err ∧ used + (wr b off p f).n - b.n ≤ room ∧ BodE w S B M room used b (wr b off p f) w'
end Go.Proofs.YtnnaoldpacbagaaGreat.bl
end
section
namespace Go.Proofs.YtnnaoldpacbagaaGreat.bl
open Go.RowKit
set_option linter.unusedVariables false
set_option linter.unusedSimpArgs false


set_option maxRecDepth 100000 in
theorem put_at (S B M n N k T s p sb so dc len : Nat) (F : Nat → Prop) (th : Nat → Bool) (dat f : Nat → UInt8) (w : World) (hb : BodC w S B M n) (hM : MapAt w M th dat N) (hk : (s + p) / 16 = k) (ht : th k = true)
    (ha : s + p ≤ 65536) (hs : BytesIn w F (some ⟨sb, so, none⟩) len f) (hp : p < T) (hT : T ≤ len) (off : Int) (ho : off = (s : Int)) :
    Calls Tryz.prog 139 #[Pq B, .int .i64 (off + (p : Int)), .slice (some ⟨sb, so + p, none⟩) (T - p) (dc - p)] w (fun e w' => ∃ m : Nat, e = .returned (.int .i64 (m : Int)) ∧ 0 < m ∧ p + m ≤ T ∧ s + p + m ≤ 16 * k + 16 ∧
      MapAt w' M th (over dat (s + p) m (fun i => f (p + i))) N ∧ Only (· = M) w w') := by
  have h := put_any S B M n N (s + p) k ((s + p) % 16) (T - p) (dc - p) (some ⟨sb, so + p, none⟩) th dat (fun i => f (p + i)) w hb hM (by omega) (by omega) ha (hs.part hT) (by omega)
  rw [show off + (p : Int) = ((s + p : Nat) : Int) from by omega]
  refine h.mono fun e w' ⟨he, h1, h2⟩ => ⟨_, he, by omega, by omega, by omega, ?_, h2⟩
  rw [addN, if_pos ht] at h1
  exact h1.ext (fun x => by unfold updB; by_cases e : x = k <;> simp [e, ht]) (fun _ => rfl)

/-- What the loop holds at place p. -/
structure Mid (w wr : World) (S B M room used s p N : Nat) (b : AB) (f : Nat → UInt8) : Prop where
  c : BodC wr S B M b.size
  m : MapAt wr M (thW b s (s + p)) (over b.dat s p f) N
  t : StoC wr S room (used + N - b.n)
  o : Only (fp S B M) w wr
  n : b.n ≤ N
  r : used + N - b.n ≤ room
theorem Mid.num {w wr : World} {S B M room used s p N : Nat} {b : AB} {f : Nat → UInt8} (h : Mid w wr S B M room used s p N b f) (ok : b.Ok) (hs : s + p ≤ 65536) : N = cnt 4096 (thW b s (s + p)) :=
  h.m.cnt fun _ hx => thW_lt ok hs hx
theorem thW_n (b : AB) (s p : Nat) (f : Nat → UInt8) : (wrB b s p f).n = cnt 4096 (thW b s (s + p)) := rfl

theorem Mid.below {w wr w' : World} {S B M room used s p N : Nat} {b : AB} {f : Nat → UInt8} (h : Mid w wr S B M room used s p N b f) (hb : Below wr.heap.size wr w') : Mid w w' S B M room used s p N b f :=
  ⟨h.c.below (hb.block B (World.block_lt_of_cell? wr _ h.c.c0)), h.m.of_block (hb.block M h.m.lt), h.t.below (hb.block S (World.block_lt_of_cell? wr _ h.t.c0)), h.o.trans (Only.of_below hb), h.n, h.r⟩
theorem okW_step {wr : World} {M N : Nat} {b : AB} {used room s p m k : Nat} {f : Nat → UInt8} (ok : b.Ok) (hM : MapAt wr M (thW b s (s + p)) (over b.dat s p f) N) (hsp : s + p ≤ 65536)
    (h : ∀ q, q < p → okW b used room s q) (hk : (s + p) / 16 = k) (hm : s + p + m ≤ 16 * k + 16) (hp : used + N - b.n < room ∨ thW b s (s + p) k = true) : ∀ q, q < p + m → okW b used room s q := by
  intro q hq
  have hN := hM.cnt (N := 4096) fun _ hx => thW_lt ok hsp hx
  by_cases h1 : q < p
  · exact h q h1
  · by_cases h2 : q = p
    · subst h2
      unfold okW usedW
      rw [hk, ← hN]
      exact hp.symm
    · refine Or.inl ?_
      rw [show (s + q) / 16 = k from by omega]
      unfold thW
      have : s < s + q ∧ s < 16 * k + 16 ∧ 16 * k < s + q := by omega
      simp only [decide_eq_true this, Bool.or_true]
theorem okW_not {wr : World} {M N : Nat} {b : AB} {used room s p k : Nat} {f : Nat → UInt8} (ok : b.Ok) (hM : MapAt wr M (thW b s (s + p)) (over b.dat s p f) N) (hsp : s + p ≤ 65536)
    (hk : (s + p) / 16 = k) (ht : thW b s (s + p) k = false) (hu : ¬ used + N - b.n < room) : ¬ okW b used room s p := by
  have hN := hM.cnt (N := 4096) fun _ hx => thW_lt ok hsp hx
  unfold okW usedW
  rw [hk, ← hN]
  rintro (h | h)
  · rw [ht] at h; cases h
  · exact hu h
theorem fin0 {w W : World} {S B M room used s T N len : Nat} {b : AB} {off : Int} {f : Nat → UInt8} (hb : Bod w S B M b) (hs : StoC w S room used) (hur : b.n ≤ used ∧ used ≤ room ∧ room ≤ 65536) (hT : 0 < len ∧ T = min len (65536 - s)) (ho : off = (s : Int))
    (he : IsStop b used room s T 0) (hm : Mid w W S B M room used s 0 N b f) (hs3 : off < 65536 := by omega) : WriteE w S B M room used b off len f (.returned (.tuple #[.int .i64 0, .int .i64 28])) W := by
  subst ho
  have hw : wr b (s : Int) 0 f = b := wrB_zero _ _ _
  have hm2 : MapAt W M b.th b.dat N := hm.m.ext (fun x => (thW_self b s x).symm) (fun i => (over_self b.dat f s i).symm)
  have hbW : Bod W S B M b := Bod.of hm.c hm2 hb.ok
  have hN : N = b.n := hm2.cnt (N := 4096) fun k hk => by have h1 := hb.ok.th k hk; have h2 := hb.ok.size; omega
  have hmt := hm.t
  rw [hN] at hmt
  refine ⟨0, 28, rfl, Or.inr (Or.inr (Or.inr ⟨by omega, hs3, hT.1, ?_, rfl⟩)), by rw [hw]; omega, ?_⟩
  · rw [Int.toNat_natCast, ← hT.2]; exact he
  · rw [hw]
    exact ⟨hmt, hbW, hm.o⟩
theorem fin1 {w W : World} {S B M room used s T N len p : Nat} {b : AB} {off : Int} {f : Nat → UInt8} (hb : Bod w S B M b) (hne : S ≠ B ∧ S ≠ M ∧ B ≠ M) (hur : b.n ≤ used ∧ used ≤ room ∧ room ≤ 65536) (hT : 0 < len ∧ T = min len (65536 - s)) (ho : off = (s : Int))
    (hT2 : s + T ≤ 65536) (he : IsStop b used room s T p) (hm : Mid w W S B M room used s p N b f) (hp : ¬ p = 0) (hs3 : off < 65536 := by omega) :
    (b.size ≤ s + p → WriteE w S B M room used b off len f (.returned (.tuple #[.int .i64 (p : Int), .int .i64 0])) (W.setCell ⟨B, 1, none⟩ (.int .i64 (off + (p : Int))))) ∧
    (s + p ≤ b.size → WriteE w S B M room used b off len f (.returned (.tuple #[.int .i64 (p : Int), .int .i64 0])) (W.setCell ⟨B, 1, none⟩ (.int .i64 (b.size : Int)))) := by
  subst ho
  have hle := he.le
  have hN := hm.num hb.ok (by omega)
  have hwn : (wrB b s p f).n = N := by rw [thW_n, hN]
  have main : ∀ u : Nat, u = max b.size (s + p) → WriteE w S B M room used b (s : Int) len f (.returned (.tuple #[.int .i64 (p : Int), .int .i64 0])) (W.setCell ⟨B, 1, none⟩ (.int .i64 (u : Int))) := by
    intro u hu
    have hw : wr b (s : Int) p f = wrB b s p f := by unfold wr; rw [Int.toNat_natCast]
    have hsz : (wrB b s p f).size = u := by unfold wrB; dsimp only; rw [if_neg hp, hu]
    refine ⟨p, 0, rfl, Or.inr (Or.inr (Or.inr ⟨by omega, hs3, hT.1, ?_, by rw [if_neg hp]⟩)), ?_, ?_⟩
    · rw [Int.toNat_natCast, ← hT.2]; exact he
    · rw [hw, hwn]; exact hm.r
    · rw [hw]
      refine ⟨?_, Bod.of (N := N) ?_ ?_ (wrB_ok hb.ok (by omega) f), hm.o.setCell (Or.inr (Or.inl rfl)) _⟩
      · rw [hwn]; exact hm.t.below (set_block hne.1)
      · rw [hsz]; exact hm.c.set u
      · exact hm.m.of_block (set_block fun e => hne.2.2 e.symm)
  refine ⟨fun h => ?_, fun h => main b.size (by omega)⟩
  have := main (s + p) (by omega)
  rw [show ((s + p : Nat) : Int) = (s : Int) + (p : Int) from by omega] at this
  exact this

end Go.Proofs.YtnnaoldpacbagaaGreat.bl
end
section
namespace Go.Proofs.YtnnaoldpacbagaaGreat.bl
open Go.RowKit
set_option linter.unusedVariables false
set_option linter.unusedSimpArgs false


set_option maxHeartbeats 2000000 in
set_option maxRecDepth 100000 in
theorem write_any (S B M room used len dc : Nat) (b : AB) (A : Option Addr) (off : Int) (f : Nat → UInt8) (w : World) (hb : Bod w S B M b) (hs0 : StoC w S room used) (hu : b.n ≤ used) (hur : used ≤ room) (hr : room ≤ 65536) (hSB : S ≠ B) (hSM : S ≠ M) (hBM : B ≠ M)
    (hA : BytesIn w (fp S B M) A len f) (hlc : len ≤ dc) (hdc : dc ≤ maxLen) :
    Calls Tryz.prog 92 #[Pq S, Pq B, .int .i64 off, .slice A len dc] w (WriteE w S B M room used b off len f) := by
  have ho := owns_any S B M b.size w hb.c
  have hSl := World.block_lt_of_cell? w _ hs0.c0
  have hB := hb.ltB
  have hM := hb.ltM
  have hlen : len ≤ 9223372036854775807 := by unfold maxLen at hdc; omega
  clear hdc
  have HSAME := Lib.hid (show ∀ e v, WR b used room off len 0 v → e = .returned (.tuple #[.int .i64 0, .int .i64 v]) → WriteE w S B M room used b off len f e w from fun e v h1 he => by
    have hw : wr b off 0 f = b := wrB_zero _ _ _
    refine ⟨0, v, he, h1, by rw [hw]; omega, ?_⟩
    rw [hw]
    exact ⟨by rw [Nat.add_sub_cancel]; exact hs0, hb, Only.refl _ _⟩)
  by_cases h0 : off < 0
  · have HP := Lib.hid (HSAME.out _ 22 (Or.inl ⟨h0, rfl, rfl⟩) rfl)
    clear hB hM hSB hSM hBM hu hur hr
    go_enter Tryz.func92, Tryz.ntmps92
    go_wp2
    go_ret2
    exact HP.out
  have h0' : 0 ≤ off := by omega
  by_cases hl0 : len = 0
  · have HP := Lib.hid (HSAME.out _ 0 (Or.inr (Or.inl ⟨by omega, hl0, rfl, rfl⟩)) rfl)
    have hl1 : ((len : Int) == 0) = true := by simpa using hl0
    subst hl0
    clear hB hM hSB hSM hBM hu hur hr
    go_enter Tryz.func92, Tryz.ntmps92
    go_wp2_with (go_at_call 137; ((with_reducible refine ho.mono ?_); rintro e w' ⟨rfl, rfl⟩))
    go_ret2
    exact HP.out
  have hl1 : ((len : Int) == 0) = false := by simpa using hl0
  by_cases hs2 : 65536 ≤ off
  · have HP := Lib.hid (HSAME.out _ 27 (Or.inr (Or.inr (Or.inl ⟨hs2, by omega, rfl, rfl⟩))) rfl)
    have HL0 := Lib.hid hl0
    clear hB hM hSB hSM hBM hu hur hr hl0
    go_enter Tryz.func92, Tryz.ntmps92
    go_wp2_with (go_at_call 137; ((with_reducible refine ho.mono ?_); rintro e w' ⟨rfl, rfl⟩))
    go_ret2
    exact HP.out
  obtain ⟨s, hs⟩ : ∃ s : Nat, off = (s : Int) := ⟨off.toNat, by omega⟩
  obtain ⟨T, hT⟩ : ∃ T, T = min len (65536 - s) := ⟨_, rfl⟩
  have hT1 : T ≤ len := by omega
  have hT2 : s + T ≤ 65536 := by omega
  have hT0 : 0 < T := by omega
  have HT := Lib.hid (show 0 < len ∧ T = min len (65536 - s) from ⟨by omega, hT⟩)
  obtain ⟨sb, so, rfl, -⟩ := hA 0 (by omega)
  have key : (T = len ∧ (len : Int) ≤ (65536 : Int) - off) ∨ ((65536 : Int) - off = (T : Int) ∧ ¬ ((len : Int) ≤ (T : Int))) := by omega
  have HL0 := Lib.hid hl0
  have HOFF := Lib.hid hs
  have HB := Lib.hid hb
  have HS := Lib.hid hs0
  have HA := Lib.hid hA
  have HNE := Lib.hid (show S ≠ B ∧ S ≠ M ∧ B ≠ M from ⟨hSB, hSM, hBM⟩)
  have HUR := Lib.hid (show b.n ≤ used ∧ used ≤ room ∧ room ≤ 65536 from ⟨hu, hur, hr⟩)
  have HTC := Lib.hid (show T ≤ dc from by omega)
  have HST := Lib.hid (show Mid w w S B M room used s 0 b.n b f from ⟨hb.c, hb.m.ext (fun x => thW_self b s x) (fun i => over_self _ _ _ _), by rw [Nat.add_sub_cancel]; exact hs0, Only.refl _ _, Nat.le_refl _, by omega⟩)
  have HT2 := Lib.hid (show s + T ≤ 65536 ∧ T ≤ len from ⟨hT2, hT1⟩)
  have hT2i : off + (T : Int) ≤ 65536 := by omega
  have hleni : (len : Int) ≤ 9223372036854775807 := by omega
  have hs3 : off < 65536 := by omega
  clear hT hT2 hT1 hlen hl0 hb hs hs0 hA hSB hSM hBM hu hur hr HSAME
  have hq2 : off + (T : Int) - off = (T : Int) := by omega
  have hs4 : decide (65536 ≤ off) = false := by simp; omega
  rcases key with ⟨hTl, hle⟩ | ⟨hd, hlt⟩
  · subst hTl
    go_enter Tryz.func92, Tryz.ntmps92
    go_wp2_with fail
    refine ho.mono ?_
    rintro e w' ⟨rfl, rfl⟩
    go_wp2_with fail
    go_loopg [12] T (fun g s12 wr => ∃ p N : Nat, g + p = T ∧ s12 = .int .i64 (off + (p : Int)) ∧ Hid (Mid w wr S B M room used s p N b f) ∧ Hid (∀ q, q < p → okW b used room s q))
    case atStart => exact ⟨0, b.n, by omega, by simp, HST, Lib.hid (fun q hq => absurd hq (Nat.not_lt_zero _))⟩
    case round =>
      clear HST ho
      obtain ⟨p, N, hg, rfl, HM, HK⟩ := hrel
      have HWR := Lib.hid (HM.out.o.size)
      have hq1 : off + (p : Int) - off = (p : Int) := by omega
      by_cases hpT : p < T
      · obtain ⟨k, hk⟩ : ∃ k, k = (s + p) / 16 := ⟨_, rfl⟩
        have hki : (off + (p : Int)) / 16 = (k : Int) := by have := HOFF.out; omega
        have HKE := Lib.hid hk
        have hpTi : (p : Int) < (T : Int) := by omega
        have hndc : ¬ dc = p := by have := HTC.out; omega
        clear hk
        cases ht : thW b s (s + p) k
        · by_cases hroom : used + N - b.n < room
          · have HP := Lib.hid (prov_make S B M b.size N k room (used + N - b.n) _ _ wr HM.out.c HM.out.m HM.out.t ht hroom HUR.out.2.2 HNE.out.2.1)
            have HTK := Lib.hid ht
            have HRM := Lib.hid hroom
            clear ht hroom
            go_wp2_with fail
            refine HP.out.mono ?_
            rintro e w2 ⟨rfl, hm2, ht2, ho2⟩
            have hBlr := Nat.lt_of_lt_of_le hB HWR.out
            have hc2 := HM.out.c.below (ho2.block B hBlr (by have := HNE.out; intro h; rcases h with h | h; exact this.2.2 h; exact this.1 h.symm))
            have ho2' := ho2.mono (G := fp S B M) (by intro x hx; rcases hx with h | h; exact Or.inr (Or.inr h); exact Or.inl h)
            have HPUT := Lib.hid (put_at S B M b.size (N + 1) k T s p sb so dc T (fp S B M) _ _ f w2 hc2 hm2 HKE.out.symm (by unfold updB; rw [if_pos rfl]) (by have := HT2.out; omega) ((HA.out.only HM.out.o).only ho2') hpT HT2.out.2 off HOFF.out)
            have HT2' := Lib.hid ht2
            have HO2 := Lib.hid ho2'
            have HC2 := Lib.hid hc2
            clear hm2 ht2 ho2 ho2' hc2 HP
            go_wp2_with fail
            refine HPUT.out.mono ?_
            rintro e w3 ⟨m, rfl, hm0, hm1, hm2, hm3, ho3⟩
            have hB2 := Nat.lt_of_lt_of_le hBlr HO2.out.size
            have HMID := Lib.hid (show Mid w w3 S B M room used s (p + m) (N + 1) b f from ⟨HC2.out.below (ho3.block B hB2 HNE.out.2.2),
              hm3.ext (fun x => (thW_step HKE.out.symm hm0 hm2 x).trans (by unfold updB; by_cases e : x = k <;> simp [e])) (fun i => over_step i),
              by have := HT2'.out; rw [show used + (N + 1) - b.n = used + N - b.n + 1 from by have := HM.out.n; have := HUR.out.1; omega]; exact this.below (ho3.block S (Nat.lt_of_lt_of_le (Nat.lt_of_lt_of_le hSl HWR.out) HO2.out.size) HNE.out.2.1),
              (HM.out.o.trans HO2.out).trans (ho3.mono fun x h => Or.inr (Or.inr h)), by have := HM.out.n; omega, by have := HRM.out; omega⟩)
            have HOK := Lib.hid (show ∀ q, q < p + m → okW b used room s q from okW_step HB.out.ok HM.out.m (by have := HT2.out; omega) HK.out HKE.out.symm hm2 (Or.inl HRM.out))
            clear hm3 ho3 HPUT hm2
            go_wp2_with fail
            go_roundg (gk - m)
            case measure => omega
            case rel => exact ⟨p + m, N + 1, by omega, by go_num, HMID, HOK⟩
          · have HP := Lib.hid (prov_full S B M b.size N k room (used + N - b.n) _ _ wr HM.out.c HM.out.m HM.out.t ht (by omega))
            have HTK := Lib.hid ht
            have HRM := Lib.hid hroom
            clear ht hroom
            go_wp2_with fail
            refine HP.out.mono ?_
            rintro e w2 ⟨rfl, hbl⟩
            have HMID := Lib.hid (HM.out.below hbl)
            have HEND := Lib.hid (show IsStop b used room s T p from ⟨by omega, HK.out, Or.inr (okW_not HB.out.ok HM.out.m (by have := HT2.out; omega) HKE.out.symm HTK.out HRM.out)⟩)
            have hBlr := Nat.lt_of_lt_of_le (Nat.lt_of_lt_of_le hB HWR.out) hbl.size
            have c1 := HMID.out.c.c1
            have f1 := HMID.out.c.f1
            clear hbl HP HM HK
            by_cases hp0 : p = 0
            · subst hp0
              have HF := Lib.hid (fin0 (f := f) HB.out HS.out HUR.out HT.out HOFF.out HEND.out HMID.out)
              go_wp2_with fail
              go_ret2
              exact HF.out
            · have hne : (off + (p : Int) == off) = false := by simp; omega
              have HF := Lib.hid (fin1 (f := f) HB.out HNE.out HUR.out HT.out HOFF.out HT2.out.1 HEND.out HMID.out hp0)
              have hmx : ¬ (off + (p : Int) ≤ (b.size : Int)) ∨ (off + (p : Int) ≤ (b.size : Int)) := by omega
              clear hp0
              rcases hmx with hmx | hmx
              · have hmax := HF.out.1 (by have := HOFF.out; omega)
                have HFF := Lib.hid hmax
                clear hmax HF
                go_wp2_with fail
                go_ret2
                exact HFF.out
              · have hmax := HF.out.2 (by have := HOFF.out; omega)
                have HFF := Lib.hid hmax
                clear hmax HF
                go_wp2_with fail
                go_ret2
                exact HFF.out
        · have HP := Lib.hid (prov_there S B M b.size N k _ _ wr HM.out.c HM.out.m ht)
          have HTK := Lib.hid ht
          clear ht
          go_wp2_with fail
          refine HP.out.mono ?_
          rintro e w2 ⟨rfl, hbl⟩
          have hmid := HM.out.below hbl
          have HPUT := Lib.hid (put_at S B M b.size N k T s p sb so dc T (fp S B M) _ _ f w2 hmid.c hmid.m HKE.out.symm HTK.out (by have := HT2.out; omega) (HA.out.only hmid.o) hpT HT2.out.2 off HOFF.out)
          have HMI := Lib.hid hmid
          have hB2 := Nat.lt_of_lt_of_le (Nat.lt_of_lt_of_le hB HWR.out) hbl.size
          have hS2 := Nat.lt_of_lt_of_le (Nat.lt_of_lt_of_le hSl HWR.out) hbl.size
          clear hmid hbl HP
          go_wp2_with fail
          refine HPUT.out.mono ?_
          rintro e w3 ⟨m, rfl, hm0, hm1, hm2, hm3, ho3⟩
          have HMID := Lib.hid (show Mid w w3 S B M room used s (p + m) N b f from ⟨HMI.out.c.below (ho3.block B hB2 HNE.out.2.2),
            hm3.ext (fun x => (thW_step HKE.out.symm hm0 hm2 x).trans (by have := HTK.out; unfold updB; by_cases e : x = k <;> simp [e, this])) (fun i => over_step i),
            HMI.out.t.below (ho3.block S hS2 HNE.out.2.1), HMI.out.o.trans (ho3.mono fun x h => Or.inr (Or.inr h)), HMI.out.n, HMI.out.r⟩)
          have HOK := Lib.hid (show ∀ q, q < p + m → okW b used room s q from okW_step HB.out.ok HM.out.m (by have := HT2.out; omega) HK.out HKE.out.symm hm2 (Or.inr HTK.out))
          clear hm3 ho3 HPUT hm2
          go_wp2_with fail
          go_roundg (gk - m)
          case measure => omega
          case rel => exact ⟨p + m, N, by omega, by go_num, HMID, HOK⟩
      · have hpE : p = T := by omega
        have HMID := HM
        have HEND := Lib.hid (show IsStop b used room s T p from ⟨by omega, HK.out, Or.inl hpE⟩)
        have c1 := HMID.out.c.c1
        have f1 := HMID.out.c.f1
        have hp0 : ¬ p = 0 := by omega
        have hpTi : ¬ ((p : Int) < (T : Int)) := by omega
        have hBlr := Nat.lt_of_lt_of_le hB HWR.out
        have hne : (off + (p : Int) == off) = false := by simp; omega
        have HF := Lib.hid (fin1 (f := f) HB.out HNE.out HUR.out HT.out HOFF.out HT2.out.1 HEND.out HMID.out hp0)
        have hmx : ¬ (off + (p : Int) ≤ (b.size : Int)) ∨ (off + (p : Int) ≤ (b.size : Int)) := by omega
        have HPE := Lib.hid hpE
        clear hp0 hpE
        rcases hmx with hmx | hmx
        · have hmax := HF.out.1 (by have := HOFF.out; omega)
          have HFF := Lib.hid hmax
          clear hmax HF
          go_wp2_with fail
          go_ret2
          exact HFF.out
        · have hmax := HF.out.2 (by have := HOFF.out; omega)
          have HFF := Lib.hid hmax
          clear hmax HF
          go_wp2_with fail
          go_ret2
          exact HFF.out
  · go_enter Tryz.func92, Tryz.ntmps92
    go_wp2_with fail
    refine ho.mono ?_
    rintro e w' ⟨rfl, rfl⟩
    go_wp2_with fail
    go_loopg [12] T (fun g s12 wr => ∃ p N : Nat, g + p = T ∧ s12 = .int .i64 (off + (p : Int)) ∧ Hid (Mid w wr S B M room used s p N b f) ∧ Hid (∀ q, q < p → okW b used room s q))
    case atStart => exact ⟨0, b.n, by omega, by simp, HST, Lib.hid (fun q hq => absurd hq (Nat.not_lt_zero _))⟩
    case round =>
      clear HST ho
      obtain ⟨p, N, hg, rfl, HM, HK⟩ := hrel
      have HWR := Lib.hid (HM.out.o.size)
      have hq1 : off + (p : Int) - off = (p : Int) := by omega
      by_cases hpT : p < T
      · obtain ⟨k, hk⟩ : ∃ k, k = (s + p) / 16 := ⟨_, rfl⟩
        have hki : (off + (p : Int)) / 16 = (k : Int) := by have := HOFF.out; omega
        have HKE := Lib.hid hk
        have hpTi : (p : Int) < (T : Int) := by omega
        have hndc : ¬ dc = p := by have := HTC.out; omega
        clear hk
        cases ht : thW b s (s + p) k
        · by_cases hroom : used + N - b.n < room
          · have HP := Lib.hid (prov_make S B M b.size N k room (used + N - b.n) _ _ wr HM.out.c HM.out.m HM.out.t ht hroom HUR.out.2.2 HNE.out.2.1)
            have HTK := Lib.hid ht
            have HRM := Lib.hid hroom
            clear ht hroom
            go_wp2_with fail
            refine HP.out.mono ?_
            rintro e w2 ⟨rfl, hm2, ht2, ho2⟩
            have hBlr := Nat.lt_of_lt_of_le hB HWR.out
            have hc2 := HM.out.c.below (ho2.block B hBlr (by have := HNE.out; intro h; rcases h with h | h; exact this.2.2 h; exact this.1 h.symm))
            have ho2' := ho2.mono (G := fp S B M) (by intro x hx; rcases hx with h | h; exact Or.inr (Or.inr h); exact Or.inl h)
            have HPUT := Lib.hid (put_at S B M b.size (N + 1) k T s p sb so dc len (fp S B M) _ _ f w2 hc2 hm2 HKE.out.symm (by unfold updB; rw [if_pos rfl]) (by have := HT2.out; omega) ((HA.out.only HM.out.o).only ho2') hpT HT2.out.2 off HOFF.out)
            have HT2' := Lib.hid ht2
            have HO2 := Lib.hid ho2'
            have HC2 := Lib.hid hc2
            clear hm2 ht2 ho2 ho2' hc2 HP
            go_wp2_with fail
            refine HPUT.out.mono ?_
            rintro e w3 ⟨m, rfl, hm0, hm1, hm2, hm3, ho3⟩
            have hB2 := Nat.lt_of_lt_of_le hBlr HO2.out.size
            have HMID := Lib.hid (show Mid w w3 S B M room used s (p + m) (N + 1) b f from ⟨HC2.out.below (ho3.block B hB2 HNE.out.2.2),
              hm3.ext (fun x => (thW_step HKE.out.symm hm0 hm2 x).trans (by unfold updB; by_cases e : x = k <;> simp [e])) (fun i => over_step i),
              by have := HT2'.out; rw [show used + (N + 1) - b.n = used + N - b.n + 1 from by have := HM.out.n; have := HUR.out.1; omega]; exact this.below (ho3.block S (Nat.lt_of_lt_of_le (Nat.lt_of_lt_of_le hSl HWR.out) HO2.out.size) HNE.out.2.1),
              (HM.out.o.trans HO2.out).trans (ho3.mono fun x h => Or.inr (Or.inr h)), by have := HM.out.n; omega, by have := HRM.out; omega⟩)
            have HOK := Lib.hid (show ∀ q, q < p + m → okW b used room s q from okW_step HB.out.ok HM.out.m (by have := HT2.out; omega) HK.out HKE.out.symm hm2 (Or.inl HRM.out))
            clear hm3 ho3 HPUT hm2
            go_wp2_with fail
            go_roundg (gk - m)
            case measure => omega
            case rel => exact ⟨p + m, N + 1, by omega, by go_num, HMID, HOK⟩
          · have HP := Lib.hid (prov_full S B M b.size N k room (used + N - b.n) _ _ wr HM.out.c HM.out.m HM.out.t ht (by omega))
            have HTK := Lib.hid ht
            have HRM := Lib.hid hroom
            clear ht hroom
            go_wp2_with fail
            refine HP.out.mono ?_
            rintro e w2 ⟨rfl, hbl⟩
            have HMID := Lib.hid (HM.out.below hbl)
            have HEND := Lib.hid (show IsStop b used room s T p from ⟨by omega, HK.out, Or.inr (okW_not HB.out.ok HM.out.m (by have := HT2.out; omega) HKE.out.symm HTK.out HRM.out)⟩)
            have hBlr := Nat.lt_of_lt_of_le (Nat.lt_of_lt_of_le hB HWR.out) hbl.size
            have c1 := HMID.out.c.c1
            have f1 := HMID.out.c.f1
            clear hbl HP HM HK
            by_cases hp0 : p = 0
            · subst hp0
              have HF := Lib.hid (fin0 (f := f) HB.out HS.out HUR.out HT.out HOFF.out HEND.out HMID.out)
              go_wp2_with fail
              go_ret2
              exact HF.out
            · have hne : (off + (p : Int) == off) = false := by simp; omega
              have HF := Lib.hid (fin1 (f := f) HB.out HNE.out HUR.out HT.out HOFF.out HT2.out.1 HEND.out HMID.out hp0)
              have hmx : ¬ (off + (p : Int) ≤ (b.size : Int)) ∨ (off + (p : Int) ≤ (b.size : Int)) := by omega
              clear hp0
              rcases hmx with hmx | hmx
              · have hmax := HF.out.1 (by have := HOFF.out; omega)
                have HFF := Lib.hid hmax
                clear hmax HF
                go_wp2_with fail
                go_ret2
                exact HFF.out
              · have hmax := HF.out.2 (by have := HOFF.out; omega)
                have HFF := Lib.hid hmax
                clear hmax HF
                go_wp2_with fail
                go_ret2
                exact HFF.out
        · have HP := Lib.hid (prov_there S B M b.size N k _ _ wr HM.out.c HM.out.m ht)
          have HTK := Lib.hid ht
          clear ht
          go_wp2_with fail
          refine HP.out.mono ?_
          rintro e w2 ⟨rfl, hbl⟩
          have hmid := HM.out.below hbl
          have HPUT := Lib.hid (put_at S B M b.size N k T s p sb so dc len (fp S B M) _ _ f w2 hmid.c hmid.m HKE.out.symm HTK.out (by have := HT2.out; omega) (HA.out.only hmid.o) hpT HT2.out.2 off HOFF.out)
          have HMI := Lib.hid hmid
          have hB2 := Nat.lt_of_lt_of_le (Nat.lt_of_lt_of_le hB HWR.out) hbl.size
          have hS2 := Nat.lt_of_lt_of_le (Nat.lt_of_lt_of_le hSl HWR.out) hbl.size
          clear hmid hbl HP
          go_wp2_with fail
          refine HPUT.out.mono ?_
          rintro e w3 ⟨m, rfl, hm0, hm1, hm2, hm3, ho3⟩
          have HMID := Lib.hid (show Mid w w3 S B M room used s (p + m) N b f from ⟨HMI.out.c.below (ho3.block B hB2 HNE.out.2.2),
            hm3.ext (fun x => (thW_step HKE.out.symm hm0 hm2 x).trans (by have := HTK.out; unfold updB; by_cases e : x = k <;> simp [e, this])) (fun i => over_step i),
            HMI.out.t.below (ho3.block S hS2 HNE.out.2.1), HMI.out.o.trans (ho3.mono fun x h => Or.inr (Or.inr h)), HMI.out.n, HMI.out.r⟩)
          have HOK := Lib.hid (show ∀ q, q < p + m → okW b used room s q from okW_step HB.out.ok HM.out.m (by have := HT2.out; omega) HK.out HKE.out.symm hm2 (Or.inr HTK.out))
          clear hm3 ho3 HPUT hm2
          go_wp2_with fail
          go_roundg (gk - m)
          case measure => omega
          case rel => exact ⟨p + m, N, by omega, by go_num, HMID, HOK⟩
      · have hpE : p = T := by omega
        have HMID := HM
        have HEND := Lib.hid (show IsStop b used room s T p from ⟨by omega, HK.out, Or.inl hpE⟩)
        have c1 := HMID.out.c.c1
        have f1 := HMID.out.c.f1
        have hp0 : ¬ p = 0 := by omega
        have hpTi : ¬ ((p : Int) < (T : Int)) := by omega
        have hBlr := Nat.lt_of_lt_of_le hB HWR.out
        have hne : (off + (p : Int) == off) = false := by simp; omega
        have HF := Lib.hid (fin1 (f := f) HB.out HNE.out HUR.out HT.out HOFF.out HT2.out.1 HEND.out HMID.out hp0)
        have hmx : ¬ (off + (p : Int) ≤ (b.size : Int)) ∨ (off + (p : Int) ≤ (b.size : Int)) := by omega
        have HPE := Lib.hid hpE
        clear hp0 hpE
        rcases hmx with hmx | hmx
        · have hmax := HF.out.1 (by have := HOFF.out; omega)
          have HFF := Lib.hid hmax
          clear hmax HF
          go_wp2_with fail
          go_ret2
          exact HFF.out
        · have hmax := HF.out.2 (by have := HOFF.out; omega)
          have HFF := Lib.hid hmax
          clear hmax HF
          go_wp2_with fail
          go_ret2
          exact HFF.out
end Go.Proofs.YtnnaoldpacbagaaGreat.bl
end
section
namespace Go.Proofs.YtnnaoldpacbagaaGreat.bl
open Go.RowKit
set_option linter.unusedVariables false
set_option linter.unusedSimpArgs false


def holesL (c : Nat) (th : Nat → Bool) : List Nat := (List.range c).filter fun k => !th k
def Iv (k : Nat) : Value := .int .i64 (k : Int)
theorem holesL_yes {k : Nat} {th : Nat → Bool} (h : th k = true) : holesL (k + 1) th = holesL k th := by unfold holesL; rw [List.range_succ, List.filter_append]; simp [h]
theorem holesL_no {k : Nat} {th : Nat → Bool} (h : th k = false) : holesL (k + 1) th = holesL k th ++ [k] := by unfold holesL; rw [List.range_succ, List.filter_append]; simp [h]
theorem holesL_le (k : Nat) (th : Nat → Bool) : (holesL k th).length ≤ k := by
  unfold holesL
  refine Nat.le_trans (List.length_filter_le _ _) (by simp)
def HolesE (w : World) (L : List Nat) (e : Ending) (w' : World) : Prop := ∃ v, e = .returned v ∧ w'.ownsRow w.heap.size 3 1 v L.length (L.map Iv) ∧ Below w.heap.size w w'
theorem own_slice {w : World} {b e sz n : Nat} {v : Value} {L : List Value} (h : w.ownsRow b e sz v n L) : ∃ A c, v = .slice A n c := by
  rcases h.2 with ⟨h1, h2⟩ | ⟨g, cap, cur, h1, _⟩
  · exact ⟨none, 0, by rw [h1, h2]⟩
  · exact ⟨_, cap, h1⟩
theorem cell_new1 (w : World) (v : Value) (t : TypeId) : ∀ j u, [v][j]? = some u → (w.alloc (.cells #[v] t)).cell? ((⟨w.heap.size, 0, none⟩ : Addr).add j) = some u := by
  intro j u hj
  rcases j with _ | j
  · simp at hj
    subst hj
    simp [Addr.add]
  · simp at hj
theorem cell_new2 (w : World) (o : Obj) (v : Value) (t : TypeId) : ∀ j u, [v][j]? = some u → ((w.alloc o).alloc (.cells #[v] t)).cell? ((⟨w.heap.size + 1, 0, none⟩ : Addr).add j) = some u := by
  have h := cell_new1 (w.alloc o) v t
  rw [show (w.alloc o).heap.size = w.heap.size + 1 from by simp] at h
  exact h
end Go.Proofs.YtnnaoldpacbagaaGreat.bl
end
