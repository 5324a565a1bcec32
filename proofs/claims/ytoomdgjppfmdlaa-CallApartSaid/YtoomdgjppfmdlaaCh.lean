/- What is made of the bytes that a closure takes: a number, a text. -/
import Derived.Test.YtoomdgjppfmdlaaCg
import Derived.Lib.QuoteBits
import Derived.Laws.MakeOwn
namespace Go.Proofs.Ytoomdgjppfmdlaa
open Go.RowKit
set_option linter.unusedVariables false
set_option linter.unusedSimpArgs false

theorem or_low (a b : Nat) (ha : a < 256) (hb : b < 256) : bits .or .i64 ((a : Int) * 256) (b : Int) = (a : Int) * 256 + (b : Int) := by
  have h1 : (BitVec.ofInt 64 ((a * 256 : Nat) : Int)).toNat = a * 256 := by
    rw [BitVec.ofInt_natCast, BitVec.toNat_ofNat]; exact Nat.mod_eq_of_lt (by omega)
  have h2 : (BitVec.ofInt 64 (b : Int)).toNat = b := by
    rw [BitVec.ofInt_natCast, BitVec.toNat_ofNat]; exact Nat.mod_eq_of_lt (by omega)
  rw [show (a : Int) * 256 = ((a * 256 : Nat) : Int) from by omega]
  show IntKind.i64.wrap ((BitVec.ofInt 64 ((a * 256 : Nat) : Int) ||| BitVec.ofInt 64 (b : Int)).toNat : Int) = _
  rw [BitVec.toNat_or, h1, h2, show a * 256 = 2 ^ 8 * a from by omega, ← Nat.two_pow_add_eq_or_of_lt (by omega : b < 2 ^ 8), IntKind.wrap_i64]
  omega

set_option maxHeartbeats 1000000 in
theorem dnum_any {P Q n c i : Nat} {A : Option Addr} {l : Bs} (w : World) (h : Nx w P Q A n c l i) : Calls Try.prog 28 #[Fv P Q] w (NextE w P Q A n c l (.int .i64 (num l i)) (i + 2)) := by
  have H0 := Lib.hid h
  have HV := Lib.hid (show num l i = ((at_ l i * 256 + at_ l (i + 1) : Nat) : Int) - 256 from rfl)
  have v0 := at_lt l i
  have v1 := at_lt l (i + 1)
  have hor := or_low _ _ v0 v1
  clear h
  go_enter Try.func28, Try.ntmps28
  go_wp2_with fail
  refine (next_any _ H0.out).mono ?_
  rintro e w1 ⟨rfl, h1, p1⟩
  have H1 := Lib.hid h1
  have HP1 := Lib.hid p1
  clear h1 p1
  go_wp2_with fail
  refine (next_any _ H1.out).mono ?_
  rintro e w2 ⟨rfl, h2, p2⟩
  have H2 := Lib.hid h2
  have HP2 := Lib.hid p2
  clear h2 p2
  generalize at_ l i = a at *
  generalize at_ l (i + 1) = b at *
  go_wp2_with fail
  go_ret
  exact ⟨int_eq (by rw [HV.out]; omega), H2.out, HP1.out.trans HP2.out⟩
/-- A text begun: what is there, and zeros. -/
def Zr (l : Bs) (i m k : Nat) : Bs := txt l i k ++ List.replicate (m - k) 0
theorem zr_len (l : Bs) (i m k : Nat) (h : k ≤ m) : (Zr l i m k).length = m := by unfold Zr; rw [List.length_append, txt_len, List.length_replicate]; omega
theorem zr_end (l : Bs) (i m : Nat) : Zr l i m m = txt l i m := by simp [Zr]
theorem zr_set (l : Bs) (i m k : Nat) (h : k < m) : (bcells (Zr l i m k)).toArray.setIfInBounds k (.int .u8 (at_ l (i + k) : Nat)) = (bcells (Zr l i m (k + 1))).toArray := by
  have hv := at_lt l (i + k)
  rw [List.setIfInBounds_toArray]
  congr 1
  unfold Zr bcells
  rw [show m - k = (m - (k + 1)) + 1 from by omega, List.replicate_succ, txt_snoc, List.map_append, List.map_append, List.map_append, List.map_cons, List.set_append_right _ _ (by rw [List.length_map, txt_len]; omega), List.length_map, txt_len, Nat.sub_self, List.set_cons_zero]
  rw [List.append_assoc, List.map_cons, List.map_nil, List.singleton_append]
  congr 3
  rw [UInt8.toNat_ofNat']; omega
theorem zr_made (l : Bs) (i m : Nat) : madeCells #[.int .u8 0] m = (bcells (Zr l i m 0)).toArray := by
  unfold madeCells Zr bcells
  apply Array.ext
  · simp [txt]
  · intro j h1 h2
    simp [txt, Nat.mod_one]
theorem zr_cell (l : Bs) (i m k j : Nat) {w : World} {X : Nat} (hw : w.heap[X]? = some (.cells (bcells (Zr l i m k)).toArray 5 (0, 0))) (hk : k ≤ m) (h : j < m) : ∃ b : UInt8, w.cell? ⟨X, j, none⟩ = some (.int .u8 b.toNat) := by
  have hl := zr_len l i m k hk
  refine ⟨(Zr l i m k)[j]'(by omega), ?_⟩
  rw [cell_row hw]
  simp [bcells, hl, h]
set_option maxHeartbeats 2000000 in
theorem dtext_any {P Q n c i : Nat} {A : Option Addr} {l : Bs} (w : World) (h : Nx w P Q A n c l i) : Calls Try.prog 29 #[Fv P Q] w (NextE w P Q A n c l (Sv (txt l (i + 1) (at_ l i % 64))) (i + 1 + at_ l i % 64)) := by
  have H0 := Lib.hid h
  have v0 := at_lt l i
  have hPw := h.lt
  clear h
  obtain ⟨i0, hi, hz0, hz1, hz2⟩ := info_parts info5
  have HM := Lib.hid (fun (W : World) (m : Nat) (hm : m < 64) => run_make (P := Try.prog) W 22 5 i0 _ Try.underlying22 hi hz0 .i64 .i64 m m (by omega) (by omega) (by rw [hz2]; omega) (by omega))
  have HI := Lib.hid hz1
  clear hi hz0 hz1 hz2
  go_enter Try.func29, Try.ntmps29
  go_wp2_with fail
  refine (next_any _ H0.out).mono ?_
  rintro e w1 ⟨rfl, h1, p1⟩
  have H1 := Lib.hid h1
  have HP1 := Lib.hid p1
  have hs1 : w.heap.size ≤ w1.heap.size := p1.size
  clear h1 p1
  obtain ⟨m, hm⟩ : ∃ m, at_ l i % 64 = m := ⟨_, rfl⟩
  have HMM := Lib.hid hm
  have hmi : ((at_ l i : Nat) : Int) % 64 = (m : Int) := by omega
  have hm64 : m < 64 := by omega
  clear hm
  obtain ⟨w2, hw2⟩ : ∃ w2, w1.alloc (.cells (bcells (Zr l (i + 1) m 0)).toArray 5) = w2 := ⟨_, rfl⟩
  have hr2 : w2.heap[w1.heap.size]? = some (.cells (bcells (Zr l (i + 1) m 0)).toArray 5 (0, 0)) := by rw [← hw2]; exact heap_alloc_new _ _
  have hb2 : Below w1.heap.size w1 w2 := by rw [← hw2]; exact below_alloc _ _
  have hs2 : w1.heap.size < w2.heap.size := by rw [← hw2, World.size_alloc]; omega
  have hmk : (Instr.makeSlice 22 (.int .i64 m) (.int .i64 m)).run Try.prog w1 = .ok (.slice (some ⟨w1.heap.size, 0, none⟩) m m) w2 := by
    rw [HM.out w1 m hm64, ← hw2, HI.out]
    simp only [Int.toNat_natCast, Nat.mul_one]
    rw [show (Value.int IntKind.u8 0).cells = #[.int .u8 0] from rfl, zr_made l (i + 1) m]
  obtain ⟨X, hX⟩ : ∃ X, w1.heap.size = X := ⟨_, rfl⟩
  rw [hX] at hr2 hs2 hmk hs1
  have HR2 := Lib.hid hr2
  have HN2 := Lib.hid (H1.out.below hb2)
  have HP2 := Lib.hid (HP1.out.trans (OnlyP.of_below hb2))
  have HX := Lib.hid hX
  have hXP : P < X := by have := H1.out.lt; omega
  clear hr2 hb2 hw2 hX
  go_wp2_with fail
  clear hmi
  go_loopg [11] m (fun g s wr => ∃ k : Nat, g + k = m ∧ s = .int .i64 k ∧ Hid (Nx wr P Q A n c l (i + 1 + k)) ∧ Hid (OnlyP P w wr) ∧ Hid (wr.heap[X]? = some (.cells (bcells (Zr l (i + 1) m k)).toArray 5 (0, 0))))
  case atStart => exact ⟨0, by omega, rfl, Lib.hid HN2.out, HP2, HR2⟩
  case round =>
    obtain ⟨k, hgk, rfl, HN, HP, HR⟩ := hrel
    by_cases hkm : k < m
    · have hXr : X < wr.heap.size := (Array.getElem?_eq_some_iff.1 HR.out).1
      have v1 := at_lt l (i + 1 + k)
      have HS := Lib.hid (zr_set l (i + 1) m k hkm)
      go_wp2_with fail
      refine (next_any _ HN.out).mono ?_
      rintro e w3 ⟨rfl, h3, p3⟩
      have r3 := (p3.block X hXr (by omega)).trans HR.out
      have f3 : w3.frozen? ⟨X, k, none⟩ = false := by simp [World.frozen?, r3]
      obtain ⟨b, c3⟩ := zr_cell l (i + 1) m k k r3 (by omega) hkm
      have HN3 := Lib.hid (fun v => h3.far (X := X) (j := k) hXP v)
      have HP3 := Lib.hid (fun v => (HP.out.trans p3).far (X := X) (j := k) hs1 v)
      have HR3 := Lib.hid (show (w3.setCell ⟨X, k, none⟩ (.int .u8 (at_ l (i + 1 + k) : Nat))).heap[X]? = some (.cells (bcells (Zr l (i + 1) m (k + 1))).toArray 5 (0, 0)) from by rw [← HS.out]; simp [World.setCell, Array.getElem?_modify, r3])
      clear h3 p3 r3
      generalize at_ l (i + 1 + k) = v at *
      go_wp2_with fail
      go_roundg (gk - 1)
      case measure => omega
      case rel => exact ⟨k + 1, by omega, by go_num, HN3.out _, HP3.out _, HR3⟩
    · have hk : k = m := by omega
      subst hk
      have hr := HR.out
      rw [zr_end] at hr
      have HB := Lib.hid (show Bo wr X (some ⟨X, 0, none⟩) k k (txt l (i + 1) k) from ⟨by rw [bcells_len, txt_len]; omega, .inr ⟨X, k, _, rfl, Nat.le_refl _, hr, Nat.le_refl _, by unfold maxLen; omega, by simp [bcells, txt_len], List.take_of_length_le (by simp [bcells, txt_len])⟩⟩)
      have hs := bo_string HB.out
      have hjn : ¬ ((k : Int) < (k : Int)) := by omega
      clear hr
      go_wp2_with fail
      go_ret
      rw [HMM.out]
      exact ⟨rfl, HN.out, HP.out⟩
end Go.Proofs.Ytoomdgjppfmdlaa
