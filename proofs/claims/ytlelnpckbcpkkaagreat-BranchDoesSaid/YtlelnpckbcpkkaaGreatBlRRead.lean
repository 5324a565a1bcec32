/- The document's own Holes and Read. -/
import Derived.Test.YtlelnpckbcpkkaaGreatBlRB
namespace Go.Proofs.YtlelnpckbcpkkaaGreat.bl
open Go.RowKit
set_option linter.unusedVariables false
set_option linter.unusedSimpArgs false


theorem RB.below {w w' : World} {lo C T : Nat} {vB vT : Value} {b : AB} (h : RB w lo C vB vT b T) (hb : Below w.heap.size w w') : RB w' lo C vB vT b T := by
  have hC : C < w.heap.size := World.block_lt_of_cell? w _ h.c0
  have hg : w.grownBy w' none := ⟨hb.os, hb.tape, hb.output, hb.size, fun k hk _ => hb.block k hk⟩
  exact ⟨(hb.cell (p := ⟨C, 0, none⟩) hC).trans h.c0, (hb.cell (p := ⟨C, 1, none⟩) hC).trans h.c1, (hb.frozen (p := ⟨C, 0, none⟩) hC).trans h.f0, (hb.frozen (p := ⟨C, 1, none⟩) hC).trans h.f1,
    h.rB.kept hg (Classical.em _), h.rT.kept hg (Classical.em _), h.tT, h.le, h.nB, h.nT, h.sep⟩
theorem lit_empty (w : World) (base : Nat) (e : TypeId) (hb : base ≤ w.heap.size) : (w.alloc (.cells #[] e)).ownsRow base e 1 (.slice (some ⟨w.heap.size, 0, none⟩) 0 0) 0 [] :=
  World.ownsRow_made w #[] 0 hb (by unfold maxLen; omega) rfl
def byte8 (x : UInt8) : Value := U8 x
theorem rowF_snoc (n : Nat) (f : Nat → UInt8) : rowF (n + 1) f = rowF n f ++ [U8 (f n)] := by
  unfold rowF; rw [List.range_succ, List.map_append]; rfl
def RReadE (w : World) (b : AB) (off n : Int) (e : Ending) (w' : World) : Prop :=
  ∃ v, e = .returned (.tuple #[v, .int .i64 (readR b off n).1]) ∧ w'.ownsRow w.heap.size 5 1 v (readR b off n).2 (rowF (readR b off n).2 (fun j => b.dat (off.toNat + j))) ∧ Below w.heap.size w w'
set_option maxHeartbeats 2000000 in
set_option maxRecDepth 100000 in
theorem rread_any {w : World} {lo RS C T : Nat} {vB vT : Value} {b : AB} (h : RB w lo C vB vT b T) (hsz : b.size ≤ 65536) (off n : Int) : Calls Tryz.prog 104 #[Pq RS, Pq C, .int .i64 off, .int .i64 n] w (RReadE w b off n) := by
  by_cases h0 : off < 0 ∨ n < 0
  · have HP := Lib.hid (show RReadE w b off n (.returned (.tuple #[.slice none 0 0, .int .i64 22])) w from by
      have : readR b off n = (22, 0) := by unfold readR; rw [if_pos h0]
      refine ⟨.slice none 0 0, ?_, ?_, Below.refl _ _⟩
      · rw [this]
      · rw [this]; exact World.ownsRow_nil _ _ _ _)
    have H := Lib.hid h
    clear h hsz
    by_cases h1 : off < 0
    · go_enter Tryz.func104, Tryz.ntmps104
      go_wp2
      go_ret2
      exact HP.out
    · have h2 : n < 0 := by omega
      clear h0
      go_enter Tryz.func104, Tryz.ntmps104
      go_wp2
      go_ret2
      exact HP.out
  have ho0 : ¬ off < 0 := by omega
  have hn0 : ¬ n < 0 := by omega
  clear h0
  obtain ⟨s, hs⟩ : ∃ s : Nat, off = (s : Int) := ⟨off.toNat, by omega⟩
  obtain ⟨m, hm⟩ : ∃ m, m = min n.toNat (b.size - s) := ⟨_, rfl⟩
  have hR : readR b off n = (0, m) := by unfold readR; rw [if_neg (by omega), hm, hs, Int.toNat_natCast]
  have hmi : (m : Int) ≤ 65536 := by omega
  have HR := Lib.hid hR
  have HM := Lib.hid hm
  have HS := Lib.hid hs
  obtain ⟨i0, hi, hz0, hz1, hz2⟩ := info_parts (P := Tryz.prog) (e := 5) (z := .int .u8 0) (size := 1) (bytes := 1) (by kernel_rfl)
  have HI := Lib.hid hi
  have HZ := Lib.hid (show i0.zero = some (.int .u8 0) ∧ i0.size = 1 ∧ i0.bytes = 1 from ⟨hz0, hz1, hz2⟩)
  have hszi : (b.size : Int) ≤ 65536 := by omega
  have HB := Lib.hid h
  have HL := Lib.hid (lit_empty w w.heap.size 5 (Nat.le_refl _))
  have HB0 := Lib.hid (below_one w (.cells #[] 5))
  clear hi hz0 hz1 hz2 hsz h hR hm hs
  go_enter Tryz.func104, Tryz.ntmps104
  go_wp2_with fail
  go_loopg [10, 11] m (fun g s10 s11 wr => ∃ k : Nat, g + k = m ∧ s11 = .int .i64 (off + (k : Int)) ∧ Hid (wr.ownsRow w.heap.size 5 1 s10 k (rowF k (fun j => b.dat (off.toNat + j)))) ∧ Hid (Below w.heap.size w wr))
  case atStart => exact ⟨0, by omega, by simp, HL, HB0⟩
  case round =>
    clear HL HB0
    obtain ⟨k, hg, rfl, HO, HBL⟩ := hrel
    have HBk := Lib.hid (HB.out.below HBL.out)
    have c0 := HBk.out.c0
    have HW := Lib.hid HBL.out.size
    by_cases hlt : k < m
    · have hkn : (k : Int) < n := by have := HM.out; omega
      have hks : off + (k : Int) < (b.size : Int) := by have := HM.out; have := HS.out; omega
      obtain ⟨g', c', hvb, _, hgl, hc⟩ := own_val HBk.out.rB (rowF_get b.dat (L := b.size) (j := s + k) (by have := HM.out; omega)) (by have := HM.out; omega)
      rw [hvb] at c0
      have hq : (off + (k : Int)).toNat = s + k := by have := HS.out; omega
      have HQ := Lib.hid (show b.dat (off.toNat + k) = b.dat (s + k) by rw [HS.out, Int.toNat_natCast])
      have HVB := Lib.hid hvb
      obtain ⟨A, cc, rfl⟩ := own_slice HO.out
      have hk65 : (k : Int) ≤ 65536 := by omega
      generalize b.dat (s + k) = x at *
      unfold U8 at hc
      clear hvb
      go_wp2_with (at_builtin; refine wpList_append_own _ rfl (.tmp 35) (.tmp 43) 40 rfl w.heap.size 5 i0 _ 1 1 Tryz.underlying40 HI.out HZ.out.1 HZ.out.2.1 HZ.out.2.2 rfl (by decide) (.slice A k cc) k (rowF k (fun j => b.dat (off.toNat + j))) rfl (HO.out.alloc _) ⟨wr.heap.size, 0, none⟩ 1 1 [U8 x] rfl rfl (cell_new1 _ _ _) (by intro u hu; simp at hu; subst hu; rfl) (by unfold maxLen; omega) (by omega) (by have := HW.out; simp; omega) ?_; intro v1 w3 hown1 hgrow1 _)
      go_roundg (gk - 1)
      case measure => omega
      case rel =>
        have hb3 : Below w.heap.size w w3 := (HBL.out.alloc HW.out _).grown hgrow1 (by have := HW.out; simp; omega) (fun g h => (HO.out.lt g h).1)
        refine ⟨k + 1, by omega, by simp; omega, ?_, Lib.hid hb3⟩
        rw [rowF_snoc, HQ.out]
        exact Lib.hid hown1
    · have hkm : k = m := by omega
      obtain ⟨A, cc, rfl⟩ := own_slice HO.out
      obtain ⟨Ab, cb, hvb⟩ := own_slice HBk.out.rB
      rw [hvb] at c0
      have HVB := Lib.hid hvb
      have hF : RReadE w b off n (.returned (.tuple #[.slice A k cc, .int .i64 0])) wr := by
        refine ⟨.slice A k cc, ?_, ?_, HBL.out⟩
        · rw [HR.out]
        · rw [HR.out, ← hkm]; exact HO.out
      have HF := Lib.hid hF
      have hk65 : (k : Int) ≤ 65536 := by omega
      have key : ¬ (off + (k : Int) < (b.size : Int)) ∨ (off + (k : Int) < (b.size : Int) ∧ ¬ ((k : Int) < n)) := by have := HM.out; have := HS.out; omega
      clear hkm hF hvb hlt
      rcases key with hq | ⟨hq, hq2⟩
      · go_wp2_with fail
        go_ret2
        exact HF.out
      · go_wp2_with fail
        go_ret2
        exact HF.out
end Go.Proofs.YtlelnpckbcpkkaaGreat.bl
