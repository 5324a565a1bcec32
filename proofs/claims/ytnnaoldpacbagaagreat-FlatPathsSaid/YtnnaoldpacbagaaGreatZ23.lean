/- A view in memory; what of it is asked. 'seen', 'Get', 'Root', 'New'. 'New', 'Root', 'Get'. Nodes compared; 'Get'. -/
import Derived.Test.YtnnaoldpacbagaaGreatZ13
import Derived.Test.YtnnaoldpacbagaaGreatZ20
import Derived.BigQuiet
import Derived.StillTailTactics
import Derived.Deep.RegionHeld3
import Derived.Deep.RegionWith
import Derived.Laws.StructEq
section
namespace Go.Proofs.YtnnaoldpacbagaaGreat.mg
open Go.RowKit
open Go.Proofs.YtnnaoldpacbagaaGreat.br (BS Ino Inv fresh)
open Go.Proofs.YtnnaoldpacbagaaGreat.cb (BrX RetW RetI No)
open Go.Proofs.YtnnaoldpacbagaaGreat.bl (Pq)
set_option linter.unusedVariables false
set_option linter.unusedSimpArgs false

def bit (f : Int) (k : Nat) : Bool := decide (f / (2 : Int) ^ k % 2 = 1)
theorem lsb (f : Int) (k : Nat) (hk : k < 64) : (BitVec.ofInt 64 f).getLsbD k = bit f k := by
  unfold bit
  rw [BitVec.getLsbD, BitVec.toNat_ofInt, Nat.testBit_eq_decide_div_mod_eq]
  have e : (((f % ((2 ^ 64 : Nat) : Int)).toNat / 2 ^ k % 2 : Nat) : Int) = f / (2 : Int) ^ k % 2 := by
    have h0 : 0 ≤ f % ((2 ^ 64 : Nat) : Int) := Int.emod_nonneg _ (by decide)
    rw [Int.natCast_emod, Int.natCast_ediv, Int.toNat_of_nonneg h0]
    have hd : ((2 ^ 64 : Nat) : Int) = (2 : Int) ^ k * ((2 : Int) * (2 : Int) ^ (63 - k)) := by
      rw [show (2 : Int) * (2 : Int) ^ (63 - k) = (2 : Int) ^ (64 - k) from by rw [show 64 - k = (63 - k) + 1 from by omega, Int.pow_succ, Int.mul_comm]]
      rw [← Int.pow_add, show k + (64 - k) = 64 from by omega]; rfl
    have hp : (0 : Int) < (2 : Int) ^ k := Int.pow_pos (by decide)
    have hc : (((2 ^ k : Nat)) : Int) = (2 : Int) ^ k := by simp
    rw [hc]
    have e1 : f % ((2 ^ 64 : Nat) : Int) = f - (2 : Int) ^ k * (((2 : Int) * (2 : Int) ^ (63 - k)) * (f / ((2 ^ 64 : Nat) : Int))) := by
      have := Int.emod_def f ((2 ^ 64 : Nat) : Int)
      rw [this]
      conv => lhs; rw [hd]
      rw [Int.mul_assoc, ← hd]
    rw [e1, Int.sub_mul_ediv_left _ _ (by omega), Int.mul_assoc]
    show (f / 2 ^ k - 2 * _) % 2 = _
    rw [Int.sub_mul_emod_self_left]
  have e2 : ((f % ((2 ^ 64 : Nat) : Int)).toNat / 2 ^ k % 2 = 1) ↔ (f / (2 : Int) ^ k % 2 = 1) := by omega
  exact decide_eq_decide.2 e2
theorem small_wrap {n : Nat} (h : n ≤ 1000) : IntKind.i64.wrap (n : Int) = (n : Int) := by
  exact IntWalk.i64_in _ (by omega)
theorem and_le (f : Int) (m : Nat) (hm : m ≤ 1000) : (BitVec.ofInt 64 f &&& BitVec.ofInt 64 (m : Int)).toNat ≤ m := by
  rw [BitVec.toNat_and]
  refine Nat.le_trans Nat.and_le_right ?_
  rw [BitVec.toNat_ofInt]; omega
theorem bits_and (f : Int) (m : Nat) (hm : m ≤ 1000) : bits BinOp.and IntKind.i64 f (m : Int) = ((BitVec.ofInt 64 f &&& BitVec.ofInt 64 (m : Int)).toNat : Int) :=
  small_wrap (Nat.le_trans (and_le f m hm) hm)
theorem and_zero (f : Int) (m : Nat) : (BitVec.ofInt 64 f &&& BitVec.ofInt 64 (m : Int)).toNat = 0 ↔ ∀ k, k < 64 → (BitVec.ofInt 64 (m : Int)).getLsbD k = true → bit f k = false := by
  constructor
  · intro h k hk hb
    have : (BitVec.ofInt 64 f &&& BitVec.ofInt 64 (m : Int)) = 0#64 := BitVec.eq_of_toNat_eq (by rw [h]; rfl)
    have h2 := congrArg (fun b => b.getLsbD k) this
    simp only [BitVec.getLsbD_and, hb, Bool.and_true] at h2
    rw [← lsb f k hk, h2]; simp
  · intro h
    have : (BitVec.ofInt 64 f &&& BitVec.ofInt 64 (m : Int)) = 0#64 := by
      apply BitVec.eq_of_getLsbD_eq
      intro k hk
      rw [BitVec.getLsbD_and, lsb f k hk]
      by_cases hb : (BitVec.ofInt 64 (m : Int)).getLsbD k = true
      · rw [h k hk hb]; simp
      · simp only [Bool.not_eq_true] at hb; rw [hb]; simp
    rw [this]; rfl
theorem one_and {f : Int} {m k : Nat} (hm : m ≤ 1000) (hk : k < 64) (h : ∀ j, j < 64 → ((BitVec.ofInt 64 (m : Int)).getLsbD j = true ↔ j = k)) : (bits BinOp.and IntKind.i64 f (m : Int) != 0) = bit f k := by
  rw [bits_and f m hm, Bool.eq_iff_iff]
  have h0 := and_zero f m
  rw [bne_iff_ne]
  constructor
  · intro e
    refine Classical.byContradiction fun e2 => e ?_
    have : (BitVec.ofInt 64 f &&& BitVec.ofInt 64 (m : Int)).toNat = 0 := h0.2 fun j hj hb => by rw [(h j hj).1 hb]; simpa using e2
    rw [this]; rfl
  · intro e e2
    have e3 : (BitVec.ofInt 64 f &&& BitVec.ofInt 64 (m : Int)).toNat = 0 := by omega
    have := h0.1 e3 k hk ((h k hk).2 rfl)
    rw [this] at e; cases e

theorem opq_bit (U : BS) (u : Int) : (bits BinOp.and IntKind.i64 (U.marksOf u) 1 != 0) = opq U u := by
  rw [show bits BinOp.and IntKind.i64 (U.marksOf u) 1 = bits BinOp.and IntKind.i64 (U.marksOf u) ((1 : Nat) : Int) from rfl, one_and (m := 1) (k := 0) (by decide) (by decide) (by decide)]
  unfold bit opq
  simp
/-- A view in memory: its box V, its two branches, its roots. -/
structure Vx (w : World) (V P1 P2 : Nat) (u l : Int) (U L : BS) : Prop where
  c0 : w.cell? ⟨V, 0, none⟩ = some (Pq P1)
  c1 : w.cell? ⟨V, 1, none⟩ = some (Pq P2)
  c2 : w.cell? ⟨V, 2, none⟩ = some (.int .i64 u)
  c3 : w.cell? ⟨V, 3, none⟩ = some (.int .i64 l)
  b1 : ∃ w0 room T, BrX w0 w P1 No U room T
  b2 : ∃ w0 room T, BrX w0 w P2 No L room T
/-- A node in a box. -/
structure Nb (w : World) (g : Nat) (n : Nd) : Prop where
  c0 : w.cell? ⟨g, 0, none⟩ = some (.int .i64 n.1)
  c1 : w.cell? ⟨g, 1, none⟩ = some (.int .i64 n.2)
abbrev Nv (n : Nd) : Value := .agg #[.int .i64 n.1, .int .i64 n.2]
section
variable {w w' : World} {V P1 P2 g : Nat} {u l : Int} {U L : BS} {n : Nd}
theorem Vx.lt (h : Vx w V P1 P2 u l U L) : V < w.heap.size := World.block_lt_of_cell? _ _ h.c0
theorem Vx.below (h : Vx w V P1 P2 u l U L) (hb : Below w.heap.size w w') : Vx w' V P1 P2 u l U L :=
  ⟨(hb.cell (p := ⟨V, 0, none⟩) h.lt).trans h.c0, (hb.cell (p := ⟨V, 1, none⟩) h.lt).trans h.c1, (hb.cell (p := ⟨V, 2, none⟩) h.lt).trans h.c2, (hb.cell (p := ⟨V, 3, none⟩) h.lt).trans h.c3,
    by obtain ⟨a, b, c, h1⟩ := h.b1; exact ⟨a, b, c, h1.below hb⟩, by obtain ⟨a, b, c, h1⟩ := h.b2; exact ⟨a, b, c, h1.below hb⟩⟩
theorem Nb.lt (h : Nb w g n) : g < w.heap.size := World.block_lt_of_cell? _ _ h.c0
theorem Nb.below (h : Nb w g n) (hb : Below w.heap.size w w') : Nb w' g n :=
  ⟨(hb.cell (p := ⟨g, 0, none⟩) h.lt).trans h.c0, (hb.cell (p := ⟨g, 1, none⟩) h.lt).trans h.c1⟩
theorem Nb.new (w : World) (x y : Int) : Nb (w.alloc (.cells #[.int .i64 x, .int .i64 y] 24)) w.heap.size (x, y) := ⟨by simp, by simp⟩
theorem bel_step {w2 : World} (h : Below w.heap.size w w') (k : Below w'.heap.size w' w2) : Below w.heap.size w w2 := h.trans (k.mono h.size)
theorem bel_alloc (w : World) (o : Obj) : Below w.heap.size w (w.alloc o) := dn.below_alloc w o
theorem bel_drewN (w : World) (k : Nat) : Below w.heap.size w (w.drewN k) := dn.below_drewN (Below.refl _ _) k
theorem Vx.kindU (h : Vx w V P1 P2 u l U L) (i : Int) : Calls Tryz.prog 50 #[Pq P1, .int .i64 i] w (RetI w (U.kindOf i)) := by obtain ⟨_, _, _, k⟩ := h.b1; exact cb.x_kind k i
theorem Vx.kindL (h : Vx w V P1 P2 u l U L) (i : Int) : Calls Tryz.prog 50 #[Pq P2, .int .i64 i] w (RetI w (L.kindOf i)) := by obtain ⟨_, _, _, k⟩ := h.b2; exact cb.x_kind k i
theorem Vx.getU (h : Vx w V P1 P2 u l U L) (i : Int) (s : ByteArray) : Calls Tryz.prog 55 #[Pq P1, .int .i64 i, .string s] w (RetW w (.tuple #[.int .i64 (U.get i s).1, .int .i64 (U.get i s).2])) := by obtain ⟨_, _, _, k⟩ := h.b1; exact cb.x_get k i s
theorem Vx.getL (h : Vx w V P1 P2 u l U L) (i : Int) (s : ByteArray) : Calls Tryz.prog 55 #[Pq P2, .int .i64 i, .string s] w (RetW w (.tuple #[.int .i64 (L.get i s).1, .int .i64 (L.get i s).2])) := by obtain ⟨_, _, _, k⟩ := h.b2; exact cb.x_get k i s
theorem Vx.marksU (h : Vx w V P1 P2 u l U L) (i : Int) : Calls Tryz.prog 114 #[Pq P1, .int .i64 i] w (RetI w (U.marksOf i)) := by obtain ⟨_, _, _, k⟩ := h.b1; exact cb.x_marks k i
end
set_option maxRecDepth 100000 in
set_option maxHeartbeats 2000000 in
theorem opaque_any {w : World} {V P1 P2 : Nat} {u l : Int} {U L : BS} (h : Vx w V P1 P2 u l U L) (x : Int) : Calls Tryz.prog 51 #[Pq V, .int .i64 x] w (RetW w (.bool (opq U x))) := by
  have HM := Lib.hid (h.marksU x)
  unfold RetI at HM
  have HQ := Lib.hid (opq_bit U x)
  have c0 := h.c0
  generalize U.marksOf x = m at *
  generalize opq U x = q at *
  clear h
  go_enter Tryz.func51, Tryz.ntmps51
  go_wp2_with fail
  refine HM.out.mono ?_
  rintro _ w1 ⟨rfl, hb1⟩
  have HB := Lib.hid hb1
  clear hb1 HM
  go_wp2_with fail
  go_ret
  exact ⟨by rw [← HQ.out]; rfl, HB.out⟩
/-! ### shown, kind, listed, below, seen -/
/-- Behind the parameter's box. -/
theorem box_in {w : World} {V P1 P2 : Nat} {u l : Int} {U L : BS} (h : Vx w V P1 P2 u l U L) (n1 n2 : Int) : ∃ w1, w.alloc (.cells #[.int .i64 n1, .int .i64 n2] 24) = w1 ∧ Vx w1 V P1 P2 u l U L ∧ Nb w1 w.heap.size (n1, n2) ∧ Below w.heap.size w w1 :=
  ⟨_, rfl, h.below (bel_alloc _ _), Nb.new w n1 n2, bel_alloc _ _⟩
set_option maxRecDepth 100000 in
set_option maxHeartbeats 2000000 in
theorem shown_any {w : World} {V P1 P2 : Nat} {u l : Int} {U L : BS} (h : Vx w V P1 P2 u l U L) (n : Nd) : Calls Tryz.prog 60 #[Pq V, Nv n] w (RetW w (.tuple #[Pq (if n.1 ≠ 0 then P1 else P2), .int .i64 (if n.1 ≠ 0 then n.1 else n.2)])) := by
  obtain ⟨n1, n2⟩ := n
  dsimp only
  obtain ⟨w1, hw1, h1, hn1, hb1⟩ := box_in h n1 n2
  obtain ⟨g, hg⟩ : ∃ g, w.heap.size = g := ⟨_, rfl⟩
  have HB := Lib.hid hb1
  rw [hg] at hn1
  have c0 := h1.c0
  have c1 := h1.c1
  have t0 := hn1.c0
  have t1 := hn1.c1
  dsimp only at t0 t1
  clear h h1 hn1 hb1
  by_cases e : n1 = 0
  · subst e
    rw [if_neg (by decide), if_neg (by decide)]
    go_enter Tryz.func60, Tryz.ntmps60
    go_wp2_with fail
    go_quiet (fail)
    go_wp2_with fail
    go_ret2
    exact ⟨rfl, dn.below_drewN HB.out _⟩
  · have q : (n1 != 0) = true := by simpa using e
    rw [if_pos e, if_pos e]
    go_enter Tryz.func60, Tryz.ntmps60
    go_wp2_with fail
    go_quiet (fail)
    go_wp2_with fail
    go_ret2
    exact ⟨rfl, dn.below_drewN HB.out _⟩
theorem Vx.kindN {w : World} {V P1 P2 : Nat} {u l : Int} {U L : BS} (h : Vx w V P1 P2 u l U L) (n : Nd) : Calls Tryz.prog 50 #[Pq (if n.1 ≠ 0 then P1 else P2), .int .i64 (if n.1 ≠ 0 then n.1 else n.2)] w (RetI w (if n.1 ≠ 0 then U.kindOf n.1 else L.kindOf n.2)) := by
  by_cases e : n.1 ≠ 0
  · rw [if_pos e, if_pos e, if_pos e]; exact h.kindU _
  · rw [if_neg e, if_neg e, if_neg e]; exact h.kindL _
set_option maxRecDepth 100000 in
set_option maxHeartbeats 2000000 in
theorem kind_any {w : World} {V P1 P2 : Nat} {u l : Int} {U L : BS} (h : Vx w V P1 P2 u l U L) (n : Nd) : Calls Tryz.prog 15 #[Pq V, Nv n] w (RetI w (kindV U L n)) := by
  obtain ⟨w1, hw1, h1, hn1, hb1⟩ := box_in h n.1 n.2
  have HS := Lib.hid (shown_any h1 n)
  have HK := Lib.hid (fun W (hb : Below w1.heap.size w1 W) => (h1.below hb).kindN n)
  have HV := Lib.hid (show kindV U L n = if (if n.1 ≠ 0 then U.kindOf n.1 else L.kindOf n.2) = 4 then 0 else (if n.1 ≠ 0 then U.kindOf n.1 else L.kindOf n.2) from rfl)
  unfold RetW at HS
  unfold RetI at HK
  generalize kindV U L n = kv at *
  generalize (if n.1 ≠ 0 then U.kindOf n.1 else L.kindOf n.2) = k at *
  generalize (if n.1 ≠ 0 then P1 else P2) = P at *
  generalize (if n.1 ≠ 0 then n.1 else n.2) = i at *
  obtain ⟨g, hg⟩ : ∃ g, w.heap.size = g := ⟨_, rfl⟩
  have HB := Lib.hid hb1
  rw [hg] at hn1
  obtain ⟨n1, n2⟩ := n
  have t0 := hn1.c0
  have t1 := hn1.c1
  dsimp only at t0 t1 hw1
  clear h h1 hn1 hb1
  go_enter Tryz.func15, Tryz.ntmps15
  go_wp2_with fail
  refine HS.out.mono ?_
  rintro _ w2 ⟨rfl, hb2⟩
  have HK2 := Lib.hid (HK.out _ hb2)
  have HB2 := Lib.hid (bel_step HB.out hb2)
  clear HS HK hb2
  go_wp2_with fail
  refine HK2.out.mono ?_
  rintro _ w3 ⟨rfl, hb3⟩
  have HB3 := Lib.hid (bel_step HB2.out hb3)
  clear HK2 hb3
  by_cases e : k = 4
  · subst e
    go_wp2_with fail
    go_ret
    exact ⟨by rw [HV.out]; rfl, HB3.out⟩
  · have q : (k == 4) = false := by simpa using e
    rw [if_neg e] at HV
    go_wp2_with fail
    go_ret
    exact ⟨by rw [HV.out]; rfl, HB3.out⟩
set_option maxRecDepth 100000 in
set_option maxHeartbeats 2000000 in
theorem listed_any {w : World} {V P1 P2 : Nat} {u l : Int} {U L : BS} (h : Vx w V P1 P2 u l U L) (n : Nd) : Calls Tryz.prog 54 #[Pq V, Nv n] w (RetI w (lstV U L n)) := by
  obtain ⟨w1, hw1, h1, hn1, hb1⟩ := box_in h n.1 n.2
  have HS := Lib.hid (kind_any h1 n)
  have HV := Lib.hid (show lstV U L n = if kindV U L n = 0 then 2 else if kindV U L n = 2 then 0 else 20 from rfl)
  unfold RetI at HS
  generalize lstV U L n = lv at *
  generalize kindV U L n = k at *
  obtain ⟨g, hg⟩ : ∃ g, w.heap.size = g := ⟨_, rfl⟩
  have HB := Lib.hid hb1
  rw [hg] at hn1
  obtain ⟨n1, n2⟩ := n
  have t0 := hn1.c0
  have t1 := hn1.c1
  dsimp only at t0 t1 hw1
  clear h h1 hn1 hb1
  go_enter Tryz.func54, Tryz.ntmps54
  go_wp2_with fail
  refine HS.out.mono ?_
  rintro _ w2 ⟨rfl, hb2⟩
  have HB2 := Lib.hid (bel_step HB.out hb2)
  clear HS hb2
  by_cases e : k = 0
  · subst e
    go_wp2_with fail
    go_ret
    exact ⟨by rw [HV.out]; rfl, HB2.out⟩
  have q : (k == 0) = false := by simpa using e
  rw [if_neg e] at HV
  by_cases e2 : k = 2
  · subst e2
    go_wp2_with fail
    go_ret
    exact ⟨by rw [HV.out]; rfl, HB2.out⟩
  have q2 : (k == 2) = false := by simpa using e2
  rw [if_neg e2] at HV
  go_wp2_with fail
  go_ret
  exact ⟨by rw [HV.out]; rfl, HB2.out⟩
set_option maxRecDepth 100000 in
set_option maxHeartbeats 2000000 in
theorem below_any {w : World} {V P1 P2 : Nat} {u l : Int} {U L : BS} (h : Vx w V P1 P2 u l U L) (n : Nd) : Calls Tryz.prog 56 #[Pq V, Nv n] w (RetI w (belV U n)) := by
  obtain ⟨w1, hw1, h1, hn1, hb1⟩ := box_in h n.1 n.2
  have HS := Lib.hid (opaque_any h1 n.1)
  have HV := Lib.hid (show belV U n = if opq U n.1 = true then 0 else n.2 from rfl)
  unfold RetW at HS
  generalize belV U n = lv at *
  generalize opq U n.1 = k at *
  obtain ⟨g, hg⟩ : ∃ g, w.heap.size = g := ⟨_, rfl⟩
  have HB := Lib.hid hb1
  rw [hg] at hn1
  obtain ⟨n1, n2⟩ := n
  have HN := Lib.hid hn1
  have t0 := hn1.c0
  dsimp only at t0 hw1
  dsimp only at HV
  clear h h1 hn1 hb1
  go_enter Tryz.func56, Tryz.ntmps56
  go_wp2_with fail
  refine HS.out.mono ?_
  rintro _ w2 ⟨rfl, hb2⟩
  have HB2 := Lib.hid (bel_step HB.out hb2)
  have t1 := (HN.out.below hb2).c1
  dsimp only at t1
  clear HS hb2 HN t0
  cases k with
  | true =>
    go_wp2_with fail
    go_ret
    exact ⟨by rw [HV.out]; rfl, HB2.out⟩
  | false =>
    go_wp2_with fail
    go_ret
    exact ⟨by rw [HV.out]; rfl, HB2.out⟩
end Go.Proofs.YtnnaoldpacbagaaGreat.mg
end
section
namespace Go.Proofs.YtnnaoldpacbagaaGreat.mg
open Go.RowKit
open Go.Proofs.YtnnaoldpacbagaaGreat.br (BS Ino Inv fresh)
open Go.Proofs.YtnnaoldpacbagaaGreat.cb (BrX RetW RetI No)
open Go.Proofs.YtnnaoldpacbagaaGreat.bl (Pq)
set_option linter.unusedVariables false
set_option linter.unusedSimpArgs false

/-- A node's box that may be written. -/
structure R2 (w : World) (g : Nat) (x y : Int) : Prop where
  c0 : w.cell? ⟨g, 0, none⟩ = some (.int .i64 x)
  c1 : w.cell? ⟨g, 1, none⟩ = some (.int .i64 y)
  f0 : w.frozen? ⟨g, 0, none⟩ = false
  f1 : w.frozen? ⟨g, 1, none⟩ = false
theorem R2.new (w : World) (x y : Int) : R2 (w.alloc (.cells #[.int .i64 x, .int .i64 y] 24)) w.heap.size x y := ⟨by simp, by simp, by simp, by simp⟩
theorem R2.lt {w : World} {g : Nat} {x y : Int} (h : R2 w g x y) : g < w.heap.size := World.block_lt_of_cell? _ _ h.c0
theorem R2.same {w w' : World} {g : Nat} {x y : Int} (h : R2 w g x y) (e : w'.heap[g]? = w.heap[g]?) : R2 w' g x y :=
  ⟨(World.cell?_of_block (a := ⟨g, 0, none⟩) e).trans h.c0, (World.cell?_of_block (a := ⟨g, 1, none⟩) e).trans h.c1, (World.frozen?_of_block (a := ⟨g, 0, none⟩) e).trans h.f0, (World.frozen?_of_block (a := ⟨g, 1, none⟩) e).trans h.f1⟩
theorem R2.below {w w' : World} {g : Nat} {x y : Int} (h : R2 w g x y) (hb : Below w.heap.size w w') : R2 w' g x y := h.same (hb.block g h.lt)
theorem R2.range {w : World} {g : Nat} {x y : Int} (h : R2 w g x y) (a b : Value) : ((w.setCell ⟨g, 0, none⟩ a).setCell ⟨g, 1, none⟩ b).rangeAt g 0 [a, b] := by
  have ne : ∀ i j : Nat, i ≠ j → (⟨g, j, none⟩ : Addr) ≠ ⟨g, i, none⟩ := fun i j h e => by injection e with _ e; exact h e.symm
  have c0 : (w.cell? ⟨g, 0, none⟩).isSome = true := by rw [h.c0]; rfl
  have c1 : (w.cell? ⟨g, 1, none⟩).isSome = true := by rw [h.c1]; rfl
  intro j v hv
  rw [Nat.zero_add]
  match j, hv with
  | 0, hv =>
    cases hv
    rw [World.cell?_setCell_other _ _ _ _ (ne 0 1 (by decide))]
    exact World.cell?_setCell_same' _ _ _ c0
  | 1, hv => cases hv; exact World.cell?_setCell_same' _ _ _ (by rw [World.cell?_setCell_other _ _ _ _ (ne 1 0 (by decide))]; exact c1)
  | j + 2, hv => simp at hv
theorem set2_below {w0 w : World} {g : Nat} (hb : Below w0.heap.size w0 w) (hg : w0.heap.size ≤ g) (a b : Value) : Below w0.heap.size w0 ((w.setCell ⟨g, 0, none⟩ a).setCell ⟨g, 1, none⟩ b) :=
  (hb.setCell (show _ ≤ (⟨g, 0, none⟩ : Addr).block from hg) a).setCell (show _ ≤ (⟨g, 1, none⟩ : Addr).block from hg) b
theorem results_cell1 {fn : Func} {p : Tmp} {ty : TypeId} (h : fn.results = #[.cell p ty]) (tmps : Array Value) (w : World) (b : Nat) (cs : List Value) (d : TypeDesc)
    (hp : tmps.getD p undef = .pointer (some ⟨b, 0, none⟩)) (hc : w.rangeAt b 0 cs) (hu : Tryz.prog.underlying ty = some d) (hd : d.isRow = true) (hi : (Tryz.prog.info? ty).map (·.size) = some cs.length) :
    (results fn tmps).run Tryz.prog w = .ok (.agg cs.toArray) w := by
  rw [Array.getD_eq_getD_getElem?] at hp
  simp only [results, h]
  simp [Sem.run_bind, hp, asAddr, run_loadVar_mid w b 0 ty cs d hc hu hd hi]
theorem results_row_tmp {fn : Func} {p u : Tmp} {ty : TypeId} (h : fn.results = #[.cell p ty, .tmp u]) (tmps : Array Value) (w : World) (b : Nat) (cs : List Value) (d : TypeDesc)
    (hp : tmps.getD p undef = .pointer (some ⟨b, 0, none⟩)) (hc : w.rangeAt b 0 cs) (hu : Tryz.prog.underlying ty = some d) (hd : d.isRow = true) (hi : (Tryz.prog.info? ty).map (·.size) = some cs.length) :
    (results fn tmps).run Tryz.prog w = .ok (.tuple #[.agg cs.toArray, tmps.getD u undef]) w := by
  rw [results_cell_tmp h, hp]
  simp only [asAddr, Sem.run_pure, Result.andThen_ok, run_loadVar_mid w b 0 ty cs d hc hu hd hi]
set_option maxRecDepth 100000 in
set_option maxHeartbeats 4000000 in
theorem seen_any {w : World} {V P1 P2 : Nat} {u l : Int} {U L : BS} (h : Vx w V P1 P2 u l U L) (p : Nd) : Calls Tryz.prog 57 #[Pq V, Nv p] w (RetW w (Nv (seenV U L p))) := by
  obtain ⟨p1, p2⟩ := p
  obtain ⟨w1, hw1⟩ : ∃ w1, (w.alloc (.cells #[.int .i64 p1, .int .i64 p2] 24)).alloc (.cells #[.int .i64 0, .int .i64 0] 24) = w1 := ⟨_, rfl⟩
  have hb1 : Below w.heap.size w w1 := by rw [← hw1]; exact bel_step (bel_alloc _ _) (bel_alloc _ _)
  have h1 := h.below hb1
  have hn1 : Nb w1 w.heap.size (p1, p2) := by rw [← hw1]; exact (Nb.new w p1 p2).below (bel_alloc _ _)
  have HB := Lib.hid hb1
  have HV := Lib.hid h1
  have HN := Lib.hid hn1
  have hr1 : R2 w1 (w.heap.size + 1) 0 0 := by rw [← hw1]; have := R2.new (w.alloc (.cells #[.int .i64 p1, .int .i64 p2] 24)) 0 0; rwa [World.size_alloc] at this
  have HR := Lib.hid (fun W (hb : Below w1.heap.size w1 W) => hr1.below hb)
  have HKL := Lib.hid (fun W (hb : Below w1.heap.size w1 W) => (h1.below hb).kindL p2)
  have HKU := Lib.hid (fun W (hb : Below w1.heap.size w1 W) => (h1.below hb).kindU p1)
  have HOP := Lib.hid (fun W (hb : Below w1.heap.size w1 W) => opaque_any (h1.below hb) p1)
  have HSF := Lib.hid (show ∀ W, Below w1.heap.size w1 W → (W.cell? ⟨V, 0, none⟩ = some (Pq P1) ∧ W.cell? ⟨V, 1, none⟩ = some (Pq P2)) ∧ W.cell? ⟨w.heap.size, 0, none⟩ = some (.int .i64 p1) ∧ W.cell? ⟨w.heap.size, 1, none⟩ = some (.int .i64 p2) from fun W hb => ⟨⟨(h1.below hb).c0, (h1.below hb).c1⟩, (hn1.below hb).c0, (hn1.below hb).c1⟩)
  unfold RetI at HKL HKU
  unfold RetW at HOP
  have HSE := Lib.hid (show seenV U L (p1, p2) = (if U.kindOf p1 = 0 then (if L.kindOf p2 = 4 then (0, 0) else (0, p2)) else if U.kindOf p1 = 4 then (0, 0) else if U.kindOf p1 = 2 ∧ L.kindOf p2 = 2 ∧ opq U p1 = false then (p1, p2) else (p1, 0)) from rfl)
  generalize seenV U L (p1, p2) = r at *
  generalize L.kindOf p2 = lk at *
  generalize U.kindOf p1 = uk at *
  generalize opq U p1 = oq at *
  clear h h1 hn1 hb1 hr1
  obtain ⟨⟨k0, k1⟩, t0, t1⟩ := HSF.out w1 (Below.refl _ _)
  obtain ⟨g, hg⟩ : ∃ g, w.heap.size = g := ⟨_, rfl⟩
  rw [hg] at HSF t0 t1 HN HR
  have HGB := Lib.hid hg
  go_enter Tryz.func57, Tryz.ntmps57
  go_wp2_with fail
  go_region_held3 (fun w' => w'.cell? ⟨V, 1, none⟩ = some (Pq P2) ∧ w'.cell? ⟨g, 1, none⟩ = some (.int .i64 p2))
    (first | exact ⟨k1, t1⟩ | exact ⟨k1', t1'⟩ | assumption | go_keep)
    (first | (go_at_call 50; ((with_reducible refine (HKL.out _ (Below.refl w1.heap.size w1).drew).mono ?_); rintro _ w8 ⟨rfl, hb8⟩; have hb8' := ((Below.refl w1.heap.size w1).drew).trans hb8; have HB8 := Lib.hid hb8'; have k1' := (HSF.out _ hb8').1.2; have t1' := (HSF.out _ hb8').2.2)))
  all_goals
    clear k0 k1 t0 t1 HKL k1' t1'
    obtain ⟨⟨k0, k1⟩, t0, t1⟩ := HSF.out _ HB8.out
    have HB1 := Lib.hid (bel_step HB.out HB8.out)
    go_wp2_with fail
    go_region_held3 (fun w' => w'.cell? ⟨V, 0, none⟩ = some (Pq P1) ∧ w'.cell? ⟨g, 0, none⟩ = some (.int .i64 p1))
      (first | exact ⟨k0, t0⟩ | exact ⟨k0', t0'⟩ | assumption | go_keep)
      (first | (go_at_call 50; ((with_reducible refine (HKU.out _ HB8.out.drew).mono ?_); rintro _ w9 ⟨rfl, hb9⟩; have hb9' := bel_step HB8.out ((Below.refl w8.heap.size w8).drew.trans hb9); have HB9 := Lib.hid hb9'; have k0' := (HSF.out _ hb9').1.1; have t0' := (HSF.out _ hb9').2.1)))
  all_goals
    clear k0 k1 t0 t1 HKU k0' t0' hw1
    obtain ⟨⟨k0, k1⟩, t0, t1⟩ := HSF.out _ HB9.out
    have HB2 := Lib.hid (bel_step HB.out HB9.out)
    obtain ⟨r0, r1, f0, f1⟩ := HR.out _ HB9.out
    have HRS := Lib.hid (fun x y => (HR.out _ HB9.out).range x y)
    have HBS := Lib.hid (fun x y => set2_below HB2.out (show w.heap.size ≤ g + 1 by have := HGB.out; omega) x y)
    by_cases e0 : uk = 0
    · subst e0
      rw [if_pos rfl] at HSE
      by_cases e4 : lk = 4
      · subst e4
        rw [if_pos rfl] at HSE
        go_wp2_with fail
        refine bodyPost_ret (results_cell1 rfl _ _ (g + 1) _ _ rfl (HRS.out _ _) Tryz.underlying24 (by rfl) (by rfl)) rfl ?_
        exact ⟨by rw [HSE.out], HBS.out _ _⟩
      · have q4 : (lk == 4) = false := by simpa using e4
        rw [if_neg e4] at HSE
        go_wp2_with fail
        refine bodyPost_ret (results_cell1 rfl _ _ (g + 1) _ _ rfl (HRS.out _ _) Tryz.underlying24 (by rfl) (by rfl)) rfl ?_
        exact ⟨by rw [HSE.out], HBS.out _ _⟩
    have q0 : (uk == 0) = false := by simpa using e0
    rw [if_neg e0] at HSE
    by_cases e4 : uk = 4
    · subst e4
      rw [if_pos rfl] at HSE
      go_wp2_with fail
      refine bodyPost_ret (results_cell1 rfl _ _ (g + 1) _ _ rfl (HRS.out _ _) Tryz.underlying24 (by rfl) (by rfl)) rfl ?_
      exact ⟨by rw [HSE.out], HBS.out _ _⟩
    have q4 : (uk == 4) = false := by simpa using e4
    rw [if_neg e4] at HSE
    by_cases e2 : uk = 2
    · subst e2
      by_cases l2 : lk = 2
      · subst l2
        have HO := Lib.hid (HOP.out _ HB9.out)
        clear HOP
        go_wp2_with fail
        refine HO.out.mono ?_
        rintro _ w10 ⟨rfl, hb10⟩
        have HB10 := Lib.hid (bel_step HB9.out hb10)
        have HB3 := Lib.hid (bel_step HB.out HB10.out)
        clear HO hb10 k0 k1 t0 t1 r0 r1 f0 f1 HRS HBS
        obtain ⟨⟨k0, k1⟩, t0, t1⟩ := HSF.out _ HB10.out
        obtain ⟨r0, r1, f0, f1⟩ := HR.out _ HB10.out
        have HRS := Lib.hid (fun x y => (HR.out _ HB10.out).range x y)
        have HBS := Lib.hid (fun x y => set2_below HB3.out (show w.heap.size ≤ g + 1 by have := HGB.out; omega) x y)
        cases oq with
        | true =>
          rw [if_neg (by decide)] at HSE
          go_wp2_with fail
          refine bodyPost_ret (results_cell1 rfl _ _ (g + 1) _ _ rfl (HRS.out _ _) Tryz.underlying24 (by rfl) (by rfl)) rfl ?_
          exact ⟨by rw [HSE.out], HBS.out _ _⟩
        | false =>
          rw [if_pos (by decide)] at HSE
          go_wp2_with fail
          refine bodyPost_ret (results_cell1 rfl _ _ (g + 1) _ _ rfl (HRS.out _ _) Tryz.underlying24 (by rfl) (by rfl)) rfl ?_
          exact ⟨by rw [HSE.out], HBS.out _ _⟩
      · have q2 : (lk == 2) = false := by simpa using l2
        rw [if_neg (fun e => l2 e.2.1)] at HSE
        go_wp2_with fail
        refine bodyPost_ret (results_cell1 rfl _ _ (g + 1) _ _ rfl (HRS.out _ _) Tryz.underlying24 (by rfl) (by rfl)) rfl ?_
        exact ⟨by rw [HSE.out], HBS.out _ _⟩
    · have q2 : (uk == 2) = false := by simpa using e2
      rw [if_neg (fun e => e2 e.1)] at HSE
      go_wp2_with fail
      refine bodyPost_ret (results_cell1 rfl _ _ (g + 1) _ _ rfl (HRS.out _ _) Tryz.underlying24 (by rfl) (by rfl)) rfl ?_
      exact ⟨by rw [HSE.out], HBS.out _ _⟩
end Go.Proofs.YtnnaoldpacbagaaGreat.mg
end
section
namespace Go.Proofs.YtnnaoldpacbagaaGreat.mg
open Go.RowKit
open Go.Proofs.YtnnaoldpacbagaaGreat.br (BS Ino Inv fresh)
open Go.Proofs.YtnnaoldpacbagaaGreat.cb (BrX RetW RetI No)
open Go.Proofs.YtnnaoldpacbagaaGreat.bl (Pq)
set_option linter.unusedVariables false
set_option linter.unusedSimpArgs false

/-- A world that came of w and has turned nothing that lay in it. -/
structure BelowOf (w : World) where
  W : World
  h : Below w.heap.size w W
instance (w : World) : Inhabited (BelowOf w) := ⟨⟨w, Below.refl _ _⟩⟩
theorem wp_region_below {id : Nat} {Q : Exit → Act → World → Prop} {a : Act} {w : World} {l : List Oper} (hm : Tryz.prog.follows .mixedOrders = true) (hB : Region.lexB .any l.toArray = true)
    (h : wpQuiet Tryz.prog l.toArray (fun w' => ∃ p : BelowOf w, w' = p.W) (fun a' => ∀ w', (∃ p : BelowOf w, w' = p.W) → Q .normal a' w') l a) : (Code.region id l.toArray true).wp Tryz.prog Q a w :=
  wp_region_quiet (C := fun w' => ∃ p : BelowOf w, w' = p.W) hm hB ⟨⟨w.drew, (Below.refl _ _).drew⟩, rfl⟩ (by simpa using h)
theorem calls_below {f : FuncId} {args : Array Value} {w : World} (p : BelowOf w) {v : Value}
    (h : Calls Tryz.prog f args p.W fun e w' => e = .returned v ∧ Below p.W.heap.size p.W w') : Calls Tryz.prog f args p.W fun e w'' => e = .returned v ∧ ∃ q : BelowOf w, w'' = q.W :=
  h.mono fun _ w' ⟨he, hb⟩ => ⟨he, ⟨w', bel_step p.h hb⟩, rfl⟩
theorem BelowOf.step {w0 w : World} (p : BelowOf w) (hb : Below w0.heap.size w0 w) : Below w0.heap.size w0 p.W := bel_step hb p.h
set_option maxRecDepth 100000 in
set_option maxHeartbeats 4000000 in
theorem new_any (P1 P2 : Nat) (u l : Int) (w : World) : Calls Tryz.prog 10 #[Pq P1, Pq P2, .int .i64 u, .int .i64 l] w (fun e w' => e = .returned (Pq w.heap.size) ∧ w' = w.alloc (.cells #[Pq P1, Pq P2, .int .i64 u, .int .i64 l] 90)) := by
  go_enter Tryz.func10, Tryz.ntmps10
  go_wp2_with fail
  go_ret
  exact ⟨rfl, rfl⟩
set_option maxRecDepth 100000 in
set_option maxHeartbeats 4000000 in
theorem new_nil (P2 : Nat) (u l : Int) (w : World) : Calls Tryz.prog 10 #[.pointer none, Pq P2, .int .i64 u, .int .i64 l] w (fun e w' => e = .returned (.pointer none) ∧ w' = w) := by
  go_enter Tryz.func10, Tryz.ntmps10
  go_wp2_with fail
  go_ret
  exact ⟨rfl, rfl⟩
theorem Vx.made {w : World} {P1 P2 : Nat} {u l : Int} {U L : BS} {w0 w2 : World} {r1 T1 r2 T2 : Nat} (h1 : BrX w0 w P1 No U r1 T1) (h2 : BrX w2 w P2 No L r2 T2) : Vx (w.alloc (.cells #[Pq P1, Pq P2, .int .i64 u, .int .i64 l] 90)) w.heap.size P1 P2 u l U L :=
  ⟨by simp, by simp, by simp, by simp, ⟨_, _, _, h1.below (bel_alloc _ _)⟩, ⟨_, _, _, h2.below (bel_alloc _ _)⟩⟩
theorem R2.up {w : World} {g : Nat} {x y : Int} (h : R2 w g x y) (a : Int) : R2 (w.setCell ⟨g, 0, none⟩ (.int .i64 a)) g a y := by
  have ne : (⟨g, 0, none⟩ : Addr) ≠ ⟨g, 1, none⟩ := fun e => by injection e with _ e; cases e
  have c0 : (w.cell? ⟨g, 0, none⟩).isSome = true := by rw [h.c0]; rfl
  exact ⟨World.cell?_setCell_same' _ _ _ c0, by rw [World.cell?_setCell_other _ _ _ _ ne]; exact h.c1, by simp [h.f0], by simp [h.f1]⟩
theorem R2.lo {w : World} {g : Nat} {x y : Int} (h : R2 w g x y) (a : Int) : R2 (w.setCell ⟨g, 1, none⟩ (.int .i64 a)) g x a := by
  have ne : (⟨g, 1, none⟩ : Addr) ≠ ⟨g, 0, none⟩ := fun e => by injection e with _ e; cases e
  have c1 : (w.cell? ⟨g, 1, none⟩).isSome = true := by rw [h.c1]; rfl
  exact ⟨by rw [World.cell?_setCell_other _ _ _ _ ne]; exact h.c0, World.cell?_setCell_same' _ _ _ c1, by simp [h.f0], by simp [h.f1]⟩
theorem heap_set {w : World} {b i k : Nat} {v : Value} (h : k ≠ b) : (w.setCell ⟨b, i, none⟩ v).heap[k]? = w.heap[k]? := Below.heap_setCell _ _ _ _ h
theorem set_below {w0 w : World} {g i : Nat} (hb : Below w0.heap.size w0 w) (hg : w0.heap.size ≤ g) (a : Value) : Below w0.heap.size w0 (w.setCell ⟨g, i, none⟩ a) := hb.setCell (show _ ≤ (⟨g, i, none⟩ : Addr).block from hg) a
theorem set_size (w : World) (g i : Nat) (a : Value) : (w.setCell ⟨g, i, none⟩ a).heap.size = w.heap.size := by simp
set_option maxRecDepth 100000 in
set_option maxHeartbeats 4000000 in
theorem root_any {w : World} {V P1 P2 : Nat} {u l : Int} {U L : BS} (h : Vx w V P1 P2 u l U L) : Calls Tryz.prog 11 #[Pq V] w (RetW w (Nv (rootV U L u l))) := by
  obtain ⟨w1, hw1⟩ : ∃ w1, (w.alloc (.cells #[.int .i64 0, .int .i64 0] 24)).alloc (.cells #[.int .i64 0, .int .i64 0] 24) = w1 := ⟨_, rfl⟩
  have hb1 : Below w.heap.size w w1 := by rw [← hw1]; exact bel_step (bel_alloc _ _) (bel_alloc _ _)
  have hg1 : R2 w1 w.heap.size 0 0 := by rw [← hw1]; exact (R2.new w 0 0).below (bel_alloc _ _)
  have hg2 : R2 w1 (w.heap.size + 1) 0 0 := by rw [← hw1]; have := R2.new (w.alloc (.cells #[.int .i64 0, .int .i64 0] 24)) 0 0; rwa [World.size_alloc] at this
  have hz1 : w1.heap.size = w.heap.size + 1 + 1 := by rw [← hw1, World.size_alloc, World.size_alloc]
  have HB := Lib.hid hb1
  have HZ := Lib.hid hz1
  have HKU := Lib.hid (fun W (hb : Below w.heap.size w W) => (h.below hb).kindU u)
  have HKL := Lib.hid (fun W (hb : Below w.heap.size w W) => (h.below hb).kindL l)
  have HOP := Lib.hid (fun W x (hb : Below w.heap.size w W) => opaque_any (h.below hb) x)
  have HSF := Lib.hid (show ∀ W, Below w.heap.size w W → W.cell? ⟨V, 0, none⟩ = some (Pq P1) ∧ W.cell? ⟨V, 1, none⟩ = some (Pq P2) ∧ W.cell? ⟨V, 2, none⟩ = some (.int .i64 u) ∧ W.cell? ⟨V, 3, none⟩ = some (.int .i64 l) from fun W hb => ⟨(h.below hb).c0, (h.below hb).c1, (h.below hb).c2, (h.below hb).c3⟩)
  unfold RetI at HKL HKU
  unfold RetW at HOP
  have HSE := Lib.hid (show rootV U L u l = ((if U.kindOf u = 2 then u else 0), (if L.kindOf l = 2 ∧ opq U (if U.kindOf u = 2 then u else 0) = false then l else 0)) from rfl)
  generalize rootV U L u l = r at *
  generalize L.kindOf l = lk at *
  generalize U.kindOf u = uk at *
  have HG1 := Lib.hid hg1
  have HG2 := Lib.hid hg2
  clear h hb1 hg1 hg2 hz1
  obtain ⟨k0, k1, k2, k3⟩ := HSF.out w1 HB.out
  obtain ⟨g, hg⟩ : ∃ g, w.heap.size = g := ⟨_, rfl⟩
  have HGB := Lib.hid hg
  rw [hg] at HG1 HG2 HZ
  go_enter Tryz.func11, Tryz.ntmps11
  go_wp2_with fail
  go_region_held3 (fun w' => w'.cell? ⟨V, 0, none⟩ = some (Pq P1) ∧ w'.cell? ⟨V, 2, none⟩ = some (.int .i64 u))
    (first | exact ⟨k0, k2⟩ | exact ⟨k0', k2'⟩ | assumption | go_keep)
    (first | (go_at_call 50; ((with_reducible refine (HKU.out _ HB.out.drew).mono ?_); rintro _ w8 ⟨rfl, hb8⟩; have HS8 := Lib.hid ((Below.refl w1.heap.size w1).drew.trans hb8); have hb8' := bel_step HB.out HS8.out; have HB8 := Lib.hid hb8'; have k0' := (HSF.out _ hb8').1; have k2' := (HSF.out _ hb8').2.2.1)))
  all_goals
    clear k0 k1 k2 k3 k0' k2' hw1 hb8 hb8' HKU
    obtain ⟨k0, k1, k2, k3⟩ := HSF.out _ HB8.out
    have HG1' := Lib.hid (HG1.out.below HS8.out)
    have HG2' := Lib.hid (HG2.out.below HS8.out)
    obtain ⟨r0, r1, f0, f1⟩ := HG2'.out
    clear HG1 HG2
    have HZ8 := Lib.hid (show g + 1 < w8.heap.size by have h1 := HZ.out; have h2 := HS8.out.size; omega)
    clear HS8 HZ
    by_cases e2 : uk = 2
    · subst e2
      rw [if_pos rfl] at HSE
      have HN := Lib.hid (show Below w.heap.size w (w8.setCell ⟨g + 1, 0, none⟩ (.int .i64 u)) from set_below HB8.out (by have := HGB.out; omega) _)
      have HX2 := Lib.hid (HG2'.out.up u)
      have HX1 := Lib.hid (show R2 (w8.setCell ⟨g + 1, 0, none⟩ (.int .i64 u)) g 0 0 from HG1'.out.same (heap_set (by omega)))
      go_upto_region 6 with fail
      clear HB8 HG1' HG2' HZ8 k0 k1 k2 k3 r0 r1 f0 f1
      generalize w8.setCell ⟨g + 1, 0, none⟩ (.int .i64 u) = w9 at *
      have HO := Lib.hid (fun V' (hb : Below w.heap.size w V') => HOP.out V' u hb)
      clear HOP
      generalize opq U u = oq at *
      have k1 : ∀ p : BelowOf w9, p.W.cell? ⟨V, 1, none⟩ = some (Pq P2) := fun p => (HSF.out _ (p.step HN.out)).2.1
      have k3 : ∀ p : BelowOf w9, p.W.cell? ⟨V, 3, none⟩ = some (.int .i64 l) := fun p => (HSF.out _ (p.step HN.out)).2.2.2
      have j0 : ∀ p : BelowOf w9, p.W.cell? ⟨g + 1, 0, none⟩ = some (.int .i64 u) := fun p => (HX2.out.below p.h).c0
      have HCA := Lib.hid (fun p : BelowOf w9 => calls_below p (HKL.out _ (p.step HN.out)))
      have HCB := Lib.hid (fun p : BelowOf w9 => calls_below p (HO.out _ (p.step HN.out)))
      by_cases l2 : lk = 2
      · subst l2
        go_upto_region 6 with fail
        refine wp_region_below (by kernel_rfl) (by kernel_rfl) ?_
        repeat (go_big_quiet_step ((first | (go_at_call 50; with_reducible exact HCA.out _) | (go_at_call 51; with_reducible exact HCB.out _))))
        refine wpQuiet_nil ?_
        rintro w11 ⟨⟨_, h11⟩, rfl⟩
        have HB9 := Lib.hid (bel_step HN.out h11)
        have HX29 := Lib.hid (HX2.out.below h11)
        have HX19 := Lib.hid (HX1.out.below h11)
        clear k1 k3 j0 HCA HCB h11
        obtain ⟨k0, k1, k2, k3⟩ := HSF.out _ HB9.out
        obtain ⟨r0, r1, f0, f1⟩ := HX29.out
        cases oq with
        | true =>
          rw [if_neg (by decide)] at HSE
          obtain ⟨s0, s1, v0, v1⟩ := HX19.out
          have HRS := Lib.hid (fun a b => (HX19).out.range a b)
          have HBS := Lib.hid (fun a b => set2_below (HB9).out (show w.heap.size ≤ g by have := HGB.out; omega) a b)
          go_wp2_with fail
          refine bodyPost_ret (results_cell1 rfl _ _ g _ _ rfl (HRS.out _ _) Tryz.underlying24 (by rfl) (by rfl)) rfl ?_
          exact ⟨by rw [HSE.out], HBS.out _ _⟩
        | false =>
          rw [if_pos (by decide)] at HSE
          have HNN := Lib.hid (show Below w.heap.size w (w11.setCell ⟨g + 1, 1, none⟩ (.int .i64 l)) from set_below HB9.out (by have := HGB.out; omega) _)
          have HX1N := Lib.hid (show R2 (w11.setCell ⟨g + 1, 1, none⟩ (.int .i64 l)) g 0 0 from HX19.out.same (heap_set (by omega)))
          have HX2N := Lib.hid (HX29.out.lo l)
          go_upto_region 8 with fail
          clear k0 k1 k2 k3 r0 r1 f0 f1 HX29 HX19 HB9
          generalize w11.setCell ⟨g + 1, 1, none⟩ (.int .i64 l) = w12 at *
          obtain ⟨r0, r1, f0, f1⟩ := HX2N.out
          obtain ⟨s0, s1, v0, v1⟩ := HX1N.out
          have HRS := Lib.hid (fun a b => (HX1N).out.range a b)
          have HBS := Lib.hid (fun a b => set2_below (HNN).out (show w.heap.size ≤ g by have := HGB.out; omega) a b)
          go_wp2_with fail
          refine bodyPost_ret (results_cell1 rfl _ _ g _ _ rfl (HRS.out _ _) Tryz.underlying24 (by rfl) (by rfl)) rfl ?_
          exact ⟨by rw [HSE.out], HBS.out _ _⟩
      · have ql : (lk == 2) = false := by simpa using l2
        rw [if_neg (fun e => l2 e.1)] at HSE
        go_upto_region 6 with fail
        refine wp_region_below (by kernel_rfl) (by kernel_rfl) ?_
        repeat (go_big_quiet_step ((first | (go_at_call 50; with_reducible exact HCA.out _) | fail)))
        refine wpQuiet_nil ?_
        rintro w11 ⟨⟨_, h11⟩, rfl⟩
        have HB9 := Lib.hid (bel_step HN.out h11)
        have HX29 := Lib.hid (HX2.out.below h11)
        have HX19 := Lib.hid (HX1.out.below h11)
        clear k1 k3 j0 HCA HCB h11
        obtain ⟨r0, r1, f0, f1⟩ := HX29.out
        obtain ⟨s0, s1, v0, v1⟩ := HX19.out
        have HRS := Lib.hid (fun a b => (HX19).out.range a b)
        have HBS := Lib.hid (fun a b => set2_below (HB9).out (show w.heap.size ≤ g by have := HGB.out; omega) a b)
        go_wp2_with fail
        refine bodyPost_ret (results_cell1 rfl _ _ g _ _ rfl (HRS.out _ _) Tryz.underlying24 (by rfl) (by rfl)) rfl ?_
        exact ⟨by rw [HSE.out], HBS.out _ _⟩
    · have q2 : (uk == 2) = false := by simpa using e2
      rw [if_neg e2] at HSE
      have HN := HB8
      have HX2 := HG2'
      have HX1 := HG1'
      clear HB8 HG1' HG2' HZ8 k0 k1 k2 k3 r0 r1 f0 f1
      have HO := Lib.hid (fun V' (hb : Below w.heap.size w V') => HOP.out V' 0 hb)
      clear HOP
      generalize opq U 0 = oq at *
      have k1 : ∀ p : BelowOf w8, p.W.cell? ⟨V, 1, none⟩ = some (Pq P2) := fun p => (HSF.out _ (p.step HN.out)).2.1
      have k3 : ∀ p : BelowOf w8, p.W.cell? ⟨V, 3, none⟩ = some (.int .i64 l) := fun p => (HSF.out _ (p.step HN.out)).2.2.2
      have j0 : ∀ p : BelowOf w8, p.W.cell? ⟨g + 1, 0, none⟩ = some (.int .i64 0) := fun p => (HX2.out.below p.h).c0
      have HCA := Lib.hid (fun p : BelowOf w8 => calls_below p (HKL.out _ (p.step HN.out)))
      have HCB := Lib.hid (fun p : BelowOf w8 => calls_below p (HO.out _ (p.step HN.out)))
      by_cases l2 : lk = 2
      · subst l2
        go_upto_region 6 with fail
        refine wp_region_below (by kernel_rfl) (by kernel_rfl) ?_
        repeat (go_big_quiet_step ((first | (go_at_call 50; with_reducible exact HCA.out _) | (go_at_call 51; with_reducible exact HCB.out _))))
        refine wpQuiet_nil ?_
        rintro w11 ⟨⟨_, h11⟩, rfl⟩
        have HB9 := Lib.hid (bel_step HN.out h11)
        have HX29 := Lib.hid (HX2.out.below h11)
        have HX19 := Lib.hid (HX1.out.below h11)
        clear k1 k3 j0 HCA HCB h11
        obtain ⟨k0, k1, k2, k3⟩ := HSF.out _ HB9.out
        obtain ⟨r0, r1, f0, f1⟩ := HX29.out
        cases oq with
        | true =>
          rw [if_neg (by decide)] at HSE
          obtain ⟨s0, s1, v0, v1⟩ := HX19.out
          have HRS := Lib.hid (fun a b => (HX19).out.range a b)
          have HBS := Lib.hid (fun a b => set2_below (HB9).out (show w.heap.size ≤ g by have := HGB.out; omega) a b)
          go_wp2_with fail
          refine bodyPost_ret (results_cell1 rfl _ _ g _ _ rfl (HRS.out _ _) Tryz.underlying24 (by rfl) (by rfl)) rfl ?_
          exact ⟨by rw [HSE.out], HBS.out _ _⟩
        | false =>
          rw [if_pos (by decide)] at HSE
          have HNN := Lib.hid (show Below w.heap.size w (w11.setCell ⟨g + 1, 1, none⟩ (.int .i64 l)) from set_below HB9.out (by have := HGB.out; omega) _)
          have HX1N := Lib.hid (show R2 (w11.setCell ⟨g + 1, 1, none⟩ (.int .i64 l)) g 0 0 from HX19.out.same (heap_set (by omega)))
          have HX2N := Lib.hid (HX29.out.lo l)
          go_upto_region 8 with fail
          clear k0 k1 k2 k3 r0 r1 f0 f1 HX29 HX19 HB9
          generalize w11.setCell ⟨g + 1, 1, none⟩ (.int .i64 l) = w12 at *
          obtain ⟨r0, r1, f0, f1⟩ := HX2N.out
          obtain ⟨s0, s1, v0, v1⟩ := HX1N.out
          have HRS := Lib.hid (fun a b => (HX1N).out.range a b)
          have HBS := Lib.hid (fun a b => set2_below (HNN).out (show w.heap.size ≤ g by have := HGB.out; omega) a b)
          go_wp2_with fail
          refine bodyPost_ret (results_cell1 rfl _ _ g _ _ rfl (HRS.out _ _) Tryz.underlying24 (by rfl) (by rfl)) rfl ?_
          exact ⟨by rw [HSE.out], HBS.out _ _⟩
      · have ql : (lk == 2) = false := by simpa using l2
        rw [if_neg (fun e => l2 e.1)] at HSE
        go_upto_region 6 with fail
        refine wp_region_below (by kernel_rfl) (by kernel_rfl) ?_
        repeat (go_big_quiet_step ((first | (go_at_call 50; with_reducible exact HCA.out _) | fail)))
        refine wpQuiet_nil ?_
        rintro w11 ⟨⟨_, h11⟩, rfl⟩
        have HB9 := Lib.hid (bel_step HN.out h11)
        have HX29 := Lib.hid (HX2.out.below h11)
        have HX19 := Lib.hid (HX1.out.below h11)
        clear k1 k3 j0 HCA HCB h11
        obtain ⟨r0, r1, f0, f1⟩ := HX29.out
        obtain ⟨s0, s1, v0, v1⟩ := HX19.out
        have HRS := Lib.hid (fun a b => (HX19).out.range a b)
        have HBS := Lib.hid (fun a b => set2_below (HB9).out (show w.heap.size ≤ g by have := HGB.out; omega) a b)
        go_wp2_with fail
        refine bodyPost_ret (results_cell1 rfl _ _ g _ _ rfl (HRS.out _ _) Tryz.underlying24 (by rfl) (by rfl)) rfl ?_
        exact ⟨by rw [HSE.out], HBS.out _ _⟩
end Go.Proofs.YtnnaoldpacbagaaGreat.mg
end
section
namespace Go.Proofs.YtnnaoldpacbagaaGreat.mg
open Go.RowKit Go.Deep
open Go.Proofs.YtnnaoldpacbagaaGreat.br (BS Ino Inv fresh)
open Go.Proofs.YtnnaoldpacbagaaGreat.cb (BrX RetW RetI No)
open Go.Proofs.YtnnaoldpacbagaaGreat.bl (Pq)
set_option linter.unusedVariables false
set_option linter.unusedSimpArgs false

theorem Nb.same {w w' : World} {g : Nat} {n : Nd} (h : Nb w g n) (e : w'.heap[g]? = w.heap[g]?) : Nb w' g n :=
  ⟨(World.cell?_of_block (a := ⟨g, 0, none⟩) e).trans h.c0, (World.cell?_of_block (a := ⟨g, 1, none⟩) e).trans h.c1⟩
set_option maxRecDepth 100000 in
theorem run_equal24 (x y : Nd) (w : World) : (Op.equalIn 10000 24 (Nv x) (Nv y)).run Tryz.prog w = .ok (decide (x = y)) w := by
  have hS : Tryz.prog.underlying 24 = some (.struct (Tryz.prog.fieldsOf 24)) := by kernel_rfl
  have hp : Tryz.prog.stoodInHeld 24 = false := by kernel_rfl
  have u3 := Tryz.underlying3
  have a3 := Tryz.isAgg3
  have z3 := Tryz.sizeOf3
  have e : decide (x = y) = (x.1 == y.1 && x.2 == y.2) := by
    obtain ⟨a, b⟩ := x
    obtain ⟨a', b'⟩ := y
    by_cases h1 : a = a' <;> by_cases h2 : b = b' <;> simp [h1, h2]
  rw [show (10000 : Nat) = 9999 + 1 from rfl, run_equalIn_agg w 9999 24 _ _ hS hp, e]
  simp only [Program.fieldsOf, Tryz.underlying24]
  go_simp
  by_cases h1 : x.1 = y.1 <;> by_cases h2 : x.2 = y.2 <;> simp [h1, h2]
theorem run_eql24 (x y : Nd) (w : World) : (binOp .eql 24 (Nv x) (Nv y)).run Tryz.prog w = .ok (.bool (decide (x = y))) w := by
  rw [run_eql_struct, run_equal24]; rfl
theorem guard24 (op : BinOp) (a b : Operand) (xs ys : Array Value) (w : World) : (eqGuard op 24 a b (.agg xs) (.agg ys)).run Tryz.prog w = .ok () w := run_eqGuard_agg w op 24 a b xs ys (by kernel_rfl)
theorem run_neq24 (x y : Nd) (w : World) : (binOp .neq 24 (Nv x) (Nv y)).run Tryz.prog w = .ok (.bool (!decide (x = y))) w := by
  rw [run_neq_struct, run_equal24]; rfl
set_option maxRecDepth 100000 in
set_option maxHeartbeats 4000000 in
theorem get_any {w : World} {V P1 P2 : Nat} {u l : Int} {U L : BS} (h : Vx w V P1 P2 u l U L) (n : Nd) (s : ByteArray) : Calls Tryz.prog 13 #[Pq V, Nv n, .string s] w (RetW w (.tuple #[Nv (getV U L n s).1, .int .i64 (getV U L n s).2])) := by
  obtain ⟨n1, n2⟩ := n
  obtain ⟨w1, hw1⟩ : ∃ w1, (w.alloc (.cells #[.int .i64 n1, .int .i64 n2] 24)).alloc (.cells #[.int .i64 0, .int .i64 0] 24) = w1 := ⟨_, rfl⟩
  have hb1 : Below w.heap.size w w1 := by rw [← hw1]; exact bel_step (bel_alloc _ _) (bel_alloc _ _)
  have hg1 : Nb w1 w.heap.size (n1, n2) := by rw [← hw1]; exact (Nb.new w n1 n2).below (bel_alloc _ _)
  have hg2 : R2 w1 (w.heap.size + 1) 0 0 := by rw [← hw1]; have := R2.new (w.alloc (.cells #[.int .i64 n1, .int .i64 n2] 24)) 0 0; rwa [World.size_alloc] at this
  have hz1 : w1.heap.size = w.heap.size + 1 + 1 := by rw [← hw1, World.size_alloc, World.size_alloc]
  have HB := Lib.hid hb1
  have HZ := Lib.hid hz1
  have HL := Lib.hid (listed_any (h.below hb1) (n1, n2))
  have HVX := Lib.hid (fun W (hb : Below w.heap.size w W) => h.below hb)
  have HGU := Lib.hid (fun W (hb : Below w.heap.size w W) => (h.below hb).getU n1 s)
  have HSF := Lib.hid (show ∀ W, Below w.heap.size w W → W.cell? ⟨V, 0, none⟩ = some (Pq P1) ∧ W.cell? ⟨V, 1, none⟩ = some (Pq P2) from fun W hb => ⟨(h.below hb).c0, (h.below hb).c1⟩)
  have HSE := Lib.hid (show getV U L (n1, n2) s = (if lstV U L (n1, n2) ≠ 0 then ((0, 0), lstV U L (n1, n2)) else if seenV U L ((U.get n1 s).1, (L.get (belV U (n1, n2)) s).1) = (0, 0) then ((0, 0), 2) else (seenV U L ((U.get n1 s).1, (L.get (belV U (n1, n2)) s).1), 0)) from rfl)
  unfold RetI at HL
  unfold RetW at HGU
  generalize getV U L (n1, n2) s = r at *
  generalize lstV U L (n1, n2) = le at *
  have HG1 := Lib.hid hg1
  have HG2 := Lib.hid hg2
  clear h hb1 hg1 hg2 hz1
  obtain ⟨g, hg⟩ : ∃ g, w.heap.size = g := ⟨_, rfl⟩
  have HGB := Lib.hid hg
  rw [hg] at HG1 HG2 HZ
  have t0 := HG1.out.c0
  have t1 := HG1.out.c1
  dsimp only at t0 t1
  go_enter Tryz.func13, Tryz.ntmps13
  go_wp2_with fail
  refine HL.out.mono ?_
  rintro _ w2 ⟨rfl, hb2⟩
  have HB2 := Lib.hid (bel_step HB.out hb2)
  have HN1 := Lib.hid (HG1.out.below hb2)
  have HR2 := Lib.hid (HG2.out.below hb2)
  have HZ2 := Lib.hid (show g + 1 < w2.heap.size by have h1 := HZ.out; have h2 := hb2.size; omega)
  clear hw1 hb2 HB HG1 HG2 HZ t0 t1 HL
  by_cases e0 : le = 0
  case neg =>
    have q0 : (le != 0) = true := by simpa using e0
    rw [if_pos e0] at HSE
    obtain ⟨s0, s1, v0, v1⟩ := HR2.out
    have HRS := Lib.hid (fun a b => (HR2).out.range a b)
    have HBS := Lib.hid (fun a b => set2_below (HB2).out (show w.heap.size ≤ g + 1 by have := HGB.out; omega) a b)
    go_wp2_with fail
    refine bodyPost_ret (results_row_tmp rfl _ _ (g + 1) _ _ rfl (HRS.out _ _) Tryz.underlying24 (by rfl) (by rfl)) rfl ?_
    exact ⟨by rw [HSE.out]; rfl, HBS.out _ _⟩
  subst e0
  rw [if_neg (by decide)] at HSE
  obtain ⟨w3, hw3⟩ : ∃ w3, w2.alloc (.cells #[.int .i64 0, .int .i64 0] 24) = w3 := ⟨_, rfl⟩
  have HB3 := Lib.hid (show Below w.heap.size w w3 by rw [← hw3]; exact bel_step HB2.out (bel_alloc _ _))
  have HN3 := Lib.hid (show Nb w3 g (n1, n2) by rw [← hw3]; exact HN1.out.below (bel_alloc _ _))
  have HR3 := Lib.hid (show R2 w3 (g + 1) 0 0 by rw [← hw3]; exact HR2.out.below (bel_alloc _ _))
  have HP3 := Lib.hid (show R2 w3 w2.heap.size 0 0 by rw [← hw3]; exact R2.new w2 0 0)
  obtain ⟨gp, hgp⟩ : ∃ gp, w2.heap.size = gp := ⟨_, rfl⟩
  rw [hgp] at HZ2 HP3
  have HGP := Lib.hid (show w.heap.size ≤ gp by have := HZ2.out; have := HGB.out; omega)
  clear HB2 HN1 HR2
  obtain ⟨k0, k1⟩ := HSF.out _ HB3.out
  obtain ⟨t0, t1⟩ := HN3.out
  dsimp only at t0 t1
  obtain ⟨ux, hux⟩ : ∃ ux, U.get n1 s = ux := ⟨_, rfl⟩
  rw [hux] at HGU HSE
  clear hux
  obtain ⟨x1, x2⟩ := ux
  dsimp only at HGU HSE
  go_wp2_with fail
  go_region_held3 (fun w' => w'.cell? ⟨V, 0, none⟩ = some (Pq P1) ∧ w'.cell? ⟨g, 0, none⟩ = some (.int .i64 n1))
    (first | exact ⟨k0, t0⟩ | exact S8 | exact ST | assumption | go_keep)
    (first | (go_at_call 55; ((with_reducible refine (HGU.out _ HB3.out.drew).mono ?_); rintro _ w8 ⟨rfl, hb8⟩; have HS8 := Lib.hid ((Below.refl w3.heap.size w3).drew.trans hb8); have HB8 := Lib.hid (bel_step HB3.out HS8.out); have HN8 := Lib.hid (HN3.out.below HS8.out); have HR8 := Lib.hid (HR3.out.below HS8.out); have HP8 := Lib.hid (HP3.out.below HS8.out); have S8 := And.intro (HSF.out _ HB8.out).1 HN8.out.c0; obtain ⟨p0, p1, pf0, pf1⟩ := HP8.out; have HB9 := Lib.hid (set_below HB8.out HGP.out (.int .i64 x1) : Below w.heap.size w (w8.setCell ⟨gp, 0, none⟩ (.int .i64 x1))); have HN9 := Lib.hid (show Nb (w8.setCell ⟨gp, 0, none⟩ (.int .i64 x1)) g (n1, n2) from HN8.out.same (heap_set (by have := HZ2.out; omega))); have ST := And.intro (HSF.out _ HB9.out).1 HN9.out.c0)))
  all_goals
    have HP9 := Lib.hid (HP8.out.up x1)
    have HR9 := Lib.hid (show R2 (w8.setCell ⟨gp, 0, none⟩ (.int .i64 x1)) (g + 1) 0 0 from HR8.out.same (heap_set (by have := HZ2.out; omega)))
    clear k0 k1 t0 t1 S8 ST p0 p1 pf0 pf1 hb8 HS8 HB8 HN8 HR8 HP8 HB3 HN3 HR3 HP3 HGU hw3 hgp
    generalize w8.setCell ⟨gp, 0, none⟩ (.int .i64 x1) = w9 at *
    obtain ⟨k0, k1⟩ := HSF.out _ HB9.out
    obtain ⟨t0, t1⟩ := HN9.out
    dsimp only at t0 t1
    have HBE := Lib.hid (below_any (HVX.out _ HB9.out.drew) (n1, n2))
    have HGL := Lib.hid (fun W (hb : Below w.heap.size w W) => (HVX.out W hb).getL (belV U (n1, n2)) s)
    unfold RetI at HBE
    unfold RetW at HGL
    generalize belV U (n1, n2) = be at *
    obtain ⟨lx, hlx⟩ : ∃ lx, L.get be s = lx := ⟨_, rfl⟩
    rw [hlx] at HGL HSE
    clear hlx
    obtain ⟨y1, y2⟩ := lx
    dsimp only at HGL HSE
    go_wp2_with fail
    go_region_held3 (fun w' => w'.cell? ⟨V, 1, none⟩ = some (Pq P2) ∧ w'.cell? ⟨g, 0, none⟩ = some (.int .i64 n1) ∧ w'.cell? ⟨g, 1, none⟩ = some (.int .i64 n2))
      (first | exact ⟨k1, t0, t1⟩ | exact S8 | exact S9 | exact ST | assumption | go_keep)
      (first | (go_at_call 56; ((with_reducible refine HBE.out.mono ?_); rintro _ w10 ⟨rfl, hb8⟩; have HS8 := Lib.hid ((Below.refl w9.heap.size w9).drew.trans hb8); have HB8 := Lib.hid (bel_step HB9.out HS8.out); have HN8 := Lib.hid (HN9.out.below HS8.out); have HR8 := Lib.hid (HR9.out.below HS8.out); have HP8 := Lib.hid (HP9.out.below HS8.out); have S8 := And.intro (HSF.out _ HB8.out).2 (And.intro HN8.out.c0 HN8.out.c1))) | (go_at_call 55; ((with_reducible refine (HGL.out _ HB8.out).mono ?_); rintro _ w11 ⟨rfl, hb9⟩; have HBa := Lib.hid (bel_step HB8.out hb9); have HNa := Lib.hid (HN8.out.below hb9); have HRa := Lib.hid (HR8.out.below hb9); have HPa := Lib.hid (HP8.out.below hb9); have S9 := And.intro (HSF.out _ HBa.out).2 (And.intro HNa.out.c0 HNa.out.c1); obtain ⟨p0, p1, pf0, pf1⟩ := HPa.out; have HBb := Lib.hid (set_below HBa.out HGP.out (.int .i64 y1) : Below w.heap.size w (w11.setCell ⟨gp, 1, none⟩ (.int .i64 y1))); have HNb := Lib.hid (show Nb (w11.setCell ⟨gp, 1, none⟩ (.int .i64 y1)) g (n1, n2) from HNa.out.same (heap_set (by have := HZ2.out; omega))); have ST := And.intro (HSF.out _ HBb.out).2 (And.intro HNb.out.c0 HNb.out.c1))))
  all_goals
    have HPb := Lib.hid (HPa.out.lo y1)
    have HRb := Lib.hid (show R2 (w11.setCell ⟨gp, 1, none⟩ (.int .i64 y1)) (g + 1) 0 0 from HRa.out.same (heap_set (by have := HZ2.out; omega)))
    clear k0 k1 t0 t1 S8 S9 ST p0 p1 pf0 pf1 hb8 hb9 HS8 HB8 HN8 HR8 HP8 HBa HNa HRa HPa HB9 HN9 HR9 HP9 HBE HGL HSF
    generalize w11.setCell ⟨gp, 1, none⟩ (.int .i64 y1) = w12 at *
    have HSN := Lib.hid (seen_any (HVX.out _ HBb.out) (x1, y1))
    unfold RetW at HSN
    obtain ⟨t0, t1⟩ := HNb.out
    obtain ⟨p0, p1, pf0, pf1⟩ := HPb.out
    dsimp only at t0 t1
    have HQ := Lib.hid (fun W => run_eql24 (seenV U L (x1, y1)) (0, 0) W)
    generalize seenV U L (x1, y1) = sv at *
    obtain ⟨s1, s2⟩ := sv
    clear HVX
    go_wp2_with fail
    refine HSN.out.mono ?_
    rintro _ w13 ⟨rfl, hb13⟩
    have HB13 := Lib.hid (bel_step HBb.out hb13)
    have HR13 := Lib.hid (HRb.out.below hb13)
    have HZ13 := Lib.hid (show g + 1 < w13.heap.size from (HRb.out.below hb13).lt)
    clear HSN hb13 HBb HNb HRb HPb t0 t1 p0 p1 pf0 pf1
    obtain ⟨w14, hw14⟩ : ∃ w14, w13.alloc (.cells #[.int .i64 s1, .int .i64 s2] 24) = w14 := ⟨_, rfl⟩
    have HB14 := Lib.hid (show Below w.heap.size w w14 by rw [← hw14]; exact bel_step HB13.out (bel_alloc _ _))
    have HR14 := Lib.hid (show R2 w14 (g + 1) 0 0 by rw [← hw14]; exact HR13.out.below (bel_alloc _ _))
    have HN14 := Lib.hid (show Nb w14 w13.heap.size (s1, s2) by rw [← hw14]; exact Nb.new w13 s1 s2)
    obtain ⟨t0, t1⟩ := HN14.out
    obtain ⟨p0, p1, pf0, pf1⟩ := HR14.out
    dsimp only at t0 t1
    have hgd := guard24
    have HRS := Lib.hid (fun a b => (HR14).out.range a b)
    have HBS := Lib.hid (fun a b => set2_below (HB14).out (show w.heap.size ≤ g + 1 by have := HGB.out; omega) a b)
    by_cases hz : ((s1, s2) : Nd) = (0, 0)
    · rw [if_pos hz] at HSE
      have hq : ∀ W, (binOp .eql 24 (.agg #[.int .i64 s1, .int .i64 s2]) (.agg #[.int .i64 0, .int .i64 0])).run Tryz.prog W = .ok (.bool true) W := fun W => by rw [← decide_eq_true hz]; exact HQ.out W
      clear HQ hz
      go_wp2_with fail
      refine bodyPost_ret (results_row_tmp rfl _ _ (g + 1) _ _ rfl (HRS.out _ _) Tryz.underlying24 (by rfl) (by rfl)) rfl ?_
      exact ⟨by rw [HSE.out]; rfl, HBS.out _ _⟩
    · rw [if_neg hz] at HSE
      have hq : ∀ W, (binOp .eql 24 (.agg #[.int .i64 s1, .int .i64 s2]) (.agg #[.int .i64 0, .int .i64 0])).run Tryz.prog W = .ok (.bool false) W := fun W => by rw [← decide_eq_false hz]; exact HQ.out W
      clear HQ hz
      go_wp2_with fail
      refine bodyPost_ret (results_row_tmp rfl _ _ (g + 1) _ _ rfl (HRS.out _ _) Tryz.underlying24 (by rfl) (by rfl)) rfl ?_
      exact ⟨by rw [HSE.out]; rfl, HBS.out _ _⟩
end Go.Proofs.YtnnaoldpacbagaaGreat.mg
end
