/- The document's table in memory: what it holds, and Get. -/
import Derived.Test.YtfbdhpbnmjacmaaDe
namespace Go.Proofs.Ytfbdhpbnmjacmaa.ds
open Go.RowKit
open Go.Proofs.Ytfbdhpbnmjacmaa.pa (Bs Sv Strs Own own_form info9 own_base)
set_option linter.unusedVariables false
set_option linter.unusedSimpArgs false

/-- Names at A in blocks of N. -/
def NmN (w : World) (N : Nat → Prop) (A : Option Addr) (xs : List Bs) : Prop := 0 < xs.length → ∃ ad, A = some ad ∧ N ad.block ∧ ∀ j x, xs[j]? = some x → w.cell? (ad.add j) = some (Sv x)
/-- The descriptor at place k. -/
def RD (w : World) (D : Nat) (N : Nat → Prop) (k : Nat) (d : De) : Prop := ∃ A c, w.rangeAt D (32 + k * 6) (DL A d.ns.length c d) ∧ d.ns.length ≤ 1000 ∧ d.ns.length ≤ c ∧ c ≤ maxLen ∧ NmN w N A d.ns
/-- The document's table: block D, and its names in blocks N. -/
structure RT (w0 w : World) (D : Nat) (N : Nat → Prop) (T : Tb) : Prop where
  lo : w0.heap.size ≤ D ∧ D < w.heap.size
  nD : ∀ b, N b → b ≠ D ∧ w0.heap.size ≤ b ∧ b < w.heap.size
  fz : ∀ j, w.frozen? ⟨D, j, none⟩ = false
  is_ : ∀ k, k < 32 → w.cell? ⟨D, k, none⟩ = some (.bool (T k).isSome)
  ds : ∀ k, k < 32 → ∃ d, RD w D N k d ∧ ∀ e, T k = some e → e = d
section
variable {w0 w w' : World} {D : Nat} {N N' : Nat → Prop} {T : Tb}
theorem NmN.keep {A : Option Addr} {xs : List Bs} (h : NmN w N A xs) (hk : ∀ b, N b → w'.heap[b]? = w.heap[b]?) (hN : ∀ b, N b → N' b) : NmN w' N' A xs := fun hn => by
  obtain ⟨ad, e, h1, h2⟩ := h hn
  exact ⟨ad, e, hN _ h1, fun j x hx => (World.cell?_of_block (by rw [pa.addr_block]; exact hk _ h1)).trans (h2 j x hx)⟩
theorem RD.keep {k : Nat} {d : De} (h : RD w D N k d) (hD : w'.heap[D]? = w.heap[D]?) (hk : ∀ b, N b → w'.heap[b]? = w.heap[b]?) : RD w' D N k d := by
  obtain ⟨A, c, h1, h2, h3, h4, h5⟩ := h
  exact ⟨A, c, fun j v hv => (World.cell?_of_block (a := ⟨D, 32 + k * 6 + j, none⟩) hD).trans (h1 j v hv), h2, h3, h4, h5.keep hk fun _ h => h⟩
theorem RT.keep (h : RT w0 w D N T) (hs : w.heap.size ≤ w'.heap.size) (hk : ∀ b, b = D ∨ N b → w'.heap[b]? = w.heap[b]?) : RT w0 w' D N T :=
  ⟨⟨h.lo.1, Nat.lt_of_lt_of_le h.lo.2 hs⟩, fun b hb => ⟨(h.nD b hb).1, (h.nD b hb).2.1, Nat.lt_of_lt_of_le (h.nD b hb).2.2 hs⟩, fun j => (World.frozen?_of_block (a := ⟨D, j, none⟩) (hk D (.inl rfl))).trans (h.fz j),
   fun k hk2 => (World.cell?_of_block (a := ⟨D, k, none⟩) (hk D (.inl rfl))).trans (h.is_ k hk2), fun k hk2 => by
    obtain ⟨d, h1, h2⟩ := h.ds k hk2
    exact ⟨d, h1.keep (hk D (.inl rfl)) (fun b hb => hk b (.inr hb)), h2⟩⟩
theorem RT.below (h : RT w0 w D N T) (hb : Below w.heap.size w w') : RT w0 w' D N T :=
  h.keep hb.size fun b hb2 => hb.block b (by rcases hb2 with rfl | h2; exact h.lo.2; exact (h.nD b h2).2.2)
theorem NmN.strs {A : Option Addr} {xs : List Bs} {B : Nat} (h : NmN w N A xs) (hB : ∀ b, N b → b < B) : Strs w B A xs := fun hn => by
  obtain ⟨ad, e, h1, h2⟩ := h hn
  exact ⟨ad, e, hB _ h1, h2⟩
end
theorem rspot_out {T : Tb} {fd : Int} (h : ¬ (0 ≤ fd ∧ fd < 32)) : getV T fd = (dz, 9) := by unfold getV spot; rw [if_neg h]
theorem rspot_in {T : Tb} {k : Nat} (h : k < 32) : spot T (k : Int) = T k := by unfold spot; rw [if_pos ⟨by omega, by omega⟩]; simp

set_option maxHeartbeats 4000000 in
set_option maxRecDepth 100000 in
theorem r_get {w0 w : World} {D : Nat} {N : Nat → Prop} {T : Tb} (h : RT w0 w D N T) (fd : Int) : Calls Try.prog 19 #[Pq D, .int .i64 fd] w (GetE w (getV T fd)) := by
  obtain ⟨R, hR⟩ : ∃ R, w.heap.size = R := ⟨_, rfl⟩
  obtain ⟨w1, hw1⟩ : ∃ w1, w.alloc (.cells #[.int .i64 0, .int .i64 0, .int .i64 0, .bool false, .slice none 0 0, .int .i64 0] 30) = w1 := ⟨_, rfl⟩
  have hb1 : Below w.heap.size w w1 := by rw [← hw1]; exact below_alloc w _
  have hr1 : w1.heap[R]? = some (.cells #[.int .i64 0, .int .i64 0, .int .i64 0, .bool false, .slice none 0 0, .int .i64 0] 30 (0, 0)) := by rw [← hw1, ← hR]; exact zero_row w
  have hs1 : w1.heap.size = R + 1 := by rw [← hw1, World.size_alloc, hR]
  have h1 := h.below hb1
  have HB1 := Lib.hid hb1
  have HR := Lib.hid hR
  have HT := Lib.hid (there_row hr1 rfl)
  have HF := Lib.hid (show ∀ x0 x1 x2 x3 x4 x5, Own (set6 w1 R x0 x1 x2 x3 x4 x5) w.heap.size none 0 [] ∧ Below w.heap.size w (set6 w1 R x0 x1 x2 x3 x4 x5) from fun x0 x1 x2 x3 x4 x5 => ⟨World.ownsRow_nil _ _ _ _, Only.below (w0 := w) hb1 (set6_only _ _ _ _ _ _ _ _) (by intro b e; omega)⟩)
  by_cases hin : 0 ≤ fd ∧ fd < 32
  case neg =>
    rw [rspot_out hin]
    by_cases hlo : fd < 0
    · have hd : decide (fd < 0) = true := decide_eq_true (by omega)
      clear h h1 hb1 hr1 hin
      go_enter Try.func19, Try.ntmps19
      go_wp2_with (refine wpList_store_mid (by rfl) 30 (.tmp 4) (.tmp 21) (by rfl) R 0 #[.int .i64 0, .int .i64 0, .int .i64 0, .bool false, .slice none 0 0, .int .i64 0] (by rfl) (by rfl) HT.out (by kernel_rfl) (by simp [Value.oneCell']) ?_)
      refine bodyPost_ret (results_row_tmp rfl _ _ R [.int .i64 0, .int .i64 0, .int .i64 0, .bool false, .slice none 0 0, .int .i64 0] _ rfl (set6_range HT.out _ _ _ _ _ _) Try.underlying30 (by rfl) (by kernel_rfl)) rfl ?_
      exact ⟨none, 0, rfl, (HF.out _ _ _ _ _ _).1, (HF.out _ _ _ _ _ _).2⟩
    · have hd : decide (fd < 0) = false := decide_eq_false (by omega)
      have hd2 : decide (31 < fd) = true := decide_eq_true (by omega)
      have hi2 : (31 : Int) < fd := by omega
      clear h h1 hb1 hr1 hin
      go_enter Try.func19, Try.ntmps19
      go_wp2_with (refine wpList_store_mid (by rfl) 30 (.tmp 4) (.tmp 21) (by rfl) R 0 #[.int .i64 0, .int .i64 0, .int .i64 0, .bool false, .slice none 0 0, .int .i64 0] (by rfl) (by rfl) HT.out (by kernel_rfl) (by simp [Value.oneCell']) ?_)
      refine bodyPost_ret (results_row_tmp rfl _ _ R [.int .i64 0, .int .i64 0, .int .i64 0, .bool false, .slice none 0 0, .int .i64 0] _ rfl (set6_range HT.out _ _ _ _ _ _) Try.underlying30 (by rfl) (by kernel_rfl)) rfl ?_
      exact ⟨none, 0, rfl, (HF.out _ _ _ _ _ _).1, (HF.out _ _ _ _ _ _).2⟩
  obtain ⟨k, rfl⟩ : ∃ k : Nat, fd = k := ⟨fd.toNat, by omega⟩
  have hk : k < 32 := by omega
  have hd : decide ((k : Int) < 0) = false := decide_eq_false (by omega)
  have hd2 : decide (31 < (k : Int)) = false := decide_eq_false (by omega)
  have hb0 : (0 : Int) ≤ (k : Int) := by omega
  have hb32 : (k : Int) < 32 := by omega
  have hc := h1.is_ k hk
  obtain ⟨d, ⟨A, c, hrow, hl, hcl, hcm, hnm⟩, hT⟩ := h1.ds k hk
  cases e : T k with
  | none =>
    rw [show getV T (k : Int) = (dz, 9) by unfold getV; rw [rspot_in hk, e]]
    rw [e] at hc
    clear h h1 hb1 hr1 hin hrow hnm hT
    go_enter Try.func19, Try.ntmps19
    go_wp2_with (refine wpList_store_mid (by rfl) 30 (.tmp 4) (.tmp 21) (by rfl) R 0 #[.int .i64 0, .int .i64 0, .int .i64 0, .bool false, .slice none 0 0, .int .i64 0] (by rfl) (by rfl) HT.out (by kernel_rfl) (by simp [Value.oneCell']) ?_)
    refine bodyPost_ret (results_row_tmp rfl _ _ R [.int .i64 0, .int .i64 0, .int .i64 0, .bool false, .slice none 0 0, .int .i64 0] _ rfl (set6_range HT.out _ _ _ _ _ _) Try.underlying30 (by rfl) (by kernel_rfl)) rfl ?_
    exact ⟨none, 0, rfl, (HF.out _ _ _ _ _ _).1, (HF.out _ _ _ _ _ _).2⟩
  | some d' =>
    obtain rfl := hT d' e
    rw [show getV T (k : Int) = (d', 0) by unfold getV; rw [rspot_in hk, e]]
    rw [e] at hc
    have HROW := Lib.hid hrow
    have HC := Lib.hid (own_any A d'.ns.length c w1.heap.size d' w1 rfl (by omega) (Nat.le_refl _) (hnm.strs fun b hb => (h1.nD b hb).2.2))
    clear h h1 hin hrow hnm hT e HT HF
    obtain ⟨d0, d1, d2, d3, xs, d5⟩ := d'
    dsimp only [DV, DL, CopE, GetE] at *
    have HR1 := Lib.hid hr1
    clear hr1
    go_enter Try.func19, Try.ntmps19
    go_wp2_with (first | refine wpList_load_mid (by rfl) 30 (.tmp 26) (by rfl) D (32 + k * 6) (by rfl) _ _ HROW.out Try.underlying30 (by rfl) (by kernel_rfl) ?_)
    refine HC.out.mono ?_
    rintro _ w3 ⟨A', c', rfl, hown, hb3⟩
    have hr3 := (hb3.block R (by omega)).trans HR1.out
    have HT := Lib.hid (there_row hr3 rfl)
    have HF := Lib.hid (show ∀ x0 x1 x2 x3 x4 x5, Own (set6 w3 R x0 x1 x2 x3 x4 x5) w.heap.size A' c' xs ∧ Below w.heap.size w (set6 w3 R x0 x1 x2 x3 x4 x5) from fun x0 x1 x2 x3 x4 x5 => ⟨own_base (own_only hown (set6_only _ _ _ _ _ _ _ _) (by intro b e; omega)) (by omega), Only.below (w0 := w) (below_step HB1.out hb3) (set6_only _ _ _ _ _ _ _ _) (by intro b e; omega)⟩)
    clear hr3 hown hb3
    go_wp2_with (refine wpList_store_mid (by rfl) 30 (.tmp 4) (.tmp 28) (by rfl) R 0 #[.int .i64 d0, .int .i64 d1, .int .i64 d2, .bool d3, .slice A' xs.length c', .int .i64 d5] (by rfl) (by rfl) HT.out (by kernel_rfl) (by simp [Value.oneCell']) ?_)
    refine bodyPost_ret (results_row_tmp rfl _ _ R [.int .i64 d0, .int .i64 d1, .int .i64 d2, .bool d3, .slice A' xs.length c', .int .i64 d5] _ rfl (set6_range HT.out _ _ _ _ _ _) Try.underlying30 (by rfl) (by kernel_rfl)) rfl ?_
    exact ⟨A', c', rfl, (HF.out _ _ _ _ _ _).1, (HF.out _ _ _ _ _ _).2⟩
end Go.Proofs.Ytfbdhpbnmjacmaa.ds
