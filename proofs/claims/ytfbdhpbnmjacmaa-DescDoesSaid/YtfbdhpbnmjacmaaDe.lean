/- The document's table: a descriptor whose names are its own. -/
import Derived.Test.YtfbdhpbnmjacmaaDr
import Derived.Maps.AppendAt
import Derived.Lib.AppendZerosOnto
import Derived.Lib.AppendZeros
import Derived.Laws.AppendOwnNone
import Derived.Deep.DeepCutAuto
namespace Go.Proofs.Ytfbdhpbnmjacmaa.ds
open Go.RowKit
open Go.Proofs.Ytfbdhpbnmjacmaa.pa (Bs Sv Strs Own own_form info9 own_base)
set_option linter.unusedVariables false
set_option linter.unusedSimpArgs false

theorem run_append_nil {P : Program} (w : World) (base : Nat) (t ty e : TypeId) (i : TypeInfo) (size : Nat) (ht : P.underlying t = some (.slice e)) (hi : P.info? e = some i)
    (v : Value) (n : Nat) (xs : List Value) (hown : w.ownsRow base e size v n xs) (c : Nat) : (Builtin.append_ #[t, t] ty #[v, .slice none 0 c]).run P w = .ok v w := by
  rcases hown.2 with ⟨rfl, rfl⟩ | ⟨g, cap, cur, rfl, _, _, hnc, _⟩
  · simp [Builtin.append_, run_underlying ht, sizeOf, typeInfo, hi, Builtin.lenOf, Builtin.firstCells]
  · simp [Builtin.append_, run_underlying ht, sizeOf, typeInfo, hi, Builtin.lenOf, Builtin.firstCells, hnc, storeCells]
theorem strs_lit (w : World) (B : Nat) (hB : B ≤ w.heap.size) : (w.alloc (.cells #[] 9)).ownsRow B 9 1 (.slice (some ⟨w.heap.size, 0, none⟩) 0 0) 0 [] :=
  ⟨rfl, .inr ⟨w.heap.size, 0, #[], rfl, hB, heap_alloc_new w _, Nat.le_refl _, by unfold maxLen; omega, rfl, rfl⟩⟩
theorem own_ge {w : World} {base e size n : Nat} {v : Value} {xs : List Value} (h : w.ownsRow base e size v n xs) : ∀ k, v.ownBlock = some k → base ≤ k := by
  intro k hk
  rcases h.2 with ⟨e, h0⟩ | ⟨g, cap, cur, hv, hb, _⟩
  · rw [e] at hk; simp [Value.ownBlock] at hk
  · rw [hv] at hk; simp [Value.ownBlock] at hk; omega
/-- Names appended to an empty row of the call's own. -/
theorem run_names {w : World} (ty : TypeId) {B B2 m c : Nat} {v : Value} {A : Option Addr} {xs : List Bs} (hown : w.ownsRow B 9 1 v 0 []) (hm : m = xs.length) (hr : Strs w B2 A xs) (hl : m ≤ 60000) (hB : B ≤ w.heap.size) :
    ∃ A' c' w', (Builtin.append_ #[28, 28] ty #[v, .slice A m c]).run Try.prog w = .ok (.slice A' m c') w' ∧ Own w' B A' c' xs ∧ Below B w w' := by
  obtain ⟨i0, hi, hz0, hz1, hz2⟩ := info_parts info9
  have hge := own_ge hown
  subst hm
  cases A with
  | none =>
    have hy : xs = [] := by
      cases xs with
      | nil => rfl
      | cons x y => obtain ⟨ad, e, _⟩ := hr (by simp); cases e
    subst hy
    have h1 := run_append_nil w B 28 ty 9 i0 1 Try.underlying28 hi _ _ _ hown c
    obtain ⟨A', c', hv, ho, -⟩ := own_form (xs := []) hown
    rw [hv] at h1 ⊢
    exact ⟨A', c', w, h1, ho, Below.refl _ _⟩
  | some ad =>
    obtain ⟨v', w', h1, h2, h3, _, _⟩ := run_append_own_at w B 28 ty 9 i0 _ 1 16 Try.underlying28 hi hz0 hz1 hz2 rfl (by decide) v 0 [] hown ad xs.length c (xs.map Sv) (by rw [List.length_map]; omega) (fun j u hu => by
      rw [List.getElem?_map, Option.map_eq_some_iff] at hu
      obtain ⟨x, hx, rfl⟩ := hu
      obtain ⟨ad', e, _, hc⟩ := hr (by have := (List.getElem?_eq_some_iff.1 hx).1; omega)
      cases e
      exact hc j x hx) (by intro u hu; simp at hu; obtain ⟨_, _, rfl⟩ := hu; rfl) (by unfold maxLen; omega) (by omega) hB
    rw [List.nil_append, Nat.zero_add] at h2
    obtain ⟨A', c', rfl, ho, -⟩ := own_form h2
    exact ⟨A', c', w', h1, ho, (Below.refl _ _).grown h3 hB hge⟩
theorem wpList_names {ops : Array Oper} {rest : List Oper} {o : Oper} {a : Act} {Q : Exit → Act → World → Prop} (w : World) (hgd : o.guard = none) (s x : Operand)
    (ho : o.op = .call { callee := .builtin .append, args := #[s, x], argTypes := #[28, 28] }) (B B2 m c : Nat) {v : Value} (A : Option Addr) (xs : List Bs) (hs : a.eval s = v) (hx : a.eval x = .slice A m c)
    (hown : w.ownsRow B 9 1 v 0 []) (hm : m = xs.length) (hr : Strs w B2 A xs) (hl : m ≤ 60000) (hB : B ≤ w.heap.size)
    (h : ∀ A' c' w', Own w' B A' c' xs → Below B w w' → wpList Try.prog ops Q rest (a.put o.dst (.slice A' m c')) w') : wpList Try.prog ops Q (o :: rest) a w := by
  obtain ⟨A', c', w', h1, h2, h3⟩ := run_names (c := c) o.type hown hm hr hl hB
  exact Lib.wpList_append_run w hgd s x 28 28 ho _ _ hs hx _ _ h1 (h A' c' w' h2 h3)
set_option maxHeartbeats 4000000 in
theorem own_any (A : Option Addr) (n c B : Nat) (d : De) (w : World) (hn : n = d.ns.length) (hm : n ≤ 60000) (hB : B ≤ w.heap.size) (h : Strs w B A d.ns) : Calls Try.prog 10 #[DV A n c d] w (CopE w d) := by
  have HST := Lib.hid (fun w2 (hb : Below w.heap.size w w2) => (show Strs w2 B A d.ns from h.keep fun p hp => hb.cell (p := p) (Nat.lt_of_lt_of_le hp hB)))
  have HM := Lib.hid hm
  obtain ⟨d0, d1, d2, d3, xs, d5⟩ := d
  dsimp only [DV, CopE] at HST ⊢
  dsimp only at hn
  subst hn
  clear h hm hB
  obtain ⟨b, hb⟩ : ∃ b, w.heap.size = b := ⟨_, rfl⟩
  obtain ⟨w1, hw1⟩ : ∃ w1, w.alloc (.cells #[.int .i64 d0, .int .i64 d1, .int .i64 d2, .bool d3, .slice A xs.length c, .int .i64 d5] 30) = w1 := ⟨_, rfl⟩
  have hb1 : w1.heap.size = b + 1 := by rw [← hw1, World.size_alloc, hb]
  obtain ⟨w2, hw2⟩ : ∃ w2, w1.alloc (.cells #[.int .i64 0, .int .i64 0, .int .i64 0, .bool false, .slice none 0 0, .int .i64 0] 30) = w2 := ⟨_, rfl⟩
  have HB2 := Lib.hid (show Below w.heap.size w w2 by rw [← hw2, ← hw1]; exact below_step (below_alloc _ _) (below_alloc _ _))
  have r1 : w2.heap[b]? = some (.cells #[.int .i64 d0, .int .i64 d1, .int .i64 d2, .bool d3, .slice A xs.length c, .int .i64 d5] 30 (0, 0)) := by
    rw [← hw2, (below_alloc w1 _).block b (by omega), ← hw1, ← hb]; exact heap_alloc_new w _
  have r2 : w2.heap[b + 1]? = some (.cells #[.int .i64 0, .int .i64 0, .int .i64 0, .bool false, .slice none 0 0, .int .i64 0] 30 (0, 0)) := by
    rw [← hw2, ← hb1]; exact heap_alloc_new w1 _
  have hs2 : w2.heap.size = b + 2 := by rw [← hw2, World.size_alloc, hb1]
  have HW2 := Lib.hid (fun ob => HST.out (w2.alloc ob) (below_step HB2.out (below_alloc w2 ob)))
  have HS2 := Lib.hid hs2
  have c4 : w2.cell? ⟨b, 4, none⟩ = some (.slice A xs.length c) := by rw [cell_row r1]; rfl
  have R1 := Lib.hid r1
  have R2 := Lib.hid r2
  have hbl : b < w2.heap.size := by omega
  have c4' : ∀ ob, (w2.alloc ob).cell? ⟨b, 4, none⟩ = some (.slice A xs.length c) := fun ob => ((below_alloc w2 ob).cell (p := ⟨b, 4, none⟩) hbl).trans c4
  clear r1 r2 hs2
  go_enter Try.func10, Try.ntmps10
  go_wp2_with (first
    | (at_builtin
       refine wpList_names _ rfl (.tmp 3) (.tmp 5) rfl w2.heap.size _ xs.length c A xs (by rfl) (by rfl) (strs_lit w2 _ (Nat.le_refl _)) rfl (HW2.out _) HM.out (by simp) ?_
       intro A' c' w3 hown hb3'
       have hb3 := (below_alloc w2 (.cells #[] 9)).trans hb3'
       have hs2 := HS2.out
       have q1 := (hb3.block b (by omega)).trans R1.out
       have q2 := (hb3.block (b + 1) (by omega)).trans R2.out
       have f4 : w3.frozen? ⟨b, 4, none⟩ = false := by simp [World.frozen?, q1]
       have k0 : w3.cell? ⟨b, 0, none⟩ = some (.int .i64 d0) := by rw [cell_row q1]; rfl
       have k1 : w3.cell? ⟨b, 1, none⟩ = some (.int .i64 d1) := by rw [cell_row q1]; rfl
       have k2 : w3.cell? ⟨b, 2, none⟩ = some (.int .i64 d2) := by rw [cell_row q1]; rfl
       have k3 : w3.cell? ⟨b, 3, none⟩ = some (.bool d3) := by rw [cell_row q1]; rfl
       have k4 : w3.cell? ⟨b, 4, none⟩ = some (.slice A xs.length c) := by rw [cell_row q1]; rfl
       have k5 : w3.cell? ⟨b, 5, none⟩ = some (.int .i64 d5) := by rw [cell_row q1]; rfl
       obtain ⟨w4, hw4⟩ : ∃ w4, w3.setCell ⟨b, 4, none⟩ (.slice A' xs.length c') = w4 := ⟨_, rfl⟩
       have ne : ∀ i : Nat, i ≠ 4 → (⟨b, 4, none⟩ : Addr) ≠ ⟨b, i, none⟩ := fun i hi e => by injection e with _ e; exact hi e.symm
       have HL4 := Lib.hid (show w4.rangeAt b 0 [.int .i64 d0, .int .i64 d1, .int .i64 d2, .bool d3, .slice A' xs.length c', .int .i64 d5] by
         rw [← hw4]
         exact range6 ((World.cell?_setCell_other _ _ _ _ (ne 0 (by decide))).trans k0) ((World.cell?_setCell_other _ _ _ _ (ne 1 (by decide))).trans k1) ((World.cell?_setCell_other _ _ _ _ (ne 2 (by decide))).trans k2) ((World.cell?_setCell_other _ _ _ _ (ne 3 (by decide))).trans k3) (World.cell?_setCell_same' _ _ _ (by rw [k4]; rfl)) ((World.cell?_setCell_other _ _ _ _ (ne 5 (by decide))).trans k5))
       have hO4 : Only (fun k => k = b) w3 w4 := by rw [← hw4]; exact only_at _ _ _ _
       have q4 := (hO4.block (b + 1) (by have := hb3.size; omega) (by omega)).trans q2
       have HT := Lib.hid (there_row q4 rfl)
       have HE := Lib.hid (show ∀ x0 x1 x2 x3 x4 x5, Below w.heap.size w (set6 w4 (b + 1) x0 x1 x2 x3 x4 x5) ∧ Own (set6 w4 (b + 1) x0 x1 x2 x3 x4 x5) w.heap.size A' c' xs from fun x0 x1 x2 x3 x4 x5 => by
         have o1 : Only (fun k => b ≤ k ∧ k < b + 2) w3 (set6 w4 (b + 1) x0 x1 x2 x3 x4 x5) := (hO4.mono fun k e => by omega).trans ((set6_only _ _ _ _ _ _ _ _).mono fun k e => by omega)
         refine ⟨(below_step HB2.out hb3).trans ⟨o1.os, o1.tape, o1.output, o1.size, fun k hk => o1.block k (by have := HB2.out.size; have := hb3.size; omega) (by omega)⟩, ?_⟩
         have h1 := own_base hown (B' := w.heap.size) (by omega)
         refine ⟨h1.1, ?_⟩
         rcases hown.2 with h2 | ⟨g, cap, cur, hv, hgb, hg, r⟩
         · exact .inl h2
         · exact .inr ⟨g, cap, cur, hv, by omega, (o1.block g (by rcases Nat.lt_or_ge g w3.heap.size with h | h; exact h; rw [Array.getElem?_eq_none h] at hg; cases hg) (by omega)).trans hg, r⟩)
       clear k0 k1 k2 k3 k5 ne q1 q2 q4 hO4 hown hb3 c4)
    | refine wpList_load_mid (by rfl) 30 (.tmp 1) (by rfl) b 0 (by rfl) _ _ HL4.out Try.underlying30 (by rfl) (by kernel_rfl) ?_
    | refine wpList_store_mid (by rfl) 30 (.tmp 2) (.tmp 8) (by rfl) (b + 1) 0 #[.int .i64 d0, .int .i64 d1, .int .i64 d2, .bool d3, .slice A' xs.length c', .int .i64 d5] (by rfl) (by rfl) HT.out (by kernel_rfl) (by simp [Value.oneCell']) ?_)
  refine bodyPost_ret (results_row rfl _ _ (b + 1) [.int .i64 d0, .int .i64 d1, .int .i64 d2, .bool d3, .slice A' xs.length c', .int .i64 d5] _ rfl (set6_range HT.out _ _ _ _ _ _) Try.underlying30 (by rfl) (by kernel_rfl)) rfl ?_
  exact ⟨A', c', rfl, (HE.out _ _ _ _ _ _).2, (HE.out _ _ _ _ _ _).1⟩

end Go.Proofs.Ytfbdhpbnmjacmaa.ds
