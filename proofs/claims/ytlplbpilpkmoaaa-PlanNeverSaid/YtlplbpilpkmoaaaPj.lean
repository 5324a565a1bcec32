/- Plans in memory; the rank of the numbers; rows of bools. -/
import Derived.Test.YtlplbpilpkmoaaaPi
import Derived.Test.YtlplbpilpkmoaaaQi
import Derived.Laws.BitsLemmas
namespace Go.Proofs.Ytlplbpilpkmoaaa.sc
open Go.RowKit Go.Shelf
open pl (Wt wlt gw gw_get gw_mem mem_gw OW encW IsOrd)
set_option linter.unusedVariables false
set_option linter.unusedSimpArgs false

/-- Block G is a row of n bools. -/
def BRow (w : World) (G n : Nat) (f : Nat → Bool) : Prop := G < w.heap.size ∧ (∀ k, k < n → w.cell? ⟨G, k, none⟩ = some (.bool (f k))) ∧ ∀ j, w.frozen? ⟨G, j, none⟩ = false
theorem BRow.of_block {w w' : World} {G n : Nat} {f : Nat → Bool} (h : BRow w G n f) (hs : w.heap.size ≤ w'.heap.size) (hb : w'.heap[G]? = w.heap[G]?) : BRow w' G n f :=
  ⟨Nat.lt_of_lt_of_le h.1 hs, fun k hk => (World.cell?_of_block (a := ⟨G, k, none⟩) hb).trans (h.2.1 k hk), fun j => (World.frozen?_of_block (a := ⟨G, j, none⟩) hb).trans (h.2.2 j)⟩
theorem BRow.below {w w' : World} {G n : Nat} {f : Nat → Bool} (h : BRow w G n f) (hb : Below w.heap.size w w') : BRow w' G n f := h.of_block hb.size (hb.block G h.1)
theorem BRow.put {w : World} {G n : Nat} {f : Nat → Bool} (h : BRow w G n f) {t : Nat} (ht : t < n) (v : Bool) : BRow (w.setCell ⟨G, t, none⟩ (.bool v)) G n (upb f t v) := by
  refine ⟨by simpa [World.setCell] using h.1, fun k hk => ?_, fun j => by simpa using h.2.2 j⟩
  by_cases e : k = t
  · subst e; rw [World.cell?_setCell_same _ _ _ (h.2.1 k hk), upb_self]
  · rw [World.cell?_setCell_other _ _ _ _ (off_ne (fun h2 => e h2.symm)), h.2.1 k hk, upb_ne e]
theorem BRow.other {w : World} {G n : Nat} {f : Nat → Bool} (h : BRow w G n f) {a : Addr} (ha : G ≠ a.block) (v : Value) : BRow (w.setCell a v) G n f :=
  h.of_block (by simp [World.setCell]) (Below.heap_setCell _ _ _ _ ha)
theorem BRow.keep {w w' : World} {G n : Nat} {f : Nat → Bool} (h : BRow w G n f) (hl : G < w'.heap.size) (hb : w'.heap[G]? = w.heap[G]?) : BRow w' G n f :=
  ⟨hl, fun k hk => (World.cell?_of_block (a := ⟨G, k, none⟩) hb).trans (h.2.1 k hk), fun j => (World.frozen?_of_block (a := ⟨G, j, none⟩) hb).trans (h.2.2 j)⟩
theorem info4 : (Try.prog.info? 4).map (fun i => (i.zero, i.size, i.bytes)) = some (some (.bool false), 1, 1) := by kernel_rfl
/-- A new row of bools. -/
theorem make_brow (w : World) (n : Nat) (hn : n ≤ 64) : ∃ w1, (Instr.makeSlice 47 (.int .i64 (n : Int)) (.int .i64 (n : Int))).run Try.prog w = .ok (.slice (some ⟨w.heap.size, 0, none⟩) n n) w1 ∧ BRow w1 w.heap.size n (fun _ => false) ∧ Below w.heap.size w w1 ∧ w1.heap.size = w.heap.size + 1 := by
  obtain ⟨i, hi, hz, hs, hby⟩ := info_parts info4
  have hr := run_make (P := Try.prog) w 47 4 i (.bool false) Try.underlying47 hi hz .i64 .i64 n n (by omega) (Int.le_refl _) (by rw [hby]; omega) (by omega)
  simp only [Int.toNat_natCast, hs] at hr
  rw [Nat.mul_one] at hr
  have kr := heap_alloc_new w (.cells (madeCells (Value.bool false).cells n) 4)
  obtain ⟨w1, hw1⟩ : ∃ w1, w.alloc (.cells (madeCells (Value.bool false).cells n) 4) = w1 := ⟨_, rfl⟩
  have hsz : w1.heap.size = w.heap.size + 1 := by rw [← hw1]; simp
  have hbl : Below w.heap.size w w1 := by rw [← hw1]; exact below_alloc _ _
  rw [hw1] at hr kr
  refine ⟨w1, hr, ⟨by omega, fun k hk => ?_, fun j => ?_⟩, hbl, hsz⟩
  · have : (madeCells (Value.bool false).cells n)[k]? = some (.bool false) := by
      have e : (Value.bool false).cells = #[Value.bool false] := rfl
      rw [e]
      simp [madeCells, Array.getElem?_range, hk, Nat.mod_one]
    simp [World.cell?, kr, this]
  · simp [World.frozen?, kr]

/-! The wants that bytes tell. -/
def dep (m : Nat) : Nat := m * 7 % 5
def want0 (x : Nat) : Wt := ⟨((x * 7 % 5 : Nat) : Int), ((x % 16 : Nat) : Int), decide (127 < x)⟩
def want1 (x : Nat) : Wt := ⟨((dep (x % 16) : Nat) : Int), ((x % 16 : Nat) : Int), decide (127 < x)⟩
/-- The first j of m wants have their depth by their number. -/
def rowM (b : List Nat) (m j : Nat) : List Wt := (List.range m).map fun i => if i < j then want1 (b.getD i 0) else want0 (b.getD i 0)
theorem rowM_len (b : List Nat) (m j : Nat) : (rowM b m j).length = m := by simp [rowM]
theorem rowM_more (b : List Nat) (m : Nat) : rowM b (m + 1) 0 = rowM b m 0 ++ [want0 (b.getD m 0)] := by simp [rowM, List.range_succ]
theorem gw_rowM (b : List Nat) {m j i : Nat} (h : i < m) : gw (rowM b m j) i = if i < j then want1 (b.getD i 0) else want0 (b.getD i 0) := by
  rw [gw_get (by rw [rowM_len]; exact h)]; simp [rowM]
theorem rowM_set (b : List Nat) {m j : Nat} (h : j < m) : (rowM b m j).set j ((gw (rowM b m j) j).dp ((dep (b.getD j 0 % 16) : Nat) : Int)) = rowM b m (j + 1) := by
  apply List.ext_getElem
  · simp [rowM_len]
  · intro i h1 h2
    have hi : i < m := by rw [rowM_len] at h2; exact h2
    rw [List.getElem_set]
    have e2 : (rowM b m (j + 1))[i] = if i < j + 1 then want1 (b.getD i 0) else want0 (b.getD i 0) := by simp [rowM]
    have e3 : (rowM b m j)[i]'(by rw [rowM_len]; exact hi) = if i < j then want1 (b.getD i 0) else want0 (b.getD i 0) := by simp [rowM]
    rw [e2]
    by_cases e : j = i
    · subst e
      rw [if_pos rfl, gw_rowM b h, if_neg (Nat.lt_irrefl j), if_pos (Nat.lt_succ_self j)]
      rfl
    · rw [if_neg e, e3]
      by_cases e4 : i < j
      · rw [if_pos e4, if_pos (by omega)]
      · rw [if_neg e4, if_neg (by omega)]
theorem rowM_mem {b : List Nat} {m : Nat} {x : Wt} (h : x ∈ rowM b m m) : ∃ z, x = want1 z := by
  obtain ⟨i, hi, rfl⟩ := List.mem_map.1 h
  rw [if_pos (List.mem_range.1 hi)]
  exact ⟨_, rfl⟩
theorem rowM_wf {b : List Nat} {m : Nat} : ∀ x ∈ rowM b m m, Wf x.n := fun x hx => by
  obtain ⟨z, rfl⟩ := rowM_mem hx
  exact wf_small (by show -1000000 ≤ ((z % 16 : Nat) : Int); omega) (by show ((z % 16 : Nat) : Int) ≤ 1000000; omega)
theorem ord_dep {b : List Nat} {m : Nat} {o : List Wt} (h : IsOrd (rowM b m m) o) {x : Wt} (hx : x ∈ o) : ∃ z : Nat, z < 16 ∧ x.n = (z : Int) ∧ x.d = (dep z : Int) := by
  obtain ⟨y, hy, e1, e2⟩ := h.summ.deep x hx
  obtain ⟨z, rfl⟩ := rowM_mem hy
  exact ⟨z % 16, Nat.mod_lt _ (by decide), e1.symm, e2.symm⟩
/-- By depth and then by number. -/
def rkI (n : Int) : Nat := dep n.toNat * 16 + n.toNat
theorem rk_rows {n : Nat} {o : Nat → List Wt} {b : Nat → List Nat} {m : Nat → Nat} (h : ∀ t, t < n → IsOrd (rowM (b t) (m t) (m t)) (o t)) (h8 : ∀ t, t < n → m t ≤ 8) : Rk n (fun t => (o t).length) (fun t k => (gw (o t) k).n) rkI := by
  refine ⟨fun t ht => ?_, fun t ht j k hjk hk => ?_, fun t ht k hk => ?_⟩
  · have := (h t ht).len; rw [rowM_len] at this; have := h8 t ht; omega
  · have hk' : k < (o t).length := hk
    have hw := (h t ht).at_ hjk hk'
    obtain ⟨z, z1, z2, z3⟩ := ord_dep (h t ht) (List.getElem_mem (show j < (o t).length by omega))
    obtain ⟨y, y1, y2, y3⟩ := ord_dep (h t ht) (List.getElem_mem hk')
    show rkI (gw (o t) j).n < rkI (gw (o t) k).n
    rw [gw_get (by omega), gw_get hk', z2, y2]
    unfold wlt at hw
    rw [z2, y2, z3, y3] at hw
    unfold rkI
    simp only [Int.toNat_natCast]
    omega
  · have hk' : k < (o t).length := hk
    obtain ⟨y, y1, y2, y3⟩ := ord_dep (h t ht) (List.getElem_mem hk')
    show rkI (gw (o t) k).n < 1000
    rw [gw_get hk', y2]
    unfold rkI dep
    simp only [Int.toNat_natCast]
    omega
theorem and15 (x : Nat) (hx : x < 256) : bits .and .i64 (x : Int) 15 = ((x % 16 : Nat) : Int) := by
  have := bits_mask .i64 8 (by decide) (fun n h0 h1 => by rw [IntKind.wrap_i64]; have : (2:Int) ^ 8 = 256 := by decide
                                                          omega) 4 (by decide) (x : Int) (by omega) (by have : (2:Int) ^ 8 = 256 := by decide
                                                                                                        omega)
  have e : (2 : Int) ^ 4 - 1 = 15 := by decide
  have e2 : (2 : Int) ^ 4 = 16 := by decide
  rw [e, e2] at this
  rw [this]; omega
theorem tmod5 (x : Nat) : ((x : Int) * 7).tmod 5 = ((x * 7 % 5 : Nat) : Int) := by rw [Int.tmod_eq_emod_of_nonneg (by omega)]; omega

/-! Plans in memory. -/
structure PL (w : World) (lo : Nat) (v : Value) (vs : List Value) (ll : List (List Wt)) : Prop where
  row : w.ownsRow lo 22 1 v vs.length vs
  len : vs.length = ll.length
  each : ∀ i, i < ll.length → OW w lo 39 (vs.getD i undef) (ll.getD i [])
  apart : ∀ i g, i < ll.length → (vs.getD i undef).ownBlock = some g → v.ownBlock ≠ some g
theorem PL.keep {w w' : World} {lo : Nat} {v : Value} {vs : List Value} {ll : List (List Wt)} (h : PL w lo v vs ll) (hb : ∀ b, lo ≤ b → b < w.heap.size → w'.heap[b]? = w.heap[b]?) : PL w' lo v vs ll := by
  refine ⟨⟨h.row.1, h.row.2.imp id fun ⟨g, c, cur, h1, h2, h3, r⟩ => ⟨g, c, cur, h1, h2, (hb g h2 (Array.getElem?_eq_some_iff.1 h3).1).trans h3, r⟩⟩, h.len, fun i hi => (h.each i hi).keep fun g e => hb g ((h.each i hi).olt e).1 ((h.each i hi).olt e).2, h.apart⟩
theorem PL.below {w w' : World} {lo : Nat} {v : Value} {vs : List Value} {ll : List (List Wt)} (h : PL w lo v vs ll) (hb : Below w.heap.size w w') : PL w' lo v vs ll := h.keep fun b _ hl => hb.block b hl
/-- Plans, as they are read. -/
structure PF (w : World) (lo hi : Nat) (v : Value) (n : Nat) (o : Nat → List Wt) : Prop where
  form : ∃ A c, v = .slice A n c ∧ ∀ t, t < n → ∃ gp, A = some ⟨gp, 0, none⟩ ∧ lo ≤ gp ∧ gp < hi ∧ ∃ A' c', w.cell? ⟨gp, t, none⟩ = some (.slice A' (o t).length c') ∧
    ∀ k, k < (o t).length → ∃ g, A' = some ⟨g, 0, none⟩ ∧ lo ≤ g ∧ g < hi ∧ w.cell? ⟨g, k * 3 + 1, none⟩ = some (.int .i64 (gw (o t) k).n) ∧ w.cell? ⟨g, k * 3 + 2, none⟩ = some (.bool (gw (o t) k).w)
theorem PF.keep {w w' : World} {lo hi n : Nat} {v : Value} {o : Nat → List Wt} (h : PF w lo hi v n o) (hb : ∀ b, lo ≤ b → b < hi → w'.heap[b]? = w.heap[b]?) : PF w' lo hi v n o := by
  obtain ⟨A, c, e, h⟩ := h.form
  refine ⟨A, c, e, fun t ht => ?_⟩
  obtain ⟨gp, e1, h1, h2, A', c', h3, h4⟩ := h t ht
  refine ⟨gp, e1, h1, h2, A', c', (World.cell?_of_block (a := ⟨gp, t, none⟩) (hb gp h1 h2)).trans h3, fun k hk => ?_⟩
  obtain ⟨g, e2, h5, h6, h7, h8⟩ := h4 k hk
  exact ⟨g, e2, h5, h6, (World.cell?_of_block (a := ⟨g, _, none⟩) (hb g h5 h6)).trans h7, (World.cell?_of_block (a := ⟨g, _, none⟩) (hb g h5 h6)).trans h8⟩
theorem PL.read {w : World} {lo : Nat} {v : Value} {vs : List Value} {ll : List (List Wt)} (h : PL w lo v vs ll) : PF w lo w.heap.size v ll.length (fun t => ll.getD t []) := by
  have hr := h.row
  rw [h.len] at hr
  rcases hr.2 with ⟨h1, h2⟩ | ⟨g, c, cur, h1, h2, h3, h4, h5, h6, h7⟩
  · exact ⟨none, 0, by rw [h2, h1], fun t ht => by omega⟩
  · refine ⟨some ⟨g, 0, none⟩, c, h1, fun t ht => ?_⟩
    have hg : g < w.heap.size := (Array.getElem?_eq_some_iff.1 h3).1
    subst h1
    have hc := hr.cellAt t (by omega)
    have hv : vs[t]? = some (vs.getD t undef) := by
      rw [List.getD, List.getElem?_eq_getElem (by rw [h.len]; exact ht)]; rfl
    obtain ⟨A', c', e⟩ := (h.each t ht).form
    have hew := h.each t ht
    rw [e] at hew
    refine ⟨g, rfl, h2, hg, A', c', by rw [hc, hv, e], fun k hk => ?_⟩
    have hk2 : k < (ll.getD t []).length := hk
    obtain ⟨b, off, e1, hb, q0, q1, q2⟩ := hew.wan k hk2
    obtain ⟨g2, c2, e2, hlo, hlt⟩ := hew.some_ (by omega)
    injection e2 with e2
    rw [e2] at e1
    injection e1 with e1
    injection e1 with e3 e4
    subst e3 e4
    rw [Nat.zero_add] at q0 q1 q2
    exact ⟨g2, e2, hlo, hlt, q1, q2⟩
theorem info22 : (Try.prog.info? 22).map (fun i => (i.zero, i.size, i.bytes)) = some (some (.slice none 0 0), 1, 24) := by kernel_rfl
end Go.Proofs.Ytlplbpilpkmoaaa.sc
