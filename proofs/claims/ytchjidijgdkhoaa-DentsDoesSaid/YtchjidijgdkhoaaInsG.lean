/- 'slices.Insert' of one item ahead of the end of a row that is full: a new row. -/
import Derived.Test.YtchjidijgdkhoaaIns
namespace Go.Proofs.Ytchjidijgdkhoaa
open Go.RowKit Go.Shelf
set_option linter.unusedVariables false

abbrev Zv : Value := .agg #[.string ByteArray.empty, .int .i64 0]
theorem zeroCells_size (n : Nat) : (Builtin.zeroCells Zv.cells n).size = n * 2 := by simp [Builtin.zeroCells]; rfl

theorem grow_take {L : List En} {i c' : Nat} {x : En} {Z : List Value} (hi : i ≤ L.length) (hZ : ((encL (L.take i)) ++ Z).length = c' * 2) (hc : L.length + 1 ≤ c') :
    let X := encL (L.take i) ++ Z
    let X1 := X.take (i * 2) ++ encL [x] ++ X.drop (i * 2 + (encL [x]).length)
    (X1.take ((i + 1) * 2) ++ encL (L.drop i) ++ X1.drop ((i + 1) * 2 + (encL (L.drop i)).length)).take ((L.length + 1) * 2) = encL (L.take i ++ x :: L.drop i) := by
  intro X X1
  have hl : (encL (L.drop i)).length = (L.length - i) * 2 := by rw [encL_length, List.length_drop]
  have ht : (encL (L.take i)).length = i * 2 := by rw [encL_length, List.length_take, Nat.min_eq_left hi]
  have hx1 : X1 = encL (L.take i) ++ encL [x] ++ X.drop (i * 2 + (encL [x]).length) := by
    show X.take (i * 2) ++ _ ++ _ = _
    congr 2
    show (encL (L.take i) ++ Z).take (i * 2) = _
    rw [List.take_append_of_le_length (by omega), List.take_of_length_le (by omega)]
  have h1 : X1.take ((i + 1) * 2) = encL (L.take i) ++ encL [x] := by
    rw [hx1, List.take_append_of_le_length (by rw [List.length_append, ht, encL_length]; simp; omega), List.take_of_length_le (by rw [List.length_append, ht, encL_length]; simp; omega)]
  rw [h1, show L.take i ++ x :: L.drop i = L.take i ++ [x] ++ L.drop i by simp, encL_append, encL_append, List.take_append_of_le_length, List.take_of_length_le]
  · rw [List.length_append, List.length_append, hl, ht, encL_length]; simp; omega
  · rw [List.length_append, List.length_append, hl, ht, encL_length]; simp; omega

theorem insE_grow {w : World} {c' lo i : Nat} {o : Option Nat} {L : List En} {x : En} {Z : List Value} (hi : i ≤ L.length) (hlo : lo ≤ w.heap.size) (hZ : ((encL (L.take i)) ++ Z).length = c' * 2) (hc : L.length + 1 ≤ c') (hm : c' ≤ maxLen) :
    InsE w lo o L.length (L.take i ++ x :: L.drop i) (.returned (.slice (some ⟨w.heap.size, 0, none⟩) (L.length + 1) c'))
      ((((w.alloc (.cells (encL (L.take i) ++ Z).toArray 37)).drew.setCells w.heap.size (i * 2) (encL [x])).drew).setCells w.heap.size ((i + 1) * 2) (encL (L.drop i))) := by
  have hX : (w.alloc (.cells (encL (L.take i) ++ Z).toArray 37)).drew.heap[w.heap.size]? = some (.cells (encL (L.take i) ++ Z).toArray 37 (0, 0)) := heap_alloc_new w _
  refine ⟨w.heap.size, c', rfl, ?_, hlo, .inr (Nat.le_refl _), ?_⟩
  · rw [setCells_row hX (by rw [hZ, encL_length]; simp; omega) (encL_one _)]
    have hs := setRow_heap (w.alloc (.cells (encL (L.take i) ++ Z).toArray 37)).drew w.heap.size (encL (L.take i) ++ Z).toArray ((encL (L.take i) ++ Z).take (i * 2) ++ encL [x] ++ (encL (L.take i) ++ Z).drop (i * 2 + (encL [x]).length)).toArray 37 _ hX
    have hs2 : ((w.alloc (.cells (encL (L.take i) ++ Z).toArray 37)).drew.setRow w.heap.size ((encL (L.take i) ++ Z).take (i * 2) ++ encL [x] ++ (encL (L.take i) ++ Z).drop (i * 2 + (encL [x]).length)).toArray).drew.heap[w.heap.size]? = some (.cells ((encL (L.take i) ++ Z).take (i * 2) ++ encL [x] ++ (encL (L.take i) ++ Z).drop (i * 2 + (encL [x]).length)).toArray 37 (0, 0)) := hs
    have hl2 : ((encL (L.take i) ++ Z).take (i * 2) ++ encL [x] ++ (encL (L.take i) ++ Z).drop (i * 2 + (encL [x]).length)).length = c' * 2 := by
      rw [List.length_append, List.length_append, List.length_take, List.length_drop, hZ, encL_length]; simp; omega
    rw [setCells_row hs2 (by rw [hl2, encL_length, List.length_drop]; omega) (encL_one _)]
    refine ⟨by simp; omega, hm, _, setRow_heap _ _ _ _ 37 _ hs2, ?_, ?_⟩
    · rw [List.length_append, List.length_append, List.length_take, List.length_drop, hl2, encL_length, List.length_drop]; omega
    · have := grow_take (x := x) hi hZ hc
      have e : (L.take i ++ x :: L.drop i).length = L.length + 1 := by simp; omega
      rw [e]
      exact this
  · refine grownBy_below ⟨?_, ?_, ?_, ?_, ?_⟩ _
    all_goals
      have a := grownBy_sets w.heap.size (encL [x]) (i * 2) (w.alloc (.cells (encL (L.take i) ++ Z).toArray 37)).drew
      have b := grownBy_sets w.heap.size (encL (L.drop i)) ((i + 1) * 2) (((w.alloc (.cells (encL (L.take i) ++ Z).toArray 37)).drew.setCells w.heap.size (i * 2) (encL [x])).drew)
      have d := grownBy_trans (grownBy_trans a (grownBy_drew _ _)) b
      have hb := below_alloc w (.cells (encL (L.take i) ++ Z).toArray 37)
    · exact d.os.trans hb.os
    · exact d.tape.trans hb.tape
    · exact d.output.trans hb.output
    · exact Nat.le_trans hb.size d.size
    · intro k hk
      exact (d.block k (Nat.lt_of_lt_of_le hk hb.size) (fun e => by injection e with e; omega)).trans (hb.block k hk)

set_option maxHeartbeats 4000000 in
set_option maxRecDepth 100000 in
theorem ins_grow (G c lo i vb vc : Nat) (L : List En) (x : En) (w : World) (hi : i < L.length) (hroom : L.length = c) (hN : L.length ≤ 1000000) (hlo : lo ≤ w.heap.size) (h : ERow w G c L) (hv : w.heap[vb]? = some (.cells #[.string x.1, .int .i64 x.2] 37 (0, 0))) (hne : vb ≠ G) :
    Calls Try.prog 25 #[.slice (some ⟨G, 0, none⟩) L.length c, .int .i64 i, .slice (some ⟨vb, 0, none⟩) 1 vc] w (InsE w lo (some G) L.length (L.take i ++ x :: L.drop i)) := by
  obtain ⟨i0, hi0, hz0, hz1, hz2⟩ := info_parts info37
  have hGw := h.lt
  have hvw : vb < w.heap.size := (Array.getElem?_eq_some_iff.1 hv).1
  have htl : (encL (L.take i)).length = i * 2 := by rw [encL_length, List.length_take, Nat.min_eq_left (Nat.le_of_lt hi)]
  have hdl : (encL (L.drop i)).length = (L.length - i) * 2 := by rw [encL_length, List.length_drop]
  have hkk : (L.length : Int) + 1 - (i : Int) = ((L.length + 1 - i : Nat) : Int) := by omega
  have hold : (Builtin.firstCells i0.size i (.slice (some ⟨G, 0, none⟩) i c)).run Try.prog w.drew = .ok (encL (L.take i)).toArray w.drew := by
    rw [hz1]
    exact run_firstCells_some w.drew 2 i ⟨G, 0, none⟩ i c (encL (L.take i)) htl (fun j v hj => by
      rw [Addr.add_lit, Nat.zero_add]
      rw [← encL_take] at hj
      rw [List.getElem?_take] at hj
      split at hj
      · exact h.cells hj
      · cases hj)
  have hGcap : grownCap w (L.length + 1) c 37 = grownCap w (L.length + 1) c 37 := rfl
  have hrz : ∀ ty, (Builtin.append_ #[27, 3] ty #[.slice (some ⟨G, 0, none⟩) i c, .int .i64 ((L.length : Int) + 1 - (i : Int))]).run Try.prog w =
      .ok (.slice (some ⟨w.heap.size, 0, none⟩) (L.length + 1) (grownCap w (L.length + 1) c 37)) (w.drew.alloc (.cells ((encL (L.take i)).toArray ++ Builtin.zeroCells Zv.cells (L.length + 1 - i) ++ Builtin.zeroCells Zv.cells (grownCap w (L.length + 1) c 37 - (L.length + 1))) 37)) := fun ty => by
    have hik : i + (L.length + 1 - i) = L.length + 1 := by omega
    have h := Lib.run_append_grow_zeros w 27 3 ty 37 i0 _ .i64 .i64 Try.underlying27 Try.underlying3 hi0 hz0 (some ⟨G, 0, none⟩) i c (encL (L.take i)) hold (L.length + 1 - i) (by omega) (by omega) (by omega) (by omega) (by rw [hz2]; omega) (by rw [hz2, hik]; exact growslice_fits (by omega) (by omega))
    rw [hik] at h
    rw [hkk]
    exact h
  have hGn : L.length + 1 ≤ grownCap w (L.length + 1) c 37 := grownCap_ge w _ _ _
  have hG63 := grownCap_le_maxLen w (L.length + 1) c 37 (by unfold maxLen; omega)
  generalize grownCap w (L.length + 1) c 37 = C at *
  obtain ⟨Z, hZ⟩ : ∃ Z : List Value, Z = (Builtin.zeroCells Zv.cells (L.length + 1 - i) ++ Builtin.zeroCells Zv.cells (C - (L.length + 1))).toList := ⟨_, rfl⟩
  have hrow : (encL (L.take i)).toArray ++ Builtin.zeroCells Zv.cells (L.length + 1 - i) ++ Builtin.zeroCells Zv.cells (C - (L.length + 1)) = (encL (L.take i) ++ Z).toArray := by
    rw [hZ]; simp
  have hZl : (encL (L.take i) ++ Z).length = C * 2 := by
    rw [hZ, List.length_append, htl]
    simp only [Array.length_toList, Array.size_append, zeroCells_size]
    omega
  rw [hrow] at hrz
  have HF := Lib.hid (insE_grow (w := w) (o := some G) (x := x) (Nat.le_of_lt hi) hlo hZl hGn hG63)
  clear hrow hZ hold
  generalize hR : (encL (L.take i) ++ Z).toArray = ROW at *
  have hRs : ROW.size = C * 2 := by rw [← hR]; simpa using hZl
  obtain ⟨W1, hW1⟩ : ∃ W1, W1 = w.drew.alloc (.cells ROW 37) := ⟨_, rfl⟩
  rw [← hW1] at hrz
  have hN1 : ∀ j, j < C * 2 → (W1.cell? ⟨w.heap.size, j, none⟩).isSome = true := fun j hj => by
    rw [hW1, World.cell?_alloc_at (w := w.drew) ROW _ w.heap.size j rfl, Array.getElem?_eq_getElem (by omega)]; rfl
  have hNf : ∀ j, W1.frozen? ⟨w.heap.size, j, none⟩ = false := fun j => by rw [hW1]; exact World.frozen?_alloc_at (w := w.drew) ROW _ w.heap.size j rfl
  have hOb : ∀ j v, w.cell? ⟨G, j, none⟩ = some v → W1.cell? ⟨G, j, none⟩ = some v := fun j v h => by rw [hW1, World.cell?_alloc_past (w := w.drew) _ G j hGw]; exact h
  have hOv : ∀ j v, w.cell? ⟨vb, j, none⟩ = some v → W1.cell? ⟨vb, j, none⟩ = some v := fun j v h => by rw [hW1, World.cell?_alloc_past (w := w.drew) _ vb j hvw]; exact h
  have hcpA : ∀ (W : World), (∀ x, W.cell? x = W1.cell? x) → (∀ x, W.frozen? x = W1.frozen? x) → ∀ ty dc, (Builtin.copy_ #[27, 27] ty #[.slice (some ⟨w.heap.size, i * 2, none⟩) (L.length + 1 - i) dc, .slice (some ⟨vb, 0, none⟩) 1 vc]).run Try.prog W = .ok (goInt ((1 : Nat) : Int)) (W.setCells w.heap.size (i * 2) (encL [x])) := fun W hWc hWf ty dc =>
    run_copy2 W 27 27 ty w.heap.size (i * 2) _ dc ⟨vb, 0, none⟩ 1 vc 1 (encL [x]) Try.underlying27 (by simp only [Nat.min_def]; split <;> omega) rfl
      (fun j v hj => by
        have := cells_of_box hv j v hj
        rw [Addr.add_lit] at this ⊢
        rw [hWc]; exact hOv _ v this)
      (fun j hj => by rw [hWc]; exact hN1 _ (by rw [encL_length] at hj; simp at hj; omega)) (fun j hj => by rw [hWf]; exact hNf _) (encL_one _)
  have hGN : G ≠ w.heap.size := by omega
  have hcpB : ∀ (W : World), (∀ y, W.cell? y = (W1.setCells w.heap.size (i * 2) (encL [x])).cell? y) → (∀ y, W.frozen? y = (W1.setCells w.heap.size (i * 2) (encL [x])).frozen? y) → ∀ ty dc sc, (Builtin.copy_ #[27, 27] ty #[.slice (some ⟨w.heap.size, (i + 1) * 2, none⟩) (L.length - i) dc, .slice (some ⟨G, i * 2, none⟩) (L.length - i) sc]).run Try.prog W = .ok (goInt ((L.length - i : Nat) : Int)) (W.setCells w.heap.size ((i + 1) * 2) (encL (L.drop i))) := fun W hWc hWf ty dc sc =>
    run_copy2 W 27 27 ty w.heap.size ((i + 1) * 2) _ dc ⟨G, i * 2, none⟩ _ sc (L.length - i) (encL (L.drop i)) Try.underlying27 (by simp) hdl
      (fun j v hj => by
        rw [Addr.add_lit, hWc, World.cell?_setCells_out _ _ _ _ _ (fun hb _ => absurd hb hGN)]
        exact hOb _ v (h.cells (by rw [← encL_drop, List.getElem?_drop] at hj; exact hj)))
      (fun j hj => by rw [hWc]; exact isSome_setCells w.heap.size (encL [x]) (i * 2) W1 (fun t ht => hN1 _ (by rw [encL_length] at ht; simp at ht; omega)) ((i + 1) * 2 + j) (hN1 _ (by rw [hdl] at hj; omega)))
      (fun j hj => by rw [hWf, World.frozen?_setCells]; exact hNf _) (encL_one _)
  subst hW1
  have hE1 : ∀ y, ((w.alloc (.cells ROW 37)).drew).cell? y = (w.drew.alloc (.cells ROW 37)).cell? y := fun y => rfl
  have hE2 : ∀ y, ((w.alloc (.cells ROW 37)).drew).frozen? y = (w.drew.alloc (.cells ROW 37)).frozen? y := fun y => rfl
  have hF1 : ∀ y, (((w.alloc (.cells ROW 37)).drew.setCells w.heap.size (i * 2) (encL [x])).drew).cell? y = ((w.drew.alloc (.cells ROW 37)).setCells w.heap.size (i * 2) (encL [x])).cell? y := fun y => rfl
  have hF2 : ∀ y, (((w.alloc (.cells ROW 37)).drew.setCells w.heap.size (i * 2) (encL [x])).drew).frozen? y = ((w.drew.alloc (.cells ROW 37)).setCells w.heap.size (i * 2) (encL [x])).frozen? y := fun y => rfl
  generalize hn : L.length = n at *
  generalize L.take i ++ x :: L.drop i = K at *
  generalize encL [x] = cx at *
  generalize encL (L.drop i) = cd at *
  have hz2' : ¬ ((i : Int) = (n : Int)) := by omega
  have hz3 : ((i : Int) == (n : Int)) = false := by simpa using hz2'
  have hz4 : (c : Int) < (n : Int) + 1 := by omega
  have hw1 : IntKind.i64.wrap ((i : Int) + 1) = (i : Int) + 1 := by rw [IntKind.wrap_i64]; omega
  have hb1 : (0 : Int) ≤ (i : Int) + 1 := by omega
  have hin : i ≤ n := by omega
  have htn : ((i : Int) + 1).toNat = i + 1 := by omega
  have hb3 : (i : Int) ≤ (n : Int) := by omega
  have hG63' : C ≤ 9223372036854775807 := hG63
  have hGi : ¬ (C = i) := by omega
  have hGim : ¬ (C = i + 1) := by omega
  have hci : ¬ (c = i) := by omega
  have hic : i ≤ c := by omega
  have HN := Lib.hid hn
  have HC := Lib.hid hroom
  clear hn hroom h hv hdl htl hkk hGcap hZl hRs hR hN1 hNf hOb hOv hz0 hG63
  go_enter Try.func25, Try.ntmps25
  go_wp2_with (first
    | (at_builtin; refine Lib.wpList_append_run _ rfl _ _ _ _ rfl _ _ rfl rfl _ _ (hrz _) ?_)
    | (refine wpList_copy_run _ rfl (.tmp 43) (.tmp 44) 27 27 rfl _ _ rfl rfl (hcpA _ hE1 hE2 _ _) ?_))
  go_region_law (refine step_copy_run rfl _ _ 27 27 rfl (.slice (some ⟨w.heap.size, (i + 1) * 2, none⟩) (n - i) (C - (i + 1))) (.slice (some ⟨G, i * 2, none⟩) (n - i) (c - i)) (by simp [Act.eval, Act.put]) (by simp [Act.eval, Act.put]) (hcpB _ hF1 hF2 3 (C - (i + 1)) (c - i)) ?_)
  all_goals
    go_wp2_with fail
    go_ret
    exact HF.out

/-- 'slices.Insert' of one item at a place of a row of the call's own. -/
theorem ins_any (c lo i vb vc : Nat) (o : Option Nat) (L : List En) (x : En) (w : World) (hi : i ≤ L.length) (hN : L.length ≤ 1000000) (hlo : lo ≤ w.heap.size) (h : Sl w lo o c L) (hv : w.heap[vb]? = some (.cells #[.string x.1, .int .i64 x.2] 37 (0, 0))) (hne : o ≠ some vb) :
    Calls Try.prog 25 #[.slice (Ao o) L.length c, .int .i64 i, .slice (some ⟨vb, 0, none⟩) 1 vc] w (InsE w lo o L.length (L.take i ++ x :: L.drop i)) := by
  have hc : L.length ≤ c ∧ c ≤ maxLen := by
    cases o with
    | none => obtain ⟨rfl, rfl⟩ := h; exact ⟨Nat.le_refl _, by unfold maxLen; omega⟩
    | some G => exact ⟨h.2.1, h.2.2.1⟩
  by_cases he : i = L.length
  · rw [hx_of he]
    subst he
    exact ins_end c lo vb vc o L x w hN hlo h hc.2 hc.1 hv
  · cases o with
    | none => obtain ⟨rfl, rfl⟩ := h; simp at hi he; omega
    | some G =>
      have hG : vb ≠ G := fun e => hne (by rw [e])
      by_cases hr : L.length + 1 ≤ c
      · exact ins_room G c lo i vb vc L x w (by omega) hr hN h.1 h.2 hv hG
      · exact ins_grow G c lo i vb vc L x w (by omega) (by omega) hN hlo h.2 hv hG
end Go.Proofs.Ytchjidijgdkhoaa
