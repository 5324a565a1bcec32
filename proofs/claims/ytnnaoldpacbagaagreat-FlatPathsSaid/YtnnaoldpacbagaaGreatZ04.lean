/- 'slices.Insert' of one item into a row of the call's own. 'slices.Insert' of one item ahead of the end of a row that is full: a new row. 'New', 'Set' of a directory. 'Set' of a directory: what becomes of the row. 'Set' of a directory: a name that isn't there; all of it. 'slices.Delete' of one item; 'Del' of a directory. -/
import Derived.Test.YtnnaoldpacbagaaGreatZ00
import Derived.Lib.AppendZeros
import Derived.Lib.AppendZerosOnto
import Derived.Lib.Overlaps
import Derived.Laws.Externs
import Derived.Deep.RegionLaw
import Derived.Deep.RegionWith
import Derived.Test.YtnnaoldpacbagaaGreatZ03
section
namespace Go.Proofs.YtnnaoldpacbagaaGreat.dn
open Go.RowKit Go.Shelf
set_option linter.unusedVariables false


def InsE (w : World) (lo : Nat) (o : Option Nat) (n : Nat) (K : List En) (e : Ending) (w' : World) : Prop :=
  ∃ G c', e = .returned (.slice (some ⟨G, 0, none⟩) (n + 1) c') ∧ ERow w' G c' K ∧ lo ≤ G ∧ (o = some G ∨ w.heap.size ≤ G) ∧ w.grownBy w' o

set_option maxRecDepth 100000 in
theorem wp_copy_run (w : World) {o : Oper} {a : Act} {K : Act → World → Prop} {Q : Exit → Act → World → Prop} (d s : Operand) (t t' : TypeId)
    (ho : o.op = .call { callee := .builtin .copy, args := #[d, s], argTypes := #[t, t'] }) (v u : Value) (hd : a.eval d = v) (hs : a.eval s = u) {v' : Value} {w' : World}
    (hr : (Builtin.copy_ #[t, t'] o.type #[v, u]).run Tryz.prog w = .ok v' w') (h : K (a.put o.dst v') w') : o.wp Tryz.prog a w K Q := by
  unfold Oper.wp execOp
  simp only [ho, resolve, invoke, builtin, Sem.run_bind, Sem.run_pure, Result.andThen_ok, List.map_toArray, List.map_cons, List.map_nil, hd, hs, hr]
  exact h
set_option maxRecDepth 100000 in
theorem wpList_copy_run (w : World) {ops : Array Oper} {rest : List Oper} {o : Oper} {a : Act} {Q : Exit → Act → World → Prop} (hgd : o.guard = none) (d s : Operand) (t t' : TypeId)
    (ho : o.op = .call { callee := .builtin .copy, args := #[d, s], argTypes := #[t, t'] }) (v u : Value) (hd : a.eval d = v) (hs : a.eval s = u) {v' : Value} {w' : World}
    (hr : (Builtin.copy_ #[t, t'] o.type #[v, u]).run Tryz.prog w = .ok v' w') (h : wpList Tryz.prog ops Q rest (a.put o.dst v') w') : wpList Tryz.prog ops Q (o :: rest) a w :=
  wpList_plain hgd fun _ hK => wp_copy_run w d s t t' ho v u hd hs hr (hK _ _ h)
set_option maxRecDepth 100000 in
theorem step_copy_run {ops : Array Oper} {o : Oper} {a : Act} {w : World} {K : Act → World → Prop} {Q : Exit → Act → World → Prop} {E : Prop}
    (hg : o.guard = none) (d x : Operand) (dT sT : TypeId) (hop : o.op = Op.call { callee := Callee.builtin Builtin.copy, args := #[d, x], argTypes := #[dT, sT] })
    (v u : Value) (hd : a.eval d = v) (hx : a.eval x = u) {v' : Value} {w' : World} (hr : (Builtin.copy_ #[dT, sT] o.type #[v, u]).run Tryz.prog w = .ok v' w') (hK : K (a.put o.dst v') w') :
    if Region.wanted o (yielded ops a.tmps) = true then Oper.wp Tryz.prog o a w K Q else E := by
  have hw : Region.wanted o (yielded ops a.tmps) = true := by simp [Region.wanted, hg]
  rw [if_pos hw]
  exact wp_copy_run w d x dT sT hop v u hd hx hr hK

theorem encL_single (x : En) : encL [x] = [.string x.1, .int .i64 x.2] := rfl
/-- Two stores of cells in a row: what lies ahead of i, the item, what stood from i on. -/
theorem splice_take {X : List Value} {L : List En} {i : Nat} {x : En} (hi : i ≤ L.length) (hX : (L.length + 1) * 2 ≤ X.length) (ht : X.take (L.length * 2) = encL L) :
    let X1 := X.take ((i + 1) * 2) ++ encL (L.drop i) ++ X.drop ((i + 1) * 2 + (encL (L.drop i)).length)
    (X1.take (i * 2) ++ encL [x] ++ X1.drop (i * 2 + (encL [x]).length)).take ((L.length + 1) * 2) = encL (L.take i ++ x :: L.drop i) := by
  intro X1
  have hl : (encL (L.drop i)).length = (L.length - i) * 2 := by rw [encL_length, List.length_drop]
  have h1 : X1.take (i * 2) = encL (L.take i) := by
    show (X.take ((i + 1) * 2) ++ _ ++ _).take (i * 2) = _
    rw [List.append_assoc, List.take_append_of_le_length (by rw [List.length_take]; omega), List.take_take, Nat.min_eq_left (by omega), ← encL_take, ← ht, List.take_take, Nat.min_eq_left (by omega)]
  have h2 : X1.drop (i * 2 + (encL [x]).length) = encL (L.drop i) ++ X.drop ((i + 1) * 2 + (encL (L.drop i)).length) := by
    show (X.take ((i + 1) * 2) ++ _ ++ _).drop _ = _
    rw [List.append_assoc, List.drop_append_of_le_length (by rw [List.length_take, encL_length]; simp; omega), List.drop_eq_nil_of_le (by rw [List.length_take, encL_length]; simp; omega), List.nil_append]
  rw [h1, h2, show L.take i ++ x :: L.drop i = L.take i ++ [x] ++ L.drop i by simp, encL_append, encL_append, ← List.append_assoc, List.take_append_of_le_length, List.take_of_length_le]
  · rw [List.length_append, List.length_append, encL_length, hl, List.length_take, encL_length]; simp; omega
  · rw [List.length_append, List.length_append, encL_length, hl, List.length_take, encL_length]; simp; omega

theorem cells_of_box {w : World} {vb : Nat} {x : En} (hv : w.heap[vb]? = some (.cells #[.string x.1, .int .i64 x.2] 108 (0, 0))) : ∀ j u, (encL [x])[j]? = some u → w.cell? ((⟨vb, 0, none⟩ : Addr).add j) = some u :=
  World.news_of_block (cs := #[.string x.1, .int .i64 x.2]) hv

theorem isSome_setCells (b : Nat) (vs : List Value) (o : Nat) (w : World) (h : ∀ j, j < vs.length → (w.cell? ⟨b, o + j, none⟩).isSome = true) (k : Nat) (hk : (w.cell? ⟨b, k, none⟩).isSome = true) : ((w.setCells b o vs).cell? ⟨b, k, none⟩).isSome = true := by
  by_cases hin : o ≤ k ∧ k < o + vs.length
  · have := World.cell?_setCells_in b vs o w h (k - o) (by omega)
    rw [show o + (k - o) = k by omega] at this
    rw [this]; rfl
  · rw [World.cell?_setCells_out b vs o w ⟨b, k, none⟩ (fun _ _ => by show k < o ∨ o + vs.length ≤ k; omega)]
    exact hk

/-- Behind both stores of the road with room. -/
theorem insE_room {w : World} {G c lo i : Nat} {L : List En} {x : En} (h : ERow w G c L) (hlo : lo ≤ G) (hi : i ≤ L.length) (hroom : L.length + 1 ≤ c) :
    InsE w lo (some G) L.length (L.take i ++ x :: L.drop i) (.returned (.slice (some ⟨G, 0, none⟩) (L.length + 1) c)) ((w.drew.setCells G ((i + 1) * 2) (encL (L.drop i))).setCells G (i * 2) (encL [x])) := by
  refine ⟨G, c, rfl, ?_, hlo, .inl rfl, grownBy_trans (grownBy_trans (grownBy_drew _ _) (grownBy_sets G _ _ _)) (grownBy_sets G _ _ _)⟩
  obtain ⟨h1, h2, X, hX, hl, ht⟩ := h
  have hd : w.drew.heap[G]? = some (.cells X.toArray 108 (0, 0)) := hX
  rw [setCells_row hd (by rw [encL_length, List.length_drop]; omega) (encL_one _)]
  have hs := setRow_heap w.drew G X.toArray (X.take ((i + 1) * 2) ++ encL (L.drop i) ++ X.drop ((i + 1) * 2 + (encL (L.drop i)).length)).toArray 108 _ hd
  rw [setCells_row hs (by rw [encL_length]; simp; omega) (encL_one _)]
  refine ⟨by simp; omega, h2, _, setRow_heap _ G _ _ 108 _ hs, ?_, ?_⟩
  · simp [encL_length]; omega
  · have := splice_take (x := x) hi (by omega) ht
    simp only [List.length_append, List.length_cons, List.length_take, List.length_drop]
    rw [show min i L.length + (L.length - i + 1) = L.length + 1 by omega]
    exact this

set_option maxHeartbeats 4000000 in
set_option maxRecDepth 100000 in
theorem ins_room (G c lo i vb vc : Nat) (L : List En) (x : En) (w : World) (hi : i < L.length) (hroom : L.length + 1 ≤ c) (hN : L.length ≤ 1000000) (hlo : lo ≤ G) (h : ERow w G c L) (hv : w.heap[vb]? = some (.cells #[.string x.1, .int .i64 x.2] 108 (0, 0))) (hne : vb ≠ G) :
    Calls Tryz.prog 133 #[.slice (some ⟨G, 0, none⟩) L.length c, .int .i64 i, .slice (some ⟨vb, 0, none⟩) 1 vc] w (InsE w lo (some G) L.length (L.take i ++ x :: L.drop i)) := by
  have HF := Lib.hid (insE_room (x := x) h hlo (Nat.le_of_lt hi) hroom)
  have hc63 : c ≤ 9223372036854775807 := h.2.1
  have hov : ∀ lb cb, (callFunc 173 #[.slice (some ⟨vb, 0, none⟩) 1 vc, .slice (some ⟨G, (i + 1) * 2, none⟩) lb cb]).run Tryz.prog w = .ok (.value (.bool false)) w := fun lb cb => by
    rw [run_callFunc_extern Tryz.func173 (by kernel_rfl) (by kernel_rfl) (by kernel_rfl) (e := Extern.SlicesOverlaps.overlaps #[104, 104] #[4]) (by kernel_rfl),
      Lib.run_overlaps_apart w 104 4 108 Tryz.underlying104 2 Tryz.sizeOf108 ⟨vb, 0, none⟩ ⟨G, (i + 1) * 2, none⟩ 1 vc lb cb hne 108 108 2 (c * 2) (by simp [World.shape?, hv]) h.shape (by omega) (by simp [World.frozen?, hv]) (by simp [World.frozen?, hv])]
    rfl
  have hdl : (encL (L.drop i)).length = (L.length - i) * 2 := by rw [encL_length, List.length_drop]
  have hsome : ∀ j, j < c * 2 → (w.cell? ⟨G, j, none⟩).isSome = true := fun j hj => h.some_ hj
  have hcp1 : ∀ ty dc sc, (Builtin.copy_ #[104, 104] ty #[.slice (some ⟨G, (i + 1) * 2, none⟩) (L.length - i) dc, .slice (some ⟨G, i * 2, none⟩) (L.length + 1 - i) sc]).run Tryz.prog w.drew = .ok (goInt ((L.length - i : Nat) : Int)) (w.drew.setCells G ((i + 1) * 2) (encL (L.drop i))) := fun ty dc sc =>
    run_copy2 w.drew 104 104 ty G ((i + 1) * 2) _ dc ⟨G, i * 2, none⟩ _ sc (L.length - i) (encL (L.drop i)) Tryz.underlying104 (by simp only [Nat.min_def]; split <;> omega) hdl
      (fun j v hj => by rw [Addr.add_lit]; exact h.cells (by rw [← encL_drop, List.getElem?_drop] at hj; exact hj))
      (fun j hj => hsome _ (by omega)) (fun j hj => h.frozen _) (encL_one _)
  obtain ⟨W1, hW1⟩ : ∃ W1, W1 = w.drew.setCells G ((i + 1) * 2) (encL (L.drop i)) := ⟨_, rfl⟩
  have hcp2 : ∀ (W : World), (∀ x, W.cell? x = W1.cell? x) → (∀ x, W.frozen? x = W1.frozen? x) → ∀ ty dc, (Builtin.copy_ #[104, 104] ty #[.slice (some ⟨G, i * 2, none⟩) (L.length + 1 - i) dc, .slice (some ⟨vb, 0, none⟩) 1 vc]).run Tryz.prog W = .ok (goInt ((1 : Nat) : Int)) (W.setCells G (i * 2) (encL [x])) := fun W hWc hWf ty dc =>
    run_copy2 W 104 104 ty G (i * 2) _ dc ⟨vb, 0, none⟩ 1 vc 1 (encL [x]) Tryz.underlying104 (by simp only [Nat.min_def]; split <;> omega) rfl
      (fun j v hj => by
        rw [hWc, hW1, World.cell?_setCells_out _ _ _ _ _ (fun hb _ => absurd (by simpa [Addr.add_lit] using hb) hne)]
        exact cells_of_box hv j v hj)
      (fun j hj => by rw [hWc, hW1]; exact isSome_setCells G (encL (L.drop i)) ((i + 1) * 2) w.drew (fun t ht => hsome _ (by rw [hdl] at ht; omega)) (i * 2 + j) (hsome _ (by rw [encL_length] at hj; simp at hj; omega)))
      (fun j hj => by rw [hWf, hW1, World.frozen?_setCells]; exact h.frozen _) (encL_one _)
  rw [← hW1] at hcp1 HF
  generalize hn : L.length = n at *
  generalize L.take i ++ x :: L.drop i = K at *
  generalize encL [x] = cx at *
  have hz2 : ¬ ((i : Int) = (n : Int)) := by omega
  have hz3 : ((i : Int) == (n : Int)) = false := by simpa using hz2
  have hw1 : IntKind.i64.wrap ((i : Int) + 1) = (i : Int) + 1 := by rw [IntKind.wrap_i64]; omega
  have hb1 : (0 : Int) ≤ (i : Int) + 1 := by omega
  have hin : i ≤ n := by omega
  have htn : ((i : Int) + 1).toNat = i + 1 := by omega
  have hb2 : ¬ (c = i + 1) := by omega
  have hb3 : (i : Int) ≤ (n : Int) + 1 := by omega
  have hb4 : ¬ (c = i) := by omega
  have HN := Lib.hid hn
  have HW := Lib.hid hW1
  clear hn hW1 h hv hdl hsome
  go_enter Tryz.func133, Tryz.ntmps133
  go_wp2_with (simp only [hov])
  go_region_law (refine step_copy_run rfl _ _ 104 104 rfl _ _ (by simp [Act.eval, Act.put]) (by simp [Act.eval, Act.put]) (hcp1 _ _ _) ?_)
  all_goals
    go_wp2_with (refine wpList_copy_run _ rfl (.tmp 80) (.tmp 81) 104 104 rfl _ _ rfl rfl (hcp2 _ (fun _ => rfl) (fun _ => rfl) _ _) ?_)
    go_ret
    exact HF.out

theorem hx_of {L : List En} {x : En} {i : Nat} (hi : i = L.length) : L.take i ++ x :: L.drop i = L ++ [x] := by subst hi; simp
theorem insE_end {w w' : World} {lo c n g cap : Nat} {o : Option Nat} {L : List En} {x : En} (hn : n = L.length) (hown : w'.ownsRow lo 108 2 (.slice (some ⟨g, 0, none⟩) (n + 1) cap) (n + 1) (encL L ++ encL [x]))
    (hgr : w.grownBy w' (Value.slice (Ao o) n c).ownBlock) (hat : (Value.slice (Ao o) n c).ownBlock = some g ∨ g = w.heap.size) : InsE w lo o n (L ++ [x]) (.returned (.slice (some ⟨g, 0, none⟩) (n + 1) cap)) w' := by
  have hob : (Value.slice (Ao o) n c).ownBlock = o := by cases o <;> rfl
  rw [hob] at hgr hat
  rw [← encL_append] at hown
  obtain ⟨h1, h2⟩ := ERow.of_owns hown (by simp [hn])
  exact ⟨g, cap, rfl, h1, h2, hat.imp id (fun e => Nat.le_of_eq e.symm), hgr⟩
def Sl (w : World) (lo : Nat) (o : Option Nat) (c : Nat) (L : List En) : Prop := match o with | none => L = [] ∧ c = 0 | some G => lo ≤ G ∧ ERow w G c L
theorem Sl.owns {w : World} {lo c : Nat} {o : Option Nat} {L : List En} (h : Sl w lo o c L) : w.ownsRow lo 108 2 (.slice (Ao o) L.length c) L.length (encL L) := by
  cases o with
  | none => obtain ⟨rfl, rfl⟩ := h; exact World.ownsRow_nil _ _ _ _
  | some G => exact h.2.owns h.1

set_option maxRecDepth 100000 in
set_option maxHeartbeats 4000000 in
theorem ins_end (c lo vb vc : Nat) (o : Option Nat) (L : List En) (x : En) (w : World) (hN : L.length ≤ 1000000) (hlo : lo ≤ w.heap.size) (h : Sl w lo o c L) (hc : c ≤ maxLen) (hlc : L.length ≤ c) (hv : w.heap[vb]? = some (.cells #[.string x.1, .int .i64 x.2] 108 (0, 0))) :
    Calls Tryz.prog 133 #[.slice (Ao o) L.length c, .int .i64 L.length, .slice (some ⟨vb, 0, none⟩) 1 vc] w (InsE w lo o L.length (L ++ [x])) := by
  obtain ⟨i0, hi, hz0, hz1, hz2⟩ := info_parts info37
  have HO := Lib.hid h.owns
  have HX := Lib.hid (cells_of_box hv)
  have HF := Lib.hid (fun w' g cap a b d => insE_end (w := w) (w' := w') (lo := lo) (c := c) (g := g) (cap := cap) (o := o) (L := L) (x := x) rfl a b d)
  have HL := Lib.hid (show (encL [x]).length = 1 * 2 from rfl)
  have H1 := Lib.hid (encL_one [x])
  generalize hn : L.length = n at *
  generalize L ++ [x] = K at *
  generalize encL L = cl at *
  generalize encL [x] = cx at *
  have hc63 : c ≤ 9223372036854775807 := hc
  have hb4 : c = n ∨ ¬ (c = n) := by omega
  clear hn h hv hc
  go_enter Tryz.func133, Tryz.ntmps133
  rcases hb4 with rfl | hb4
  all_goals
    cases o
    all_goals
      go_wp2_with (at_builtin; refine wpList_append_lies _ (by rfl) _ _ _ (by rfl) lo 108 i0 _ 2 24 Tryz.underlying104 hi hz0 hz1 hz2 (by rfl) (by decide) _ _ cl (by rfl) HO.out ⟨vb, 0, none⟩ 1 vc cx (by rfl) HL.out HX.out H1.out (by omega) (by unfold maxLen; omega) (by omega) hlo _ rfl ?_; intro gg cap w3 hown1 hgrow hat hlt3)
      go_ret
      exact HF.out _ _ _ hown1 hgrow hat
end Go.Proofs.YtnnaoldpacbagaaGreat.dn
end
section
namespace Go.Proofs.YtnnaoldpacbagaaGreat.dn
open Go.RowKit Go.Shelf
set_option linter.unusedVariables false


abbrev Zv : Value := .agg #[.string ByteArray.empty, .int .i64 0]
theorem zeroCells_size (n : Nat) : (Builtin.zeroCells Zv.cells n).size = n * 2 := by simp [Builtin.zeroCells]; rfl

theorem grow_take {L : List En} {i c' : Nat} {x : En} {Z : List Value} (hi : i ≤ L.length) (hZ : ((encL (L.take i)) ++ Z).length = c' * 2) (hc : L.length + 1 ≤ c') :
    let X := encL (L.take i) ++ Z
    let X1 := X.take (i * 2) ++ encL [x] ++ X.drop (i * 2 + (encL [x]).length)
    (X1.take ((i + 1) * 2) ++ encL (L.drop i) ++ X1.drop ((i + 1) * 2 + (encL (L.drop i)).length)).take ((L.length + 1) * 2) = encL (L.take i ++ x :: L.drop i) := by
  intro X X1
  have hl : (encL (L.drop i)).length = (L.length - i) * 2 := by rw [encL_length, List.length_drop]
  have ht : (encL (L.take i)).length = i * 2 := by rw [encL_length, List.length_take, Nat.min_eq_left hi]
  have hx1 : X1 = encL (L.take i) ++ encL [x] ++ X.drop (i * 2 + (encL [x]).length) := by
    show X.take (i * 2) ++ _ ++ _ = _
    congr 2
    show (encL (L.take i) ++ Z).take (i * 2) = _
    rw [List.take_append_of_le_length (by omega), List.take_of_length_le (by omega)]
  have h1 : X1.take ((i + 1) * 2) = encL (L.take i) ++ encL [x] := by
    rw [hx1, List.take_append_of_le_length (by rw [List.length_append, ht, encL_length]; simp; omega), List.take_of_length_le (by rw [List.length_append, ht, encL_length]; simp; omega)]
  rw [h1, show L.take i ++ x :: L.drop i = L.take i ++ [x] ++ L.drop i by simp, encL_append, encL_append, List.take_append_of_le_length, List.take_of_length_le]
  · rw [List.length_append, List.length_append, hl, ht, encL_length]; simp; omega
  · rw [List.length_append, List.length_append, hl, ht, encL_length]; simp; omega

theorem insE_grow {w : World} {c' lo i : Nat} {o : Option Nat} {L : List En} {x : En} {Z : List Value} (hi : i ≤ L.length) (hlo : lo ≤ w.heap.size) (hZ : ((encL (L.take i)) ++ Z).length = c' * 2) (hc : L.length + 1 ≤ c') (hm : c' ≤ maxLen) :
    InsE w lo o L.length (L.take i ++ x :: L.drop i) (.returned (.slice (some ⟨w.heap.size, 0, none⟩) (L.length + 1) c'))
      ((((w.alloc (.cells (encL (L.take i) ++ Z).toArray 108)).drew.setCells w.heap.size (i * 2) (encL [x])).drew).setCells w.heap.size ((i + 1) * 2) (encL (L.drop i))) := by
  have hX : (w.alloc (.cells (encL (L.take i) ++ Z).toArray 108)).drew.heap[w.heap.size]? = some (.cells (encL (L.take i) ++ Z).toArray 108 (0, 0)) := heap_alloc_new w _
  refine ⟨w.heap.size, c', rfl, ?_, hlo, .inr (Nat.le_refl _), ?_⟩
  · rw [setCells_row hX (by rw [hZ, encL_length]; simp; omega) (encL_one _)]
    have hs := setRow_heap (w.alloc (.cells (encL (L.take i) ++ Z).toArray 108)).drew w.heap.size (encL (L.take i) ++ Z).toArray ((encL (L.take i) ++ Z).take (i * 2) ++ encL [x] ++ (encL (L.take i) ++ Z).drop (i * 2 + (encL [x]).length)).toArray 108 _ hX
    have hs2 : ((w.alloc (.cells (encL (L.take i) ++ Z).toArray 108)).drew.setRow w.heap.size ((encL (L.take i) ++ Z).take (i * 2) ++ encL [x] ++ (encL (L.take i) ++ Z).drop (i * 2 + (encL [x]).length)).toArray).drew.heap[w.heap.size]? = some (.cells ((encL (L.take i) ++ Z).take (i * 2) ++ encL [x] ++ (encL (L.take i) ++ Z).drop (i * 2 + (encL [x]).length)).toArray 108 (0, 0)) := hs
    have hl2 : ((encL (L.take i) ++ Z).take (i * 2) ++ encL [x] ++ (encL (L.take i) ++ Z).drop (i * 2 + (encL [x]).length)).length = c' * 2 := by
      rw [List.length_append, List.length_append, List.length_take, List.length_drop, hZ, encL_length]; simp; omega
    rw [setCells_row hs2 (by rw [hl2, encL_length, List.length_drop]; omega) (encL_one _)]
    refine ⟨by simp; omega, hm, _, setRow_heap _ _ _ _ 108 _ hs2, ?_, ?_⟩
    · rw [List.length_append, List.length_append, List.length_take, List.length_drop, hl2, encL_length, List.length_drop]; omega
    · have := grow_take (x := x) hi hZ hc
      have e : (L.take i ++ x :: L.drop i).length = L.length + 1 := by simp; omega
      rw [e]
      exact this
  · refine grownBy_below ⟨?_, ?_, ?_, ?_, ?_⟩ _
    all_goals
      have a := grownBy_sets w.heap.size (encL [x]) (i * 2) (w.alloc (.cells (encL (L.take i) ++ Z).toArray 108)).drew
      have b := grownBy_sets w.heap.size (encL (L.drop i)) ((i + 1) * 2) (((w.alloc (.cells (encL (L.take i) ++ Z).toArray 108)).drew.setCells w.heap.size (i * 2) (encL [x])).drew)
      have d := grownBy_trans (grownBy_trans a (grownBy_drew _ _)) b
      have hb := below_alloc w (.cells (encL (L.take i) ++ Z).toArray 108)
    · exact d.os.trans hb.os
    · exact d.tape.trans hb.tape
    · exact d.output.trans hb.output
    · exact Nat.le_trans hb.size d.size
    · intro k hk
      exact (d.block k (Nat.lt_of_lt_of_le hk hb.size) (fun e => by injection e with e; omega)).trans (hb.block k hk)

set_option maxHeartbeats 4000000 in
set_option maxRecDepth 100000 in
theorem ins_grow (G c lo i vb vc : Nat) (L : List En) (x : En) (w : World) (hi : i < L.length) (hroom : L.length = c) (hN : L.length ≤ 1000000) (hlo : lo ≤ w.heap.size) (h : ERow w G c L) (hv : w.heap[vb]? = some (.cells #[.string x.1, .int .i64 x.2] 108 (0, 0))) (hne : vb ≠ G) :
    Calls Tryz.prog 133 #[.slice (some ⟨G, 0, none⟩) L.length c, .int .i64 i, .slice (some ⟨vb, 0, none⟩) 1 vc] w (InsE w lo (some G) L.length (L.take i ++ x :: L.drop i)) := by
  obtain ⟨i0, hi0, hz0, hz1, hz2⟩ := info_parts info37
  have hGw := h.lt
  have hvw : vb < w.heap.size := (Array.getElem?_eq_some_iff.1 hv).1
  have htl : (encL (L.take i)).length = i * 2 := by rw [encL_length, List.length_take, Nat.min_eq_left (Nat.le_of_lt hi)]
  have hdl : (encL (L.drop i)).length = (L.length - i) * 2 := by rw [encL_length, List.length_drop]
  have hkk : (L.length : Int) + 1 - (i : Int) = ((L.length + 1 - i : Nat) : Int) := by omega
  have hold : (Builtin.firstCells i0.size i (.slice (some ⟨G, 0, none⟩) i c)).run Tryz.prog w.drew = .ok (encL (L.take i)).toArray w.drew := by
    rw [hz1]
    exact run_firstCells_some w.drew 2 i ⟨G, 0, none⟩ i c (encL (L.take i)) htl (fun j v hj => by
      rw [Addr.add_lit, Nat.zero_add]
      rw [← encL_take] at hj
      rw [List.getElem?_take] at hj
      split at hj
      · exact h.cells hj
      · cases hj)
  have hGcap : grownCap w (L.length + 1) c 108 = grownCap w (L.length + 1) c 108 := rfl
  have hrz : ∀ ty, (Builtin.append_ #[104, 3] ty #[.slice (some ⟨G, 0, none⟩) i c, .int .i64 ((L.length : Int) + 1 - (i : Int))]).run Tryz.prog w =
      .ok (.slice (some ⟨w.heap.size, 0, none⟩) (L.length + 1) (grownCap w (L.length + 1) c 108)) (w.drew.alloc (.cells ((encL (L.take i)).toArray ++ Builtin.zeroCells Zv.cells (L.length + 1 - i) ++ Builtin.zeroCells Zv.cells (grownCap w (L.length + 1) c 108 - (L.length + 1))) 108)) := fun ty => by
    have hik : i + (L.length + 1 - i) = L.length + 1 := by omega
    have h := Lib.run_append_grow_zeros w 104 3 ty 108 i0 _ .i64 .i64 Tryz.underlying104 Tryz.underlying3 hi0 hz0 (some ⟨G, 0, none⟩) i c (encL (L.take i)) hold (L.length + 1 - i) (by omega) (by omega) (by omega) (by omega) (by rw [hz2]; omega) (by rw [hz2, hik]; exact growslice_fits (by omega) (by omega))
    rw [hik] at h
    rw [hkk]
    exact h
  have hGn : L.length + 1 ≤ grownCap w (L.length + 1) c 108 := grownCap_ge w _ _ _
  have hG63 := grownCap_le_maxLen w (L.length + 1) c 108 (by unfold maxLen; omega)
  generalize grownCap w (L.length + 1) c 108 = C at *
  obtain ⟨Z, hZ⟩ : ∃ Z : List Value, Z = (Builtin.zeroCells Zv.cells (L.length + 1 - i) ++ Builtin.zeroCells Zv.cells (C - (L.length + 1))).toList := ⟨_, rfl⟩
  have hrow : (encL (L.take i)).toArray ++ Builtin.zeroCells Zv.cells (L.length + 1 - i) ++ Builtin.zeroCells Zv.cells (C - (L.length + 1)) = (encL (L.take i) ++ Z).toArray := by
    rw [hZ]; simp
  have hZl : (encL (L.take i) ++ Z).length = C * 2 := by
    rw [hZ, List.length_append, htl]
    simp only [Array.length_toList, Array.size_append, zeroCells_size]
    omega
  rw [hrow] at hrz
  have HF := Lib.hid (insE_grow (w := w) (o := some G) (x := x) (Nat.le_of_lt hi) hlo hZl hGn hG63)
  clear hrow hZ hold
  generalize hR : (encL (L.take i) ++ Z).toArray = ROW at *
  have hRs : ROW.size = C * 2 := by rw [← hR]; simpa using hZl
  obtain ⟨W1, hW1⟩ : ∃ W1, W1 = w.drew.alloc (.cells ROW 108) := ⟨_, rfl⟩
  rw [← hW1] at hrz
  have hN1 : ∀ j, j < C * 2 → (W1.cell? ⟨w.heap.size, j, none⟩).isSome = true := fun j hj => by
    rw [hW1, World.cell?_alloc_at (w := w.drew) ROW _ w.heap.size j rfl, Array.getElem?_eq_getElem (by omega)]; rfl
  have hNf : ∀ j, W1.frozen? ⟨w.heap.size, j, none⟩ = false := fun j => by rw [hW1]; exact World.frozen?_alloc_at (w := w.drew) ROW _ w.heap.size j rfl
  have hOb : ∀ j v, w.cell? ⟨G, j, none⟩ = some v → W1.cell? ⟨G, j, none⟩ = some v := fun j v h => by rw [hW1, World.cell?_alloc_past (w := w.drew) _ G j hGw]; exact h
  have hOv : ∀ j v, w.cell? ⟨vb, j, none⟩ = some v → W1.cell? ⟨vb, j, none⟩ = some v := fun j v h => by rw [hW1, World.cell?_alloc_past (w := w.drew) _ vb j hvw]; exact h
  have hcpA : ∀ (W : World), (∀ x, W.cell? x = W1.cell? x) → (∀ x, W.frozen? x = W1.frozen? x) → ∀ ty dc, (Builtin.copy_ #[104, 104] ty #[.slice (some ⟨w.heap.size, i * 2, none⟩) (L.length + 1 - i) dc, .slice (some ⟨vb, 0, none⟩) 1 vc]).run Tryz.prog W = .ok (goInt ((1 : Nat) : Int)) (W.setCells w.heap.size (i * 2) (encL [x])) := fun W hWc hWf ty dc =>
    run_copy2 W 104 104 ty w.heap.size (i * 2) _ dc ⟨vb, 0, none⟩ 1 vc 1 (encL [x]) Tryz.underlying104 (by simp only [Nat.min_def]; split <;> omega) rfl
      (fun j v hj => by
        have := cells_of_box hv j v hj
        rw [Addr.add_lit] at this ⊢
        rw [hWc]; exact hOv _ v this)
      (fun j hj => by rw [hWc]; exact hN1 _ (by rw [encL_length] at hj; simp at hj; omega)) (fun j hj => by rw [hWf]; exact hNf _) (encL_one _)
  have hGN : G ≠ w.heap.size := by omega
  have hcpB : ∀ (W : World), (∀ y, W.cell? y = (W1.setCells w.heap.size (i * 2) (encL [x])).cell? y) → (∀ y, W.frozen? y = (W1.setCells w.heap.size (i * 2) (encL [x])).frozen? y) → ∀ ty dc sc, (Builtin.copy_ #[104, 104] ty #[.slice (some ⟨w.heap.size, (i + 1) * 2, none⟩) (L.length - i) dc, .slice (some ⟨G, i * 2, none⟩) (L.length - i) sc]).run Tryz.prog W = .ok (goInt ((L.length - i : Nat) : Int)) (W.setCells w.heap.size ((i + 1) * 2) (encL (L.drop i))) := fun W hWc hWf ty dc sc =>
    run_copy2 W 104 104 ty w.heap.size ((i + 1) * 2) _ dc ⟨G, i * 2, none⟩ _ sc (L.length - i) (encL (L.drop i)) Tryz.underlying104 (by simp) hdl
      (fun j v hj => by
        rw [Addr.add_lit, hWc, World.cell?_setCells_out _ _ _ _ _ (fun hb _ => absurd hb hGN)]
        exact hOb _ v (h.cells (by rw [← encL_drop, List.getElem?_drop] at hj; exact hj)))
      (fun j hj => by rw [hWc]; exact isSome_setCells w.heap.size (encL [x]) (i * 2) W1 (fun t ht => hN1 _ (by rw [encL_length] at ht; simp at ht; omega)) ((i + 1) * 2 + j) (hN1 _ (by rw [hdl] at hj; omega)))
      (fun j hj => by rw [hWf, World.frozen?_setCells]; exact hNf _) (encL_one _)
  subst hW1
  have hE1 : ∀ y, ((w.alloc (.cells ROW 108)).drew).cell? y = (w.drew.alloc (.cells ROW 108)).cell? y := fun y => rfl
  have hE2 : ∀ y, ((w.alloc (.cells ROW 108)).drew).frozen? y = (w.drew.alloc (.cells ROW 108)).frozen? y := fun y => rfl
  have hF1 : ∀ y, (((w.alloc (.cells ROW 108)).drew.setCells w.heap.size (i * 2) (encL [x])).drew).cell? y = ((w.drew.alloc (.cells ROW 108)).setCells w.heap.size (i * 2) (encL [x])).cell? y := fun y => rfl
  have hF2 : ∀ y, (((w.alloc (.cells ROW 108)).drew.setCells w.heap.size (i * 2) (encL [x])).drew).frozen? y = ((w.drew.alloc (.cells ROW 108)).setCells w.heap.size (i * 2) (encL [x])).frozen? y := fun y => rfl
  generalize hn : L.length = n at *
  generalize L.take i ++ x :: L.drop i = K at *
  generalize encL [x] = cx at *
  generalize encL (L.drop i) = cd at *
  have hz2' : ¬ ((i : Int) = (n : Int)) := by omega
  have hz3 : ((i : Int) == (n : Int)) = false := by simpa using hz2'
  have hz4 : (c : Int) < (n : Int) + 1 := by omega
  have hw1 : IntKind.i64.wrap ((i : Int) + 1) = (i : Int) + 1 := by rw [IntKind.wrap_i64]; omega
  have hb1 : (0 : Int) ≤ (i : Int) + 1 := by omega
  have hin : i ≤ n := by omega
  have htn : ((i : Int) + 1).toNat = i + 1 := by omega
  have hb3 : (i : Int) ≤ (n : Int) := by omega
  have hG63' : C ≤ 9223372036854775807 := hG63
  have hGi : ¬ (C = i) := by omega
  have hGim : ¬ (C = i + 1) := by omega
  have hci : ¬ (c = i) := by omega
  have hic : i ≤ c := by omega
  have HN := Lib.hid hn
  have HC := Lib.hid hroom
  clear hn hroom h hv hdl htl hkk hGcap hZl hRs hR hN1 hNf hOb hOv hz0 hG63
  go_enter Tryz.func133, Tryz.ntmps133
  go_wp2_with (first
    | (at_builtin; refine Lib.wpList_append_run _ rfl _ _ _ _ rfl _ _ rfl rfl _ _ (hrz _) ?_)
    | (refine wpList_copy_run _ rfl (.tmp 43) (.tmp 44) 104 104 rfl _ _ rfl rfl (hcpA _ hE1 hE2 _ _) ?_))
  go_region_law (refine step_copy_run rfl _ _ 104 104 rfl (.slice (some ⟨w.heap.size, (i + 1) * 2, none⟩) (n - i) (C - (i + 1))) (.slice (some ⟨G, i * 2, none⟩) (n - i) (c - i)) (by simp [Act.eval, Act.put]) (by simp [Act.eval, Act.put]) (hcpB _ hF1 hF2 3 (C - (i + 1)) (c - i)) ?_)
  all_goals
    go_wp2_with fail
    go_ret
    exact HF.out

/-- 'slices.Insert' of one item at a place of a row of the call's own. -/
theorem ins_any (c lo i vb vc : Nat) (o : Option Nat) (L : List En) (x : En) (w : World) (hi : i ≤ L.length) (hN : L.length ≤ 1000000) (hlo : lo ≤ w.heap.size) (h : Sl w lo o c L) (hv : w.heap[vb]? = some (.cells #[.string x.1, .int .i64 x.2] 108 (0, 0))) (hne : o ≠ some vb) :
    Calls Tryz.prog 133 #[.slice (Ao o) L.length c, .int .i64 i, .slice (some ⟨vb, 0, none⟩) 1 vc] w (InsE w lo o L.length (L.take i ++ x :: L.drop i)) := by
  have hc : L.length ≤ c ∧ c ≤ maxLen := by
    cases o with
    | none => obtain ⟨rfl, rfl⟩ := h; exact ⟨Nat.le_refl _, by unfold maxLen; omega⟩
    | some G => exact ⟨h.2.1, h.2.2.1⟩
  by_cases he : i = L.length
  · rw [hx_of he]
    subst he
    exact ins_end c lo vb vc o L x w hN hlo h hc.2 hc.1 hv
  · cases o with
    | none => obtain ⟨rfl, rfl⟩ := h; simp at hi he; omega
    | some G =>
      have hG : vb ≠ G := fun e => hne (by rw [e])
      by_cases hr : L.length + 1 ≤ c
      · exact ins_room G c lo i vb vc L x w (by omega) hr hN h.1 h.2 hv hG
      · exact ins_grow G c lo i vb vc L x w (by omega) (by omega) hN hlo h.2 hv hG
end Go.Proofs.YtnnaoldpacbagaaGreat.dn
end
section
namespace Go.Proofs.YtnnaoldpacbagaaGreat.dn
open Go.RowKit Go.Shelf
set_option linter.unusedVariables false


/-- What may have turned: the directory's own box, its row. -/
structure Fr (w w' : World) (Q : Nat) (o : Option Nat) : Prop where
  os : w'.os = w.os
  tape : w'.tape = w.tape
  output : w'.output = w.output
  size : w.heap.size ≤ w'.heap.size
  block : ∀ k, k < w.heap.size → k ≠ Q → o ≠ some k → w'.heap[k]? = w.heap[k]?
theorem Fr.refl (w : World) (Q : Nat) (o : Option Nat) : Fr w w Q o := ⟨rfl, rfl, rfl, Nat.le_refl _, fun _ _ _ _ => rfl⟩
theorem Fr.grown {w w' : World} {Q : Nat} {o : Option Nat} (h : w.grownBy w' o) : Fr w w' Q o := ⟨h.os, h.tape, h.output, h.size, fun k hk _ ho => h.block k hk (fun e => ho e.symm)⟩
theorem Fr.setQ (w : World) (Q : Nat) (o : Option Nat) (v : Value) : Fr w (w.setCell ⟨Q, 0, none⟩ v) Q o :=
  ⟨rfl, rfl, rfl, by simp [World.setCell], fun k _ hQ _ => by rw [Below.heap_setCell _ _ _ _ (fun e => hQ e)]⟩
theorem Fr.trans {w w1 w2 : World} {Q : Nat} {o o1 : Option Nat} (h : Fr w w1 Q o) (h' : Fr w1 w2 Q o1) (ho : ∀ k, o1 = some k → o = some k ∨ w.heap.size ≤ k) : Fr w w2 Q o :=
  ⟨h'.os.trans h.os, h'.tape.trans h.tape, h'.output.trans h.output, Nat.le_trans h.size h'.size, fun k hk hQ hk2 =>
    (h'.block k (Nat.lt_of_lt_of_le hk h.size) hQ (fun e => by rcases ho k e with e | e; exact hk2 e; omega)).trans (h.block k hk hQ hk2)⟩
theorem Fr.below {w w' : World} {Q : Nat} {o : Option Nat} (h : Below w.heap.size w w') : Fr w w' Q o := ⟨h.os, h.tape, h.output, h.size, fun k hk _ _ => h.block k hk⟩
/-- Behind a call that may have turned the directory. -/
def StepE (w : World) (D lo : Nat) (o : Option Nat) (v : Value) (L : List En) (e : Ending) (w' : World) : Prop :=
  e = .returned v ∧ ∃ o' c', Du w' D lo o' c' L ∧ (∀ G, o' = some G → o = some G ∨ w.heap.size ≤ G) ∧ Fr w w' D o
theorem stepE_same {w w' : World} {D lo c : Nat} {o : Option Nat} {v : Value} {L : List En} (h : Du w D lo o c L) (hb : Below w.heap.size w w') : StepE w D lo o v L (.returned v) w' :=
  ⟨rfl, o, c, h.below hb, fun G e => .inl e, Fr.below hb⟩

set_option maxRecDepth 100000 in
set_option maxHeartbeats 1000000 in
theorem new_any (w : World) (lo : Nat) (hlo : lo ≤ w.heap.size) : Calls Tryz.prog 127 #[] w (fun e w' => e = .returned (Pq w.heap.size) ∧ Du w' w.heap.size lo none 0 [] ∧ Below w.heap.size w w') := by
  have HQ := Lib.hid (show Du (w.alloc (.cells #[.slice none 0 0] 209)) w.heap.size lo none 0 [] from ⟨by simp, by simp, ⟨rfl, rfl⟩⟩)
  go_enter Tryz.func127, Tryz.ntmps127
  go_wp2_with fail
  go_ret
  exact ⟨rfl, HQ.out, below_alloc _ _⟩

def dotB (s : ByteArray) : Bool := s.toList == [46] || s.toList == [46, 46]
def serr (s : ByteArray) (v : Int) : Int := if nerr s.data.toList ≠ 0 then nerr s.data.toList else if dotB s = true ∨ v < 1 then 22 else 0
def lsetE (s : ByteArray) (v : Int) (L : List En) : List En := if serr s v = 0 then lset s v L else L

theorem ERow.setNum {w : World} {G c : Nat} {L : List En} {i : Nat} {x : En} (h : ERow w G c L) (hx : L[i]? = some x) (v : Int) : ERow (w.setCell ⟨G, i * 2 + 1, none⟩ (.int .i64 v)) G c (L.set i (x.1, v)) := by
  have hi : i < L.length := (List.getElem?_eq_some_iff.1 hx).1
  have h1 := h.1
  refine ERow.sets (vs := [.int .i64 v]) (o := i * 2 + 1) h (by simp; omega) (by intro v hv; simp at hv; subst hv; rfl) (by simpa using h1) fun X hl ht => ?_
  rw [List.length_set]
  have hxs : L[i] = x := by rw [List.getElem?_eq_getElem hi] at hx; simpa using hx
  rw [List.set_eq_take_append_cons_drop, if_pos hi, show L.take i ++ (x.1, v) :: L.drop (i + 1) = L.take i ++ [(x.1, v)] ++ L.drop (i + 1) by simp, encL_append, encL_append, ← encL_take, ← encL_drop, ← ht]
  have hXi : X[i * 2]? = some (.string x.1) := by
    have := (encL_at hx).1
    rw [← ht, List.getElem?_take_of_lt (by omega)] at this
    exact this
  have hX2 : i * 2 < X.length := by omega
  rw [List.take_take, Nat.min_eq_left (by omega)]
  apply List.ext_getElem?
  intro j
  simp only [List.getElem?_take, List.getElem?_append, List.length_take, List.length_append, List.getElem?_drop, List.length_cons, List.length_nil, encL_single, hl]
  by_cases h1 : j < i * 2
  · rw [if_pos (show j < L.length * 2 by omega), if_pos (by omega), if_pos (by omega), if_pos (by omega), if_pos (by omega), if_pos (by omega), if_pos (by omega)]
  · by_cases h2 : j = i * 2
    · subst h2
      rw [if_pos (show i * 2 < L.length * 2 by omega), if_pos (by omega), if_pos (by omega), if_pos (by omega), if_pos (by omega), if_neg (by omega), hXi]
      rw [show i * 2 - min (i * 2) (c * 2) = 0 by omega]; rfl
    · by_cases h3 : j = i * 2 + 1
      · subst h3
        rw [if_pos (show i * 2 + 1 < L.length * 2 by omega), if_pos (by omega), if_neg (by omega), if_pos (by omega), if_neg (by omega)]
        rw [show i * 2 + 1 - min (i * 2 + 1) (c * 2) = 0 by omega, show i * 2 + 1 - min (i * 2) (c * 2) = 1 by omega]; rfl
      · by_cases h4 : j < L.length * 2
        · rw [if_pos h4, if_neg (by omega), if_neg (by omega)]
          rw [if_pos (by omega)]
          congr 1
          omega
        · rw [if_neg h4, if_neg (by omega)]
          rw [if_neg (by omega)]
end Go.Proofs.YtnnaoldpacbagaaGreat.dn
end
section
namespace Go.Proofs.YtnnaoldpacbagaaGreat.dn
open Go.RowKit Go.Shelf
set_option linter.unusedVariables false


set_option maxRecDepth 100000 in
set_option maxHeartbeats 1000000 in
theorem set_name (D lo c : Nat) (o : Option Nat) (L : List En) (s : ByteArray) (v : Int) (w : World) (hm : s.size ≤ 9223372036854775807) (h : Du w D lo o c L) (he : nerr s.data.toList ≠ 0) :
    Calls Tryz.prog 81 #[Pq D, .string s, .int .i64 v] w (StepE w D lo o (.int .i64 (nerr s.data.toList)) L) := by
  have HN := Lib.hid (name_any s w hm)
  unfold NameE at HN
  have HF := Lib.hid (fun w' hb => stepE_same (v := .int .i64 (nerr s.data.toList)) (w' := w') h hb)
  generalize nerr s.data.toList = r at *
  have hr : (r != 0) = true := by simpa using he
  have hr2 : (r == 0) = false := by simpa using he
  clear h he
  go_enter Tryz.func81, Tryz.ntmps81
  go_wp2_with fail
  refine HN.out.mono ?_
  rintro e w2 ⟨rfl, hb2⟩
  go_wp2_with fail
  go_ret
  exact HF.out _ hb2

theorem Du.frozen {w : World} {D lo c G : Nat} {o : Option Nat} {L : List En} (h : Du w D lo o c L) (ho : o = some G) (k : Nat) : w.frozen? ⟨G, k, none⟩ = false := by subst ho; exact h.row.2.2.frozen k
set_option maxRecDepth 100000 in
set_option maxHeartbeats 1000000 in
theorem set_dot (D lo c : Nat) (o : Option Nat) (L : List En) (s : ByteArray) (v : Int) (w : World) (hm : s.size ≤ 9223372036854775807) (h : Du w D lo o c L) (he : nerr s.data.toList = 0) (hd : dotB s = true ∨ v < 1) :
    Calls Tryz.prog 81 #[Pq D, .string s, .int .i64 v] w (StepE w D lo o (.int .i64 22) L) := by
  have HN := Lib.hid (name_any s w hm)
  unfold NameE at HN
  rw [he] at HN
  have HF := Lib.hid (fun w' hb => stepE_same (v := .int .i64 22) (w' := w') h hb)
  unfold dotB at hd
  have hq1 : ∃ a, (s.toList == [46]) = a := ⟨_, rfl⟩
  have hq2 : ∃ a, (s.toList == [46, 46]) = a := ⟨_, rfl⟩
  obtain ⟨q1, h1⟩ := hq1
  obtain ⟨q2, h2⟩ := hq2
  rw [h1, h2] at hd
  clear h he
  have hd' : q1 = true ∨ (q1 = false ∧ q2 = true) ∨ (q1 = false ∧ q2 = false ∧ v < 1) := by
    cases q1 <;> cases q2 <;> simp at hd ⊢ <;> exact hd
  clear hd
  rcases hd' with rfl | ⟨rfl, rfl⟩ | ⟨rfl, rfl, hv⟩
  all_goals
    go_enter Tryz.func81, Tryz.ntmps81
    go_wp2_with fail
    refine HN.out.mono ?_
    rintro e w2 ⟨rfl, hb2⟩
    go_wp2_with fail
    go_ret
    exact HF.out _ hb2

theorem Du.old {w w2 : World} {D lo c : Nat} {o : Option Nat} {L : List En} {s : ByteArray} {x : En} {v : Int} {G : Nat} (h : Du w2 D lo (some G) c L) (hx : L[pos s L]? = some x) (hs : x.1 = s) (hb : Below w.heap.size w w2) (hD : D < w.heap.size) (ho : o = some G) :
    StepE w D lo o (.int .i64 0) (lset s v L) (.returned (.int .i64 0)) (w2.setCell ⟨G, pos s L * 2 + 1, none⟩ (.int .i64 v)) := by
  subst ho
  rw [lset_old hx hs]
  have hr := h.row.2.2.setNum hx v
  rw [hs] at hr
  refine ⟨rfl, some G, c, ⟨?_, by simpa using h.f0, h.row.1, h.row.2.1, hr⟩, fun G e => .inl e, ?_⟩
  · rw [World.cell?_setCell_other _ _ _ _ (fun e => h.row.2.1 (by have := congrArg Addr.block e; simpa using this.symm)), List.length_set]; exact h.d0
  · exact (Fr.below hb).trans (Fr.grown (grownBy_set w2 G _ _)) (fun k e => .inl e)

set_option maxRecDepth 100000 in
set_option maxHeartbeats 2000000 in
theorem set_old (D lo c : Nat) (o : Option Nat) (L : List En) (s : ByteArray) (v : Int) (w : World) (hm : s.size ≤ 9223372036854775807) (h : Du w D lo o c L) (hs : Sorted L) (hN : L.length ≤ 1000000) (he : nerr s.data.toList = 0) (hd : dotB s = false) (hv : ¬ v < 1) (ht : thereB s L = true) :
    Calls Tryz.prog 81 #[Pq D, .string s, .int .i64 v] w (StepE w D lo o (.int .i64 0) (lset s v L)) := by
  have HNA := Lib.hid (name_any s w hm)
  unfold NameE at HNA
  rw [he] at HNA
  have HP := Lib.hid (fun W (hb : Below w.heap.size w W) => place_any D lo c o L s W hs hN (h.below hb))
  unfold PlaceE at HP
  rw [ht] at HP
  obtain ⟨x, hx, hxs, hl⟩ := there_yes hs ht
  have hk := (List.getElem?_eq_some_iff.1 hx).1
  have HX := Lib.hid (fun W (hb : Below w.heap.size w W) => (h.below hb).at_ hx)
  have HD := Lib.hid (fun W (hb : Below w.heap.size w W) => (h.below hb))
  have HF := Lib.hid (fun W G (hb : Below w.heap.size w W) (ho : o = some G) => Du.old (w := w) (v := v) (o := o) (by rw [← ho]; exact h.below hb) hx hxs hb h.lt ho)
  have hq : (s.toList == [46]) = false ∧ (s.toList == [46, 46]) = false := by simpa [dotB] using hd
  obtain ⟨h1, h2⟩ := hq
  have HFZ := Lib.hid (fun W (hb : Below w.heap.size w W) G (ho : o = some G) k => (h.below hb).frozen ho k)
  have HD0 := Lib.hid (fun W (hb : Below w.heap.size w W) => (h.below hb).d0)
  generalize pos s L = k at *
  generalize lset s v L = K at *
  generalize L.length = n at *
  clear h hs he hd ht hx hxs hl
  go_enter Tryz.func81, Tryz.ntmps81
  go_wp2_with fail
  refine HNA.out.mono ?_
  rintro e w2 ⟨rfl, hb2⟩
  have HP2 := Lib.hid (HP.out _ hb2)
  have HB2 := Lib.hid hb2
  clear hb2 HP HNA
  go_wp2_with fail
  refine HP2.out.mono ?_
  rintro e w3 ⟨rfl, hb3⟩
  have hb4 := below_step HB2.out hb3
  obtain ⟨G, ho, f0, f1⟩ := HX.out w3 hb4
  have d0 := HD0.out w3 hb4
  have z0 := HFZ.out w3 hb4 G ho (k * 2 + 1)
  have HR := Lib.hid (HF.out w3 G hb4 ho)
  rw [ho] at d0
  clear HP2 hb3 hb4 HX HD HFZ HD0 HF f0
  go_wp2_with fail
  go_ret
  exact HR.out
end Go.Proofs.YtnnaoldpacbagaaGreat.dn
end
section
namespace Go.Proofs.YtnnaoldpacbagaaGreat.dn
open Go.RowKit Go.Shelf
set_option linter.unusedVariables false


theorem Du.sl {w : World} {D lo c : Nat} {o : Option Nat} {L : List En} (h : Du w D lo o c L) : Sl w lo o c L := by
  cases o with
  | none => exact h.row
  | some G => exact ⟨h.row.1, h.row.2.2⟩
theorem lset_len {s : ByteArray} {v : Int} {L : List En} (h : ∀ x, L[pos s L]? = some x → x.1 ≠ s) : (lset s v L).length = L.length + 1 := by
  rw [lset_new h]; simp; have := pos_le s L; omega
/-- Behind the insertion, and the store of the new slice. -/
theorem Du.stored {w W w4 : World} {D lo c : Nat} {o : Option Nat} {L K : List En} {n : Nat} {e : Ending} {vv : Value} (h : Du w D lo o c L) (hb : Below w.heap.size w W) (hK : K.length = n + 1) (hi : InsE W lo o n K e w4) :
    w4.cell? ⟨D, 0, none⟩ = some (.slice (Ao o) L.length c) ∧ w4.frozen? ⟨D, 0, none⟩ = false ∧ ∃ G c', e = .returned (.slice (some ⟨G, 0, none⟩) (n + 1) c') ∧
      StepE w D lo o vv K (.returned vv) (w4.setCell ⟨D, 0, none⟩ (.slice (some ⟨G, 0, none⟩) (n + 1) c')) := by
  obtain ⟨G, c', he, hr, hlo, hat, hg⟩ := hi
  have hD := h.lt
  have hDW : D < W.heap.size := Nat.lt_of_lt_of_le hD hb.size
  have hne : some D ≠ o := fun e => (h.glt D e.symm).2.2 rfl
  have hblk : w4.heap[D]? = w.heap[D]? := (hg.block D hDW hne).trans (hb.block D hD)
  have c0 := (World.cell?_of_block (a := ⟨D, 0, none⟩) hblk).trans h.d0
  have c1 := (World.frozen?_of_block (a := ⟨D, 0, none⟩) hblk).trans h.f0
  have hDG : D ≠ G := by
    rcases hat with e | e
    · exact (h.glt G e).2.2
    · omega
  refine ⟨c0, c1, G, c', he, rfl, some G, c', ⟨?_, by simpa using c1, hlo, hDG, hr.of_block (Below.heap_setCell _ _ _ _ (fun e => hDG (by simpa using e.symm)))⟩, fun G' e => ?_, ?_⟩
  · rw [World.cell?_setCell_same _ _ _ c0, hK]; rfl
  · injection e with e; subst e; exact hat.imp id (fun e => Nat.le_trans hb.size e)
  · exact ((Fr.below hb).trans (Fr.grown (Q := D) hg) (fun k e => .inl e)).trans (Fr.setQ w4 D o _) (fun k e => .inl e)

set_option maxRecDepth 100000 in
set_option maxHeartbeats 2000000 in
theorem set_new (D lo c : Nat) (o : Option Nat) (L : List En) (s : ByteArray) (v : Int) (w : World) (hm : s.size ≤ 9223372036854775807) (h : Du w D lo o c L) (hlo : lo ≤ w.heap.size) (hs : Sorted L) (hN : L.length ≤ 900000) (he : nerr s.data.toList = 0) (hd : dotB s = false) (hv : ¬ v < 1) (ht : thereB s L = false) :
    Calls Tryz.prog 81 #[Pq D, .string s, .int .i64 v] w (StepE w D lo o (.int .i64 0) (lset s v L)) := by
  have HNA := Lib.hid (name_any s w hm)
  unfold NameE at HNA
  rw [he] at HNA
  have HP := Lib.hid (fun W (hb : Below w.heap.size w W) => place_any D lo c o L s W hs (by omega) (h.below hb))
  unfold PlaceE at HP
  rw [ht] at HP
  obtain ⟨hl, hno⟩ := there_no hs ht
  have HD0 := Lib.hid (fun W (hb : Below w.heap.size w W) => (h.below hb).d0)
  have HI := Lib.hid (fun W (hb : Below w.heap.size w W) => ins_any c lo (pos s L) W.heap.size 1 o L (s, v) (W.alloc (.cells #[.string s, .int .i64 v] 108)) (pos_le s L) (by omega) (by simp; have := hb.size; omega)
    ((h.below (below_step hb (below_alloc W _))).sl) (heap_alloc_new W _) (fun e => by have := (h.glt _ e).1; have := hb.size; omega))
  rw [← lset_new hno] at HI
  have HST := Lib.hid (fun W w4 e (hb : Below w.heap.size w W) hi => Du.stored (W := W) (w4 := w4) (e := e) (n := L.length) (vv := .int .i64 0) h hb (lset_len (v := v) hno) hi)
  have hq : (s.toList == [46]) = false ∧ (s.toList == [46, 46]) = false := by simpa [dotB] using hd
  obtain ⟨h1, h2⟩ := hq
  generalize pos s L = k at *
  generalize lset s v L = K at *
  generalize L.length = n at *
  clear h hs he hd ht hl hno
  go_enter Tryz.func81, Tryz.ntmps81
  go_wp2_with fail
  refine HNA.out.mono ?_
  rintro e w2 ⟨rfl, hb2⟩
  have HP2 := Lib.hid (HP.out _ hb2)
  have HB2 := Lib.hid hb2
  clear hb2 HP HNA
  go_wp2_with fail
  refine HP2.out.mono ?_
  rintro e w3 ⟨rfl, hb3⟩
  have hb4 := below_step HB2.out hb3
  have d0 := HD0.out w3 hb4
  have HI3 := Lib.hid (HI.out w3 hb4)
  have HST3 := Lib.hid (fun w4 e hi => HST.out (w3.alloc (.cells #[.string s, .int .i64 v] 108)) w4 e (below_step hb4 (below_alloc w3 _)) hi)
  clear HP2 hb3 hb4 HD0 HI HST
  go_wp2_with fail
  refine HI3.out.mono ?_
  intro e w4 hi
  obtain ⟨c0, c1, G, c', rfl, hst⟩ := HST3.out w4 e hi
  have HR := Lib.hid hst
  clear hi hst HI3 HST3 d0
  go_wp2_with fail
  go_ret
  exact HR.out

/-- 'Set', whatever the name and the number. -/
theorem set_any (D lo c : Nat) (o : Option Nat) (L : List En) (s : ByteArray) (v : Int) (w : World) (hm : s.size ≤ 9223372036854775807) (h : Du w D lo o c L) (hlo : lo ≤ w.heap.size) (hs : Sorted L) (hN : L.length ≤ 900000) :
    Calls Tryz.prog 81 #[Pq D, .string s, .int .i64 v] w (StepE w D lo o (.int .i64 (serr s v)) (lsetE s v L)) := by
  unfold lsetE serr
  by_cases he : nerr s.data.toList = 0
  · rw [if_neg (by simpa using he)]
    by_cases hd : dotB s = true ∨ v < 1
    · rw [if_pos hd, if_neg (by decide)]
      exact set_dot D lo c o L s v w hm h he hd
    · rw [if_neg hd, if_pos rfl]
      have hd1 : dotB s = false := by simpa using fun e => hd (.inl e)
      have hv : ¬ v < 1 := fun e => hd (.inr e)
      cases ht : thereB s L
      · exact set_new D lo c o L s v w hm h hlo hs hN he hd1 hv ht
      · exact set_old D lo c o L s v w hm h hs (by omega) he hd1 hv ht
  · rw [if_pos (by simpa using he), if_neg he]
    exact set_name D lo c o L s v w hm h he
end Go.Proofs.YtnnaoldpacbagaaGreat.dn
end
section
namespace Go.Proofs.YtnnaoldpacbagaaGreat.dn
open Go.RowKit Go.Shelf
set_option linter.unusedVariables false


theorem ERow.spoil {w : World} {G c o : Nat} {K : List En} {vs : List Value} (h : ERow w G c K) (ho : K.length * 2 ≤ o) (hfit : o + vs.length ≤ c * 2) (h1 : ∀ v ∈ vs, v.oneCell' = true) : ERow (w.setCells G o vs) G c K :=
  h.sets hfit h1 h.1 fun X hl ht => by
    rw [List.append_assoc, List.take_append_of_le_length (by rw [List.length_take]; omega), List.take_take, Nat.min_eq_left ho, ht]
set_option maxRecDepth 100000 in
theorem run_clear2 (w : World) (G o n : Nat) (hn : 0 < n) (hc : ∀ j, j < n * 2 → (w.cell? ⟨G, o + j, none⟩).isSome = true) (hf : ∀ j, w.frozen? ⟨G, j, none⟩ = false) :
    ∃ vs, vs.length = n * 2 ∧ (∀ v ∈ vs, v.oneCell' = true) ∧ ∀ ty c, (Builtin.clear_ #[104] ty #[.slice (some ⟨G, o, none⟩) n c]).run Tryz.prog w = .ok (.tuple #[]) (w.setCells G o vs) := by
  have hz : (Ev (⟨#[]⟩, 0)).cells = #[.string ⟨#[]⟩, .int .i64 0] := rfl
  have hmem : ∀ v ∈ (Builtin.zeroCells (Ev (⟨#[]⟩, 0)).cells n).toList, v.oneCell' = true := by
    intro v hv
    rw [hz] at hv
    simp only [Builtin.zeroCells, Array.toList_map, List.mem_map] at hv
    obtain ⟨i, _, rfl⟩ := hv
    have : i % 2 = 0 ∨ i % 2 = 1 := by omega
    rcases this with e | e <;> simp [e] <;> rfl
  have hlen : (Builtin.zeroCells (Ev (⟨#[]⟩, 0)).cells n).toList.length = n * 2 := by rw [hz]; simp [Builtin.zeroCells]
  have hst := run_storeCells_cells (P := Tryz.prog) G o (Builtin.zeroCells (Ev (⟨#[]⟩, 0)).cells n).toList 0 w (fun j hj => by rw [Nat.add_zero]; exact hc j (by omega)) (fun j hj => hf _) hmem
  rw [Nat.add_zero] at hst
  refine ⟨(Builtin.zeroCells (Ev (⟨#[]⟩, 0)).cells n).toList, hlen, hmem, fun ty c => ?_⟩
  have zero37 : ∀ w : World, (zeroValue 108).run Tryz.prog w = .ok (Ev (⟨#[]⟩, 0)) w := fun w => by kernel_rfl
  obtain ⟨m, rfl⟩ : ∃ m, n = m + 1 := ⟨n - 1, by omega⟩
  simp [Builtin.clear_, run_underlying Tryz.underlying104, zero37, hst]

def DelE (w : World) (G c : Nat) (K : List En) (e : Ending) (w' : World) : Prop := e = .returned (.slice (some ⟨G, 0, none⟩) K.length c) ∧ ERow w' G c K ∧ w.grownBy w' (some G)
theorem erase_row {w : World} {G c i : Nat} {L : List En} (h : ERow w G c L) (hi : i < L.length) : ERow (w.setCells G (i * 2) (encL (L.drop (i + 1)))) G c (L.eraseIdx i) := by
  have h1 := h.1
  have hl2 : (encL (L.drop (i + 1))).length = (L.length - (i + 1)) * 2 := by rw [encL_length, List.length_drop]
  refine h.sets (by rw [hl2]; omega) (encL_one _) (by rw [List.length_eraseIdx]; split <;> omega) fun X hl ht => ?_
  rw [List.length_eraseIdx, if_pos hi, List.eraseIdx_eq_take_drop_succ, encL_append, ← encL_take, ← ht, List.take_take, Nat.min_eq_left (by omega), List.take_append_of_le_length, List.take_of_length_le]
  · rw [List.length_append, List.length_take, hl2]; omega
  · rw [List.length_append, List.length_take, hl2]; omega

set_option maxHeartbeats 4000000 in
set_option maxRecDepth 100000 in
theorem del_any (G c i : Nat) (L : List En) (w : World) (hi : i < L.length) (hN : L.length ≤ 1000000) (h : ERow w G c L) :
    Calls Tryz.prog 145 #[.slice (some ⟨G, 0, none⟩) L.length c, .int .i64 i, .int .i64 ((i : Int) + 1)] w (DelE w G c (L.eraseIdx i)) := by
  obtain ⟨i0, hi0, hz0, hz1, hz2⟩ := info_parts info37
  have hc63 : c ≤ 9223372036854775807 := h.2.1
  have hlc := h.1
  have hdl : (encL (L.drop (i + 1))).length = (L.length - (i + 1)) * 2 := by rw [encL_length, List.length_drop]
  have hE := Lib.hid (erase_row (w := w.drew) (h.of_block rfl) hi)
  have hEl : (L.eraseIdx i).length = L.length - 1 := by rw [List.length_eraseIdx, if_pos hi]
  have hg : w.grownBy (w.drew.setCells G (i * 2) (encL (L.drop (i + 1)))) (some G) := grownBy_trans (grownBy_drew _ _) (grownBy_sets _ _ _ _)
  have HSRC := Lib.hid (fun (hc : c ≠ i + 1) => (show ∀ j u, (encL (L.drop (i + 1)))[j]? = some u → w.drew.cell? ((⟨G, (i + 1) * 2, none⟩ : Addr).add j) = some u from fun j u hj => by
    rw [Addr.add_lit]; exact h.cells (by rw [← encL_drop, List.getElem?_drop] at hj; exact hj)))
  have HNIL := Lib.hid (fun (hc : c = i + 1) => (show ∀ j u, (encL (L.drop (i + 1)))[j]? = some u → w.drew.cell? ((⟨G, 0, none⟩ : Addr).add j) = some u from fun j u hj => by
    rw [List.drop_eq_nil_of_le (by omega)] at hj; simp [encL] at hj))
  have HSP := Lib.hid (fun j (hj : j < (encL (L.drop (i + 1))).length) => (⟨h.some_ (by rw [hdl] at hj; omega), h.frozen _⟩ : (w.drew.cell? ⟨G, 0 + i * 2 + j, none⟩).isSome = true ∧ w.drew.frozen? ⟨G, 0 + i * 2 + j, none⟩ = false))
  have H1 := Lib.hid (encL_one (L.drop (i + 1)))
  obtain ⟨W2, hW2⟩ : ∃ W2, W2 = w.drew.setCells G (i * 2) (encL (L.drop (i + 1))) := ⟨_, rfl⟩
  rw [← hW2] at hE hg
  obtain ⟨vs, hvl, hv1, hcl⟩ := run_clear2 W2 G ((L.length - 1) * 2) 1 (by omega) (fun j hj => hE.out.some_ (by omega)) hE.out.frozen
  have HF := Lib.hid (show DelE w G c (L.eraseIdx i) (.returned (.slice (some ⟨G, 0, none⟩) (L.length - 1) c)) (W2.setCells G ((L.length - 1) * 2) vs) from
    ⟨by rw [hEl], hE.out.spoil (by rw [hEl]; exact Nat.le_refl _) (by rw [hvl]; omega) hv1, grownBy_trans hg (grownBy_sets _ _ _ _)⟩)
  have HDL := Lib.hid hdl
  have HW := Lib.hid hW2
  generalize L.eraseIdx i = K at *
  generalize encL (L.drop (i + 1)) = cx at *
  generalize hn : L.length = n at *
  have hii : ((i : Int) == (i : Int) + 1) = false := by rw [beq_eq_false_iff_ne]; omega
  have hii2 : ¬ ((i : Int) = (i : Int) + 1) := by omega
  have htn : ((i : Int) + 1).toNat = i + 1 := by omega
  have hb1 : (i : Int) + 1 ≤ (n : Int) := by omega
  have hb2 : (i : Int) + 1 ≤ (c : Int) := by omega
  clear hn h hE hg hvl hv1 hEl hdl hW2 hz0
  have hic : i ≤ c := by omega
  have hii4 : (0 : Int) ≤ (i : Int) + 1 := by omega
  have hii3 : (i : Int) ≤ (i : Int) + 1 := by omega
  by_cases hce : c = i + 1
  · have HS := Lib.hid (HNIL.out hce)
    clear HSRC HNIL
    subst hce
    obtain rfl : n = i + 1 := by omega
    rw [show i + 1 - 1 = i from rfl] at HF hcl
    have hw0 := Lib.hid (show w.drew = W2 by rw [HW.out, List.eq_nil_of_length_eq_zero (show cx.length = 0 by have := HDL.out; omega)]; rfl)
    go_enter Tryz.func145, Tryz.ntmps145
    go_wp2_with fail
    go_region
    rw [hw0.out]
    go_wp2_with fail
    go_ret
    exact HF.out
  · have HS := Lib.hid (HSRC.out hce)
    clear HSRC HNIL
    obtain ⟨m, rfl⟩ : ∃ m, n = m + 1 := ⟨n - 1, by omega⟩
    rw [show m + 1 - 1 = m from rfl] at HF hcl
    have hcx := Lib.hid (show cx.length = (m - i) * 2 by have := HDL.out; omega)
    have him : i ≤ m := by omega
    have hmc : m ≤ c := by omega
    have hmc2 : m ≠ c := by omega
    go_enter Tryz.func145, Tryz.ntmps145
    go_wp2_with fail
    go_region_law (refine step_append_room rfl _ _ 104 rfl 108 i0 2 Tryz.underlying104 hi0 hz1 G 0 i c (by simp [Act.eval, Act.put]) ⟨G, (i + 1) * 2, none⟩ (m - i) (c - (i + 1)) cx (by simp [Act.eval, Act.put]) hcx.out HS.out H1.out (by omega) HSP.out ?_)
    rw [← HW.out]
    go_wp2_with fail
    go_ret
    exact HF.out

/-- Behind the deletion, and the store of the new slice. -/
theorem Du.cut {w W w4 : World} {D lo c G : Nat} {o : Option Nat} {L K : List En} {e : Ending} {vv : Value} (h : Du w D lo o c L) (ho : o = some G) (hb : Below w.heap.size w W) (hi : DelE W G c K e w4) :
    w4.cell? ⟨D, 0, none⟩ = some (.slice (Ao o) L.length c) ∧ w4.frozen? ⟨D, 0, none⟩ = false ∧ e = .returned (.slice (some ⟨G, 0, none⟩) K.length c) ∧
      StepE w D lo o vv K (.returned vv) (w4.setCell ⟨D, 0, none⟩ (.slice (some ⟨G, 0, none⟩) K.length c)) := by
  subst ho
  obtain ⟨he, hr, hg⟩ := hi
  have hD := h.lt
  have hDW : D < W.heap.size := Nat.lt_of_lt_of_le hD hb.size
  have hDG : D ≠ G := h.row.2.1
  have hne : some D ≠ some G := fun e => hDG (by injection e)
  have hblk : w4.heap[D]? = w.heap[D]? := (hg.block D hDW hne).trans (hb.block D hD)
  have c0 := (World.cell?_of_block (a := ⟨D, 0, none⟩) hblk).trans h.d0
  have c1 := (World.frozen?_of_block (a := ⟨D, 0, none⟩) hblk).trans h.f0
  refine ⟨c0, c1, he, rfl, some G, c, ⟨?_, by simpa using c1, h.row.1, hDG, hr.of_block (Below.heap_setCell _ _ _ _ (fun e => hDG (by simpa using e.symm)))⟩, fun G' e => .inl e, ?_⟩
  · rw [World.cell?_setCell_same _ _ _ c0]; rfl
  · exact ((Fr.below hb).trans (Fr.grown (Q := D) hg) (fun k e => .inl e)).trans (Fr.setQ w4 D _ _) (fun k e => .inl e)

set_option maxRecDepth 100000 in
set_option maxHeartbeats 2000000 in
theorem ddel_any (D lo c : Nat) (o : Option Nat) (L : List En) (s : ByteArray) (w : World) (h : Du w D lo o c L) (hs : Sorted L) (hN : L.length ≤ 1000000) :
    Calls Tryz.prog 110 #[Pq D, .string s] w (StepE w D lo o (getV s L) (ldel s L)) := by
  have HP := Lib.hid (place_any D lo c o L s w hs hN h)
  unfold PlaceE at HP
  cases ht : thereB s L
  · obtain ⟨hl, hno⟩ := there_no hs ht
    rw [ht] at HP
    have HF := Lib.hid (fun W (hb : Below w.heap.size w W) => (show StepE w D lo o (getV s L) (ldel s L) (.returned (.tuple #[.int .i64 0, .int .i64 2])) W by
      rw [ldel_no hl]; unfold getV; rw [hl]; exact stepE_same h hb))
    generalize pos s L = k at *
    generalize getV s L = r at *
    generalize ldel s L = K at *
    clear h hs hN ht hl hno
    go_enter Tryz.func110, Tryz.ntmps110
    go_wp2_with fail
    refine HP.out.mono ?_
    rintro e w2 ⟨rfl, hb2⟩
    go_wp2_with fail
    go_ret2
    exact HF.out _ hb2
  · obtain ⟨x, hx, hxs, hl⟩ := there_yes hs ht
    rw [ht] at HP
    have hk := (List.getElem?_eq_some_iff.1 hx).1
    obtain ⟨G, ho, -, -⟩ := h.at_ hx
    have HX := Lib.hid (fun W (hb : Below w.heap.size w W) => (show W.cell? ⟨G, pos s L * 2 + 1, none⟩ = some (.int .i64 x.2) by
      obtain ⟨G', ho', -, f1⟩ := (h.below hb).at_ hx
      rw [ho] at ho'; injection ho' with e; subst e; exact f1))
    have HD0 := Lib.hid (fun W (hb : Below w.heap.size w W) => (h.below hb).d0)
    have HI := Lib.hid (fun W (hb : Below w.heap.size w W) => del_any G c (pos s L) L W hk hN (by have := (h.below hb).row; subst ho; exact this.2.2))
    have HST := Lib.hid (fun W w4 e (hb : Below w.heap.size w W) hi => Du.cut (W := W) (w4 := w4) (e := e) (K := L.eraseIdx (pos s L)) (vv := getV s L) h ho hb hi)
    have HV := Lib.hid (show getV s L = .tuple #[.int .i64 x.2, .int .i64 0] by unfold getV; rw [hl])
    rw [ldel_at hs hx hxs]
    have hlen : (L.eraseIdx (pos s L)).length ≤ L.length := List.length_eraseIdx_le ..
    generalize getV s L = r at *
    generalize L.eraseIdx (pos s L) = K at *
    generalize pos s L = k at *
    generalize L.length = n at *
    obtain ⟨xs, xv⟩ := x
    dsimp only at *
    rw [ho] at HD0
    have HO := Lib.hid ho
    clear h hs ht hl hx hxs ho
    go_enter Tryz.func110, Tryz.ntmps110
    go_wp2_with fail
    refine HP.out.mono ?_
    rintro e w2 ⟨rfl, hb2⟩
    have f1 := HX.out w2 hb2
    have d0 := HD0.out w2 hb2
    have HI2 := Lib.hid (HI.out w2 hb2)
    have HST2 := Lib.hid (fun w4 e hi => HST.out w2 w4 e hb2 hi)
    clear hb2 HP HX HD0 HI HST
    go_wp2_with fail
    refine HI2.out.mono ?_
    intro e w4 hi
    obtain ⟨c0, c1, rfl, hst⟩ := HST2.out w4 e hi
    have HR := Lib.hid hst
    clear hi hst HI2 HST2 d0 f1
    go_wp2_with fail
    go_ret2
    rw [HV.out] at HR ⊢
    exact HR.out
end Go.Proofs.YtnnaoldpacbagaaGreat.dn
end
