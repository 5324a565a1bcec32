/- 'slices.Delete' of one item; 'Del' of a directory. -/
import Derived.Test.YtchjidijgdkhoaaSet3
namespace Go.Proofs.Ytchjidijgdkhoaa
open Go.RowKit Go.Shelf
set_option linter.unusedVariables false

theorem ERow.spoil {w : World} {G c o : Nat} {K : List En} {vs : List Value} (h : ERow w G c K) (ho : K.length * 2 ≤ o) (hfit : o + vs.length ≤ c * 2) (h1 : ∀ v ∈ vs, v.oneCell' = true) : ERow (w.setCells G o vs) G c K :=
  h.sets hfit h1 h.1 fun X hl ht => by
    rw [List.append_assoc, List.take_append_of_le_length (by rw [List.length_take]; omega), List.take_take, Nat.min_eq_left ho, ht]
theorem run_clear2 (w : World) (G o n : Nat) (hn : 0 < n) (hc : ∀ j, j < n * 2 → (w.cell? ⟨G, o + j, none⟩).isSome = true) (hf : ∀ j, w.frozen? ⟨G, j, none⟩ = false) :
    ∃ vs, vs.length = n * 2 ∧ (∀ v ∈ vs, v.oneCell' = true) ∧ ∀ ty c, (Builtin.clear_ #[27] ty #[.slice (some ⟨G, o, none⟩) n c]).run Try.prog w = .ok (.tuple #[]) (w.setCells G o vs) := by
  have hz : (Ev (⟨#[]⟩, 0)).cells = #[.string ⟨#[]⟩, .int .i64 0] := rfl
  have hmem : ∀ v ∈ (Builtin.zeroCells (Ev (⟨#[]⟩, 0)).cells n).toList, v.oneCell' = true := by
    intro v hv
    rw [hz] at hv
    simp only [Builtin.zeroCells, Array.toList_map, List.mem_map] at hv
    obtain ⟨i, _, rfl⟩ := hv
    have : i % 2 = 0 ∨ i % 2 = 1 := by omega
    rcases this with e | e <;> simp [e] <;> rfl
  have hlen : (Builtin.zeroCells (Ev (⟨#[]⟩, 0)).cells n).toList.length = n * 2 := by rw [hz]; simp [Builtin.zeroCells]
  have hst := run_storeCells_cells (P := Try.prog) G o (Builtin.zeroCells (Ev (⟨#[]⟩, 0)).cells n).toList 0 w (fun j hj => by rw [Nat.add_zero]; exact hc j (by omega)) (fun j hj => hf _) hmem
  rw [Nat.add_zero] at hst
  refine ⟨(Builtin.zeroCells (Ev (⟨#[]⟩, 0)).cells n).toList, hlen, hmem, fun ty c => ?_⟩
  have zero37 : ∀ w : World, (zeroValue 37).run Try.prog w = .ok (Ev (⟨#[]⟩, 0)) w := fun w => by kernel_rfl
  obtain ⟨m, rfl⟩ : ∃ m, n = m + 1 := ⟨n - 1, by omega⟩
  simp [Builtin.clear_, run_underlying Try.underlying27, zero37, hst]

def DelE (w : World) (G c : Nat) (K : List En) (e : Ending) (w' : World) : Prop := e = .returned (.slice (some ⟨G, 0, none⟩) K.length c) ∧ ERow w' G c K ∧ w.grownBy w' (some G)
theorem erase_row {w : World} {G c i : Nat} {L : List En} (h : ERow w G c L) (hi : i < L.length) : ERow (w.setCells G (i * 2) (encL (L.drop (i + 1)))) G c (L.eraseIdx i) := by
  have h1 := h.1
  have hl2 : (encL (L.drop (i + 1))).length = (L.length - (i + 1)) * 2 := by rw [encL_length, List.length_drop]
  refine h.sets (by rw [hl2]; omega) (encL_one _) (by rw [List.length_eraseIdx]; split <;> omega) fun X hl ht => ?_
  rw [List.length_eraseIdx, if_pos hi, List.eraseIdx_eq_take_drop_succ, encL_append, ← encL_take, ← ht, List.take_take, Nat.min_eq_left (by omega), List.take_append_of_le_length, List.take_of_length_le]
  · rw [List.length_append, List.length_take, hl2]; omega
  · rw [List.length_append, List.length_take, hl2]; omega

set_option maxHeartbeats 4000000 in
set_option maxRecDepth 100000 in
theorem del_any (G c i : Nat) (L : List En) (w : World) (hi : i < L.length) (hN : L.length ≤ 1000000) (h : ERow w G c L) :
    Calls Try.prog 28 #[.slice (some ⟨G, 0, none⟩) L.length c, .int .i64 i, .int .i64 ((i : Int) + 1)] w (DelE w G c (L.eraseIdx i)) := by
  obtain ⟨i0, hi0, hz0, hz1, hz2⟩ := info_parts info37
  have hc63 : c ≤ 9223372036854775807 := h.2.1
  have hlc := h.1
  have hdl : (encL (L.drop (i + 1))).length = (L.length - (i + 1)) * 2 := by rw [encL_length, List.length_drop]
  have hE := Lib.hid (erase_row (w := w.drew) (h.of_block rfl) hi)
  have hEl : (L.eraseIdx i).length = L.length - 1 := by rw [List.length_eraseIdx, if_pos hi]
  have hg : w.grownBy (w.drew.setCells G (i * 2) (encL (L.drop (i + 1)))) (some G) := grownBy_trans (grownBy_drew _ _) (grownBy_sets _ _ _ _)
  have HSRC := Lib.hid (fun (hc : c ≠ i + 1) => (show ∀ j u, (encL (L.drop (i + 1)))[j]? = some u → w.drew.cell? ((⟨G, (i + 1) * 2, none⟩ : Addr).add j) = some u from fun j u hj => by
    rw [Addr.add_lit]; exact h.cells (by rw [← encL_drop, List.getElem?_drop] at hj; exact hj)))
  have HNIL := Lib.hid (fun (hc : c = i + 1) => (show ∀ j u, (encL (L.drop (i + 1)))[j]? = some u → w.drew.cell? ((⟨G, 0, none⟩ : Addr).add j) = some u from fun j u hj => by
    rw [List.drop_eq_nil_of_le (by omega)] at hj; simp [encL] at hj))
  have HSP := Lib.hid (fun j (hj : j < (encL (L.drop (i + 1))).length) => (⟨h.some_ (by rw [hdl] at hj; omega), h.frozen _⟩ : (w.drew.cell? ⟨G, 0 + i * 2 + j, none⟩).isSome = true ∧ w.drew.frozen? ⟨G, 0 + i * 2 + j, none⟩ = false))
  have H1 := Lib.hid (encL_one (L.drop (i + 1)))
  obtain ⟨W2, hW2⟩ : ∃ W2, W2 = w.drew.setCells G (i * 2) (encL (L.drop (i + 1))) := ⟨_, rfl⟩
  rw [← hW2] at hE hg
  obtain ⟨vs, hvl, hv1, hcl⟩ := run_clear2 W2 G ((L.length - 1) * 2) 1 (by omega) (fun j hj => hE.out.some_ (by omega)) hE.out.frozen
  have HF := Lib.hid (show DelE w G c (L.eraseIdx i) (.returned (.slice (some ⟨G, 0, none⟩) (L.length - 1) c)) (W2.setCells G ((L.length - 1) * 2) vs) from
    ⟨by rw [hEl], hE.out.spoil (by rw [hEl]; exact Nat.le_refl _) (by rw [hvl]; omega) hv1, grownBy_trans hg (grownBy_sets _ _ _ _)⟩)
  have HDL := Lib.hid hdl
  have HW := Lib.hid hW2
  generalize L.eraseIdx i = K at *
  generalize encL (L.drop (i + 1)) = cx at *
  generalize hn : L.length = n at *
  have hii : ((i : Int) == (i : Int) + 1) = false := by rw [beq_eq_false_iff_ne]; omega
  have hii2 : ¬ ((i : Int) = (i : Int) + 1) := by omega
  have htn : ((i : Int) + 1).toNat = i + 1 := by omega
  have hb1 : (i : Int) + 1 ≤ (n : Int) := by omega
  have hb2 : (i : Int) + 1 ≤ (c : Int) := by omega
  clear hn h hE hg hvl hv1 hEl hdl hW2 hz0
  have hic : i ≤ c := by omega
  have hii4 : (0 : Int) ≤ (i : Int) + 1 := by omega
  have hii3 : (i : Int) ≤ (i : Int) + 1 := by omega
  by_cases hce : c = i + 1
  · have HS := Lib.hid (HNIL.out hce)
    clear HSRC HNIL
    subst hce
    obtain rfl : n = i + 1 := by omega
    rw [show i + 1 - 1 = i from rfl] at HF hcl
    have hw0 := Lib.hid (show w.drew = W2 by rw [HW.out, List.eq_nil_of_length_eq_zero (show cx.length = 0 by have := HDL.out; omega)]; rfl)
    go_enter Try.func28, Try.ntmps28
    go_wp2_with fail
    go_region
    rw [hw0.out]
    go_wp2_with fail
    go_ret
    exact HF.out
  · have HS := Lib.hid (HSRC.out hce)
    clear HSRC HNIL
    obtain ⟨m, rfl⟩ : ∃ m, n = m + 1 := ⟨n - 1, by omega⟩
    rw [show m + 1 - 1 = m from rfl] at HF hcl
    have hcx := Lib.hid (show cx.length = (m - i) * 2 by have := HDL.out; omega)
    have him : i ≤ m := by omega
    have hmc : m ≤ c := by omega
    have hmc2 : m ≠ c := by omega
    go_enter Try.func28, Try.ntmps28
    go_wp2_with fail
    go_region_law (refine step_append_room rfl _ _ 27 rfl 37 i0 2 Try.underlying27 hi0 hz1 G 0 i c (by simp [Act.eval, Act.put]) ⟨G, (i + 1) * 2, none⟩ (m - i) (c - (i + 1)) cx (by simp [Act.eval, Act.put]) hcx.out HS.out H1.out (by omega) HSP.out ?_)
    rw [← HW.out]
    go_wp2_with fail
    go_ret
    exact HF.out

/-- Behind the deletion, and the store of the new slice. -/
theorem Du.cut {w W w4 : World} {D lo c G : Nat} {o : Option Nat} {L K : List En} {e : Ending} {vv : Value} (h : Du w D lo o c L) (ho : o = some G) (hb : Below w.heap.size w W) (hi : DelE W G c K e w4) :
    w4.cell? ⟨D, 0, none⟩ = some (.slice (Ao o) L.length c) ∧ w4.frozen? ⟨D, 0, none⟩ = false ∧ e = .returned (.slice (some ⟨G, 0, none⟩) K.length c) ∧
      StepE w D lo o vv K (.returned vv) (w4.setCell ⟨D, 0, none⟩ (.slice (some ⟨G, 0, none⟩) K.length c)) := by
  subst ho
  obtain ⟨he, hr, hg⟩ := hi
  have hD := h.lt
  have hDW : D < W.heap.size := Nat.lt_of_lt_of_le hD hb.size
  have hDG : D ≠ G := h.row.2.1
  have hne : some D ≠ some G := fun e => hDG (by injection e)
  have hblk : w4.heap[D]? = w.heap[D]? := (hg.block D hDW hne).trans (hb.block D hD)
  have c0 := (World.cell?_of_block (a := ⟨D, 0, none⟩) hblk).trans h.d0
  have c1 := (World.frozen?_of_block (a := ⟨D, 0, none⟩) hblk).trans h.f0
  refine ⟨c0, c1, he, rfl, some G, c, ⟨?_, by simpa using c1, h.row.1, hDG, hr.of_block (Below.heap_setCell _ _ _ _ (fun e => hDG (by simpa using e.symm)))⟩, fun G' e => .inl e, ?_⟩
  · rw [World.cell?_setCell_same _ _ _ c0]; rfl
  · exact ((Fr.below hb).trans (Fr.grown (Q := D) hg) (fun k e => .inl e)).trans (Fr.setQ w4 D _ _) (fun k e => .inl e)

set_option maxHeartbeats 2000000 in
theorem ddel_any (D lo c : Nat) (o : Option Nat) (L : List En) (s : ByteArray) (w : World) (h : Du w D lo o c L) (hs : Sorted L) (hN : L.length ≤ 1000000) :
    Calls Try.prog 12 #[Pq D, .string s] w (StepE w D lo o (getV s L) (ldel s L)) := by
  have HP := Lib.hid (place_any D lo c o L s w hs hN h)
  unfold PlaceE at HP
  cases ht : thereB s L
  · obtain ⟨hl, hno⟩ := there_no hs ht
    rw [ht] at HP
    have HF := Lib.hid (fun W (hb : Below w.heap.size w W) => (show StepE w D lo o (getV s L) (ldel s L) (.returned (.tuple #[.int .i64 0, .int .i64 2])) W by
      rw [ldel_no hl]; unfold getV; rw [hl]; exact stepE_same h hb))
    generalize pos s L = k at *
    generalize getV s L = r at *
    generalize ldel s L = K at *
    clear h hs hN ht hl hno
    go_enter Try.func12, Try.ntmps12
    go_wp2_with fail
    refine HP.out.mono ?_
    rintro e w2 ⟨rfl, hb2⟩
    go_wp2_with fail
    go_ret2
    exact HF.out _ hb2
  · obtain ⟨x, hx, hxs, hl⟩ := there_yes hs ht
    rw [ht] at HP
    have hk := (List.getElem?_eq_some_iff.1 hx).1
    obtain ⟨G, ho, -, -⟩ := h.at_ hx
    have HX := Lib.hid (fun W (hb : Below w.heap.size w W) => (show W.cell? ⟨G, pos s L * 2 + 1, none⟩ = some (.int .i64 x.2) by
      obtain ⟨G', ho', -, f1⟩ := (h.below hb).at_ hx
      rw [ho] at ho'; injection ho' with e; subst e; exact f1))
    have HD0 := Lib.hid (fun W (hb : Below w.heap.size w W) => (h.below hb).d0)
    have HI := Lib.hid (fun W (hb : Below w.heap.size w W) => del_any G c (pos s L) L W hk hN (by have := (h.below hb).row; subst ho; exact this.2.2))
    have HST := Lib.hid (fun W w4 e (hb : Below w.heap.size w W) hi => Du.cut (W := W) (w4 := w4) (e := e) (K := L.eraseIdx (pos s L)) (vv := getV s L) h ho hb hi)
    have HV := Lib.hid (show getV s L = .tuple #[.int .i64 x.2, .int .i64 0] by unfold getV; rw [hl])
    rw [ldel_at hs hx hxs]
    have hlen : (L.eraseIdx (pos s L)).length ≤ L.length := List.length_eraseIdx_le ..
    generalize getV s L = r at *
    generalize L.eraseIdx (pos s L) = K at *
    generalize pos s L = k at *
    generalize L.length = n at *
    obtain ⟨xs, xv⟩ := x
    dsimp only at *
    rw [ho] at HD0
    have HO := Lib.hid ho
    clear h hs ht hl hx hxs ho
    go_enter Try.func12, Try.ntmps12
    go_wp2_with fail
    refine HP.out.mono ?_
    rintro e w2 ⟨rfl, hb2⟩
    have f1 := HX.out w2 hb2
    have d0 := HD0.out w2 hb2
    have HI2 := Lib.hid (HI.out w2 hb2)
    have HST2 := Lib.hid (fun w4 e hi => HST.out w2 w4 e hb2 hi)
    clear hb2 HP HX HD0 HI HST
    go_wp2_with fail
    refine HI2.out.mono ?_
    intro e w4 hi
    obtain ⟨c0, c1, rfl, hst⟩ := HST2.out w4 e hi
    have HR := Lib.hid hst
    clear hi hst HI2 HST2 d0 f1
    go_wp2_with fail
    go_ret2
    rw [HV.out] at HR ⊢
    exact HR.out
end Go.Proofs.Ytchjidijgdkhoaa
