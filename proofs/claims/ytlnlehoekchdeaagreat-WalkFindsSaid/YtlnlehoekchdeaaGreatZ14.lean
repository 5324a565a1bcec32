/- 'slices.Delete' of one item; 'Del' of a directory. 'slices.Clone'; 'All' of a directory. A directory of the call's own, told as a list: what each call makes of it. Write: what its loop holds, and its ends. Write, walked. Holes: the numbers of the chunks that are not there. -/
import Derived.Test.YtlnlehoekchdeaaGreatZ13
import Derived.Laws.Cover3
import Derived.Test.YtlnlehoekchdeaaGreatZ09
section
namespace Go.Proofs.YtlnlehoekchdeaaGreat.dn
open Go.RowKit Go.Shelf
set_option linter.unusedVariables false


theorem ERow.spoil {w : World} {G c o : Nat} {K : List En} {vs : List Value} (h : ERow w G c K) (ho : K.length * 2 ≤ o) (hfit : o + vs.length ≤ c * 2) (h1 : ∀ v ∈ vs, v.oneCell' = true) : ERow (w.setCells G o vs) G c K :=
  h.sets hfit h1 h.1 fun X hl ht => by
    rw [List.append_assoc, List.take_append_of_le_length (by rw [List.length_take]; omega), List.take_take, Nat.min_eq_left ho, ht]
set_option maxRecDepth 100000 in
theorem run_clear2 (w : World) (G o n : Nat) (hn : 0 < n) (hc : ∀ j, j < n * 2 → (w.cell? ⟨G, o + j, none⟩).isSome = true) (hf : ∀ j, w.frozen? ⟨G, j, none⟩ = false) :
    ∃ vs, vs.length = n * 2 ∧ (∀ v ∈ vs, v.oneCell' = true) ∧ ∀ ty c, (Builtin.clear_ #[97] ty #[.slice (some ⟨G, o, none⟩) n c]).run Tryz.prog w = .ok (.tuple #[]) (w.setCells G o vs) := by
  have hz : (Ev (⟨#[]⟩, 0)).cells = #[.string ⟨#[]⟩, .int .i64 0] := rfl
  have hmem : ∀ v ∈ (Builtin.zeroCells (Ev (⟨#[]⟩, 0)).cells n).toList, v.oneCell' = true := by
    intro v hv
    rw [hz] at hv
    simp only [Builtin.zeroCells, Array.toList_map, List.mem_map] at hv
    obtain ⟨i, _, rfl⟩ := hv
    have : i % 2 = 0 ∨ i % 2 = 1 := by omega
    rcases this with e | e <;> simp [e] <;> rfl
  have hlen : (Builtin.zeroCells (Ev (⟨#[]⟩, 0)).cells n).toList.length = n * 2 := by rw [hz]; simp [Builtin.zeroCells]
  have hst := run_storeCells_cells (P := Tryz.prog) G o (Builtin.zeroCells (Ev (⟨#[]⟩, 0)).cells n).toList 0 w (fun j hj => by rw [Nat.add_zero]; exact hc j (by omega)) (fun j hj => hf _) hmem
  rw [Nat.add_zero] at hst
  refine ⟨(Builtin.zeroCells (Ev (⟨#[]⟩, 0)).cells n).toList, hlen, hmem, fun ty c => ?_⟩
  have zero37 : ∀ w : World, (zeroValue 123).run Tryz.prog w = .ok (Ev (⟨#[]⟩, 0)) w := fun w => by kernel_rfl
  obtain ⟨m, rfl⟩ : ∃ m, n = m + 1 := ⟨n - 1, by omega⟩
  simp [Builtin.clear_, run_underlying Tryz.underlying97, zero37, hst]

def DelE (w : World) (G c : Nat) (K : List En) (e : Ending) (w' : World) : Prop := e = .returned (.slice (some ⟨G, 0, none⟩) K.length c) ∧ ERow w' G c K ∧ w.grownBy w' (some G)
theorem erase_row {w : World} {G c i : Nat} {L : List En} (h : ERow w G c L) (hi : i < L.length) : ERow (w.setCells G (i * 2) (encL (L.drop (i + 1)))) G c (L.eraseIdx i) := by
  have h1 := h.1
  have hl2 : (encL (L.drop (i + 1))).length = (L.length - (i + 1)) * 2 := by rw [encL_length, List.length_drop]
  refine h.sets (by rw [hl2]; omega) (encL_one _) (by rw [List.length_eraseIdx]; split <;> omega) fun X hl ht => ?_
  rw [List.length_eraseIdx, if_pos hi, List.eraseIdx_eq_take_drop_succ, encL_append, ← encL_take, ← ht, List.take_take, Nat.min_eq_left (by omega), List.take_append_of_le_length, List.take_of_length_le]
  · rw [List.length_append, List.length_take, hl2]; omega
  · rw [List.length_append, List.length_take, hl2]; omega

set_option maxHeartbeats 4000000 in
set_option maxRecDepth 100000 in
theorem del_any (G c i : Nat) (L : List En) (w : World) (hi : i < L.length) (hN : L.length ≤ 1000000) (h : ERow w G c L) :
    Calls Tryz.prog 90 #[.slice (some ⟨G, 0, none⟩) L.length c, .int .i64 i, .int .i64 ((i : Int) + 1)] w (DelE w G c (L.eraseIdx i)) := by
  obtain ⟨i0, hi0, hz0, hz1, hz2⟩ := info_parts info37
  have hc63 : c ≤ 9223372036854775807 := h.2.1
  have hlc := h.1
  have hdl : (encL (L.drop (i + 1))).length = (L.length - (i + 1)) * 2 := by rw [encL_length, List.length_drop]
  have hE := Lib.hid (erase_row (w := w.drew) (h.of_block rfl) hi)
  have hEl : (L.eraseIdx i).length = L.length - 1 := by rw [List.length_eraseIdx, if_pos hi]
  have hg : w.grownBy (w.drew.setCells G (i * 2) (encL (L.drop (i + 1)))) (some G) := grownBy_trans (grownBy_drew _ _) (grownBy_sets _ _ _ _)
  have HSRC := Lib.hid (fun (hc : c ≠ i + 1) => (show ∀ j u, (encL (L.drop (i + 1)))[j]? = some u → w.drew.cell? ((⟨G, (i + 1) * 2, none⟩ : Addr).add j) = some u from fun j u hj => by
    rw [Addr.add_lit]; exact h.cells (by rw [← encL_drop, List.getElem?_drop] at hj; exact hj)))
  have HNIL := Lib.hid (fun (hc : c = i + 1) => (show ∀ j u, (encL (L.drop (i + 1)))[j]? = some u → w.drew.cell? ((⟨G, 0, none⟩ : Addr).add j) = some u from fun j u hj => by
    rw [List.drop_eq_nil_of_le (by omega)] at hj; simp [encL] at hj))
  have HSP := Lib.hid (fun j (hj : j < (encL (L.drop (i + 1))).length) => (⟨h.some_ (by rw [hdl] at hj; omega), h.frozen _⟩ : (w.drew.cell? ⟨G, 0 + i * 2 + j, none⟩).isSome = true ∧ w.drew.frozen? ⟨G, 0 + i * 2 + j, none⟩ = false))
  have H1 := Lib.hid (encL_one (L.drop (i + 1)))
  obtain ⟨W2, hW2⟩ : ∃ W2, W2 = w.drew.setCells G (i * 2) (encL (L.drop (i + 1))) := ⟨_, rfl⟩
  rw [← hW2] at hE hg
  obtain ⟨vs, hvl, hv1, hcl⟩ := run_clear2 W2 G ((L.length - 1) * 2) 1 (by omega) (fun j hj => hE.out.some_ (by omega)) hE.out.frozen
  have HF := Lib.hid (show DelE w G c (L.eraseIdx i) (.returned (.slice (some ⟨G, 0, none⟩) (L.length - 1) c)) (W2.setCells G ((L.length - 1) * 2) vs) from
    ⟨by rw [hEl], hE.out.spoil (by rw [hEl]; exact Nat.le_refl _) (by rw [hvl]; omega) hv1, grownBy_trans hg (grownBy_sets _ _ _ _)⟩)
  have HDL := Lib.hid hdl
  have HW := Lib.hid hW2
  generalize L.eraseIdx i = K at *
  generalize encL (L.drop (i + 1)) = cx at *
  generalize hn : L.length = n at *
  have hii : ((i : Int) == (i : Int) + 1) = false := by rw [beq_eq_false_iff_ne]; omega
  have hii2 : ¬ ((i : Int) = (i : Int) + 1) := by omega
  have htn : ((i : Int) + 1).toNat = i + 1 := by omega
  have hb1 : (i : Int) + 1 ≤ (n : Int) := by omega
  have hb2 : (i : Int) + 1 ≤ (c : Int) := by omega
  clear hn h hE hg hvl hv1 hEl hdl hW2 hz0
  have hic : i ≤ c := by omega
  have hii4 : (0 : Int) ≤ (i : Int) + 1 := by omega
  have hii3 : (i : Int) ≤ (i : Int) + 1 := by omega
  by_cases hce : c = i + 1
  · have HS := Lib.hid (HNIL.out hce)
    clear HSRC HNIL
    subst hce
    obtain rfl : n = i + 1 := by omega
    rw [show i + 1 - 1 = i from rfl] at HF hcl
    have hw0 := Lib.hid (show w.drew = W2 by rw [HW.out, List.eq_nil_of_length_eq_zero (show cx.length = 0 by have := HDL.out; omega)]; rfl)
    go_enter Tryz.func90, Tryz.ntmps90
    go_wp2_with fail
    go_region
    rw [hw0.out]
    go_wp2_with fail
    go_ret
    exact HF.out
  · have HS := Lib.hid (HSRC.out hce)
    clear HSRC HNIL
    obtain ⟨m, rfl⟩ : ∃ m, n = m + 1 := ⟨n - 1, by omega⟩
    rw [show m + 1 - 1 = m from rfl] at HF hcl
    have hcx := Lib.hid (show cx.length = (m - i) * 2 by have := HDL.out; omega)
    have him : i ≤ m := by omega
    have hmc : m ≤ c := by omega
    have hmc2 : m ≠ c := by omega
    go_enter Tryz.func90, Tryz.ntmps90
    go_wp2_with fail
    go_region_law (refine step_append_room rfl _ _ 97 rfl 123 i0 2 Tryz.underlying97 hi0 hz1 G 0 i c (by simp [Act.eval, Act.put]) ⟨G, (i + 1) * 2, none⟩ (m - i) (c - (i + 1)) cx (by simp [Act.eval, Act.put]) hcx.out HS.out H1.out (by omega) HSP.out ?_)
    rw [← HW.out]
    go_wp2_with fail
    go_ret
    exact HF.out

/-- Behind the deletion, and the store of the new slice. -/
theorem Du.cut {w W w4 : World} {D lo c G : Nat} {o : Option Nat} {L K : List En} {e : Ending} {vv : Value} (h : Du w D lo o c L) (ho : o = some G) (hb : Below w.heap.size w W) (hi : DelE W G c K e w4) :
    w4.cell? ⟨D, 0, none⟩ = some (.slice (Ao o) L.length c) ∧ w4.frozen? ⟨D, 0, none⟩ = false ∧ e = .returned (.slice (some ⟨G, 0, none⟩) K.length c) ∧
      StepE w D lo o vv K (.returned vv) (w4.setCell ⟨D, 0, none⟩ (.slice (some ⟨G, 0, none⟩) K.length c)) := by
  subst ho
  obtain ⟨he, hr, hg⟩ := hi
  have hD := h.lt
  have hDW : D < W.heap.size := Nat.lt_of_lt_of_le hD hb.size
  have hDG : D ≠ G := h.row.2.1
  have hne : some D ≠ some G := fun e => hDG (by injection e)
  have hblk : w4.heap[D]? = w.heap[D]? := (hg.block D hDW hne).trans (hb.block D hD)
  have c0 := (World.cell?_of_block (a := ⟨D, 0, none⟩) hblk).trans h.d0
  have c1 := (World.frozen?_of_block (a := ⟨D, 0, none⟩) hblk).trans h.f0
  refine ⟨c0, c1, he, rfl, some G, c, ⟨?_, by simpa using c1, h.row.1, hDG, hr.of_block (Below.heap_setCell _ _ _ _ (fun e => hDG (by simpa using e.symm)))⟩, fun G' e => .inl e, ?_⟩
  · rw [World.cell?_setCell_same _ _ _ c0]; rfl
  · exact ((Fr.below hb).trans (Fr.grown (Q := D) hg) (fun k e => .inl e)).trans (Fr.setQ w4 D _ _) (fun k e => .inl e)

set_option maxRecDepth 100000 in
set_option maxHeartbeats 2000000 in
theorem ddel_any (D lo c : Nat) (o : Option Nat) (L : List En) (s : ByteArray) (w : World) (h : Du w D lo o c L) (hs : Sorted L) (hN : L.length ≤ 1000000) :
    Calls Tryz.prog 67 #[Pq D, .string s] w (StepE w D lo o (getV s L) (ldel s L)) := by
  have HP := Lib.hid (place_any D lo c o L s w hs hN h)
  unfold PlaceE at HP
  cases ht : thereB s L
  · obtain ⟨hl, hno⟩ := there_no hs ht
    rw [ht] at HP
    have HF := Lib.hid (fun W (hb : Below w.heap.size w W) => (show StepE w D lo o (getV s L) (ldel s L) (.returned (.tuple #[.int .i64 0, .int .i64 2])) W by
      rw [ldel_no hl]; unfold getV; rw [hl]; exact stepE_same h hb))
    generalize pos s L = k at *
    generalize getV s L = r at *
    generalize ldel s L = K at *
    clear h hs hN ht hl hno
    go_enter Tryz.func67, Tryz.ntmps67
    go_wp2_with fail
    refine HP.out.mono ?_
    rintro e w2 ⟨rfl, hb2⟩
    go_wp2_with fail
    go_ret2
    exact HF.out _ hb2
  · obtain ⟨x, hx, hxs, hl⟩ := there_yes hs ht
    rw [ht] at HP
    have hk := (List.getElem?_eq_some_iff.1 hx).1
    obtain ⟨G, ho, -, -⟩ := h.at_ hx
    have HX := Lib.hid (fun W (hb : Below w.heap.size w W) => (show W.cell? ⟨G, pos s L * 2 + 1, none⟩ = some (.int .i64 x.2) by
      obtain ⟨G', ho', -, f1⟩ := (h.below hb).at_ hx
      rw [ho] at ho'; injection ho' with e; subst e; exact f1))
    have HD0 := Lib.hid (fun W (hb : Below w.heap.size w W) => (h.below hb).d0)
    have HI := Lib.hid (fun W (hb : Below w.heap.size w W) => del_any G c (pos s L) L W hk hN (by have := (h.below hb).row; subst ho; exact this.2.2))
    have HST := Lib.hid (fun W w4 e (hb : Below w.heap.size w W) hi => Du.cut (W := W) (w4 := w4) (e := e) (K := L.eraseIdx (pos s L)) (vv := getV s L) h ho hb hi)
    have HV := Lib.hid (show getV s L = .tuple #[.int .i64 x.2, .int .i64 0] by unfold getV; rw [hl])
    rw [ldel_at hs hx hxs]
    have hlen : (L.eraseIdx (pos s L)).length ≤ L.length := List.length_eraseIdx_le ..
    generalize getV s L = r at *
    generalize L.eraseIdx (pos s L) = K at *
    generalize pos s L = k at *
    generalize L.length = n at *
    obtain ⟨xs, xv⟩ := x
    dsimp only at *
    rw [ho] at HD0
    have HO := Lib.hid ho
    clear h hs ht hl hx hxs ho
    go_enter Tryz.func67, Tryz.ntmps67
    go_wp2_with fail
    refine HP.out.mono ?_
    rintro e w2 ⟨rfl, hb2⟩
    have f1 := HX.out w2 hb2
    have d0 := HD0.out w2 hb2
    have HI2 := Lib.hid (HI.out w2 hb2)
    have HST2 := Lib.hid (fun w4 e hi => HST.out w2 w4 e hb2 hi)
    clear hb2 HP HX HD0 HI HST
    go_wp2_with fail
    refine HI2.out.mono ?_
    intro e w4 hi
    obtain ⟨c0, c1, rfl, hst⟩ := HST2.out w4 e hi
    have HR := Lib.hid hst
    clear hi hst HI2 HST2 d0 f1
    go_wp2_with fail
    go_ret2
    rw [HV.out] at HR ⊢
    exact HR.out
end Go.Proofs.YtlnlehoekchdeaaGreat.dn
end
section
namespace Go.Proofs.YtlnlehoekchdeaaGreat.dn
open Go.RowKit Go.Shelf
set_option linter.unusedVariables false


set_option maxRecDepth 100000 in
theorem run_eql_nil (w : World) (a : Option Addr) (l c : Nat) : (binOp .eql 97 (.slice a l c) (.slice none 0 0)).run Tryz.prog w = .ok (.bool a.isNone) w := by
  simp only [binOp]
  simp [run_equal_slice_nil w 97 123 a l c Tryz.underlying97]
/-- A row of the call's own that nobody else has. -/
def AllE (w : World) (L : List En) (e : Ending) (w' : World) : Prop := ∃ o c', e = .returned (.slice (Ao o) L.length c') ∧ L.length ≤ c' ∧ c' ≤ maxLen ∧ Sl w' w.heap.size o c' L ∧ Below w.heap.size w w'

theorem allE_app {w w' : World} {n g cap : Nat} {L : List En} {ob : Obj} (hn : n = L.length) (hown : w'.ownsRow w.heap.size 123 2 (.slice (some ⟨g, 0, none⟩) (0 + n) cap) (0 + n) ([] ++ encL L))
    (hgr : (w.alloc ob).grownBy w' (Value.slice (some ⟨w.heap.size, 0, none⟩) 0 0).ownBlock) : AllE w L (.returned (.slice (some ⟨g, 0, none⟩) (0 + n) cap)) w' := by
  rw [Nat.zero_add, List.nil_append] at hown
  obtain ⟨h1, h2⟩ := ERow.of_owns hown hn
  refine ⟨some g, cap, by rw [Nat.zero_add, hn]; rfl, h1.1, h1.2.1, ⟨h2, h1⟩, ?_⟩
  have hb := below_alloc w ob
  exact ⟨hgr.os.trans hb.os, hgr.tape.trans hb.tape, hgr.output.trans hb.output, Nat.le_trans hb.size hgr.size, fun k hk => (hgr.block k (Nat.lt_of_lt_of_le hk hb.size) (fun e => by simp [Value.ownBlock] at e; omega)).trans (hb.block k hk)⟩

end Go.Proofs.YtlnlehoekchdeaaGreat.dn
end
section
namespace Go.Proofs.YtlnlehoekchdeaaGreat.dn
open Go.RowKit Go.Shelf
set_option linter.unusedVariables false


/-- What holds of every directory's entries. -/
structure Fine (L : List En) : Prop where
  sorted : Sorted L
  good : ∀ e ∈ L, nerr e.1.data.toList = 0 ∧ 1 ≤ e.2
theorem Fine.nil : Fine [] := ⟨List.Pairwise.nil, by simp⟩
theorem Fine.set {L : List En} (h : Fine L) (s : ByteArray) (v : Int) : Fine (lsetE s v L) := by
  unfold lsetE
  split
  · rename_i h0
    refine ⟨lset_sorted h.sorted, fun e he => ?_⟩
    rcases (lset_mem h.sorted e).1 he with rfl | ⟨he, _⟩
    · unfold serr at h0
      by_cases hn : nerr s.data.toList = 0
      · rw [if_neg (by simpa using hn)] at h0
        split at h0
        · cases h0
        · rename_i hd
          refine ⟨hn, ?_⟩
          show 1 ≤ v
          have : ¬ v < 1 := fun e => hd (.inr e)
          omega
      · rw [if_pos hn] at h0; exact absurd h0 hn
    · exact h.good e he
  · exact h
theorem Fine.del {L : List En} (h : Fine L) (s : ByteArray) : Fine (ldel s L) := ⟨ldel_sorted h.sorted, fun e he => h.good e ((ldel_mem e).1 he).1⟩
theorem lsetE_length (s : ByteArray) (v : Int) (L : List En) : (lsetE s v L).length ≤ L.length + 1 := by
  unfold lsetE; split
  · exact lset_length s v L
  · omega

/-- A directory that the call made behind w0; the blocks X are not its. -/
def DirX (w0 w : World) (D : Nat) (X : Nat → Prop) (L : List En) : Prop :=
  ∃ o c, Du w D w0.heap.size o c L ∧ w0.heap.size ≤ D ∧ Fine L ∧ Below w0.heap.size w0 w ∧ ∀ b, X b → b < w.heap.size ∧ b ≠ D ∧ o ≠ some b
def Same (X : Nat → Prop) (w w' : World) : Prop := ∀ b, X b → w'.heap[b]? = w.heap[b]?
abbrev No : Nat → Prop := fun _ => False
theorem DirX.bel {w0 w : World} {D : Nat} {X : Nat → Prop} {L : List En} (h : DirX w0 w D X L) : Below w0.heap.size w0 w := by obtain ⟨_, _, _, _, _, h, _⟩ := h; exact h
theorem DirX.fine {w0 w : World} {D : Nat} {X : Nat → Prop} {L : List En} (h : DirX w0 w D X L) : Fine L := by obtain ⟨_, _, _, _, h, _⟩ := h; exact h
theorem DirX.below {w0 w w' : World} {D : Nat} {X : Nat → Prop} {L : List En} (h : DirX w0 w D X L) (hb : Below w.heap.size w w') : DirX w0 w' D X L := by
  obtain ⟨o, c, h1, h2, h3, h4, h5⟩ := h
  exact ⟨o, c, h1.below hb, h2, h3, below_step h4 hb, fun b hx => ⟨Nat.lt_of_lt_of_le (h5 b hx).1 hb.size, (h5 b hx).2⟩⟩
theorem DirX.drew {w0 w : World} {D : Nat} {X : Nat → Prop} {L : List En} (h : DirX w0 w D X L) : DirX w0 w.drew D X L := h.below (Below.refl _ _).drew
theorem DirX.forget {w0 w : World} {D : Nat} {X : Nat → Prop} {L : List En} (h : DirX w0 w D X L) : DirX w0 w D No L := by
  obtain ⟨o, c, h1, h2, h3, h4, h5⟩ := h
  exact ⟨o, c, h1, h2, h3, h4, fun _ h => h.elim⟩
/-- What lies behind all that the directory has is not its. -/
theorem DirX.box {w0 w : World} {D : Nat} {X : Nat → Prop} {L : List En} (h : DirX w0 w D X L) (ob : Obj) : DirX w0 (w.alloc ob) D (fun b => X b ∨ b = w.heap.size) L := by
  have h' := h.below (below_alloc w ob)
  obtain ⟨o, c, h1, h2, h3, h4, h5⟩ := h
  refine ⟨o, c, h1.below (below_alloc w ob), h2, h3, h'.bel, fun b hx => ?_⟩
  rcases hx with hx | rfl
  · exact ⟨by have := (h5 b hx).1; simp; omega, (h5 b hx).2⟩
  · have := h1.lt
    exact ⟨by simp, by omega, fun e => by have := (h1.glt _ e).1; omega⟩
theorem DirX.over {w0 w w' : World} {D : Nat} {X : Nat → Prop} {L : List En} (h : DirX w0 w D X L) (hb : Below w.heap.size w w') : DirX w0 w' D (fun b => X b ∨ (w.heap.size ≤ b ∧ b < w'.heap.size)) L := by
  have h' := h.below hb
  obtain ⟨o, c, h1, h2, h3, h4, h5⟩ := h
  refine ⟨o, c, h1.below hb, h2, h3, h'.bel, fun b hx => ?_⟩
  rcases hx with hx | ⟨h6, h7⟩
  · exact ⟨Nat.lt_of_lt_of_le (h5 b hx).1 hb.size, (h5 b hx).2⟩
  · have := h1.lt
    exact ⟨h7, by omega, fun e => by have := (h1.glt _ e).1; omega⟩
theorem DirX.dlt {w0 w : World} {D : Nat} {X : Nat → Prop} {L : List En} (h : DirX w0 w D X L) : D < w.heap.size ∧ w0.heap.size ≤ D := by obtain ⟨_, _, h, h2, _⟩ := h; exact ⟨h.lt, h2⟩
theorem DirX.step {w0 w w' : World} {D c : Nat} {o : Option Nat} {X : Nat → Prop} {L K : List En} {v : Value} {e : Ending} (h : Du w D w0.heap.size o c L ∧ w0.heap.size ≤ D ∧ Below w0.heap.size w0 w ∧ ∀ b, X b → b < w.heap.size ∧ b ≠ D ∧ o ≠ some b)
    (hK : Fine K) (hs : StepE w D w0.heap.size o v K e w') : e = .returned v ∧ DirX w0 w' D X K ∧ Same X w w' := by
  obtain ⟨h1, h2, h4, h5⟩ := h
  obtain ⟨he, o', c', hd, ho, hf⟩ := hs
  refine ⟨he, ⟨o', c', hd, h2, hK, ?_, fun b hx => ?_⟩, fun b hx => hf.block b (h5 b hx).1 (h5 b hx).2.1 (h5 b hx).2.2⟩
  · exact h4.trans ⟨hf.os, hf.tape, hf.output, hf.size, fun k hk => hf.block k (by have := h4.size; omega) (by omega) (fun e => by have := (h1.glt k e).2.1; omega)⟩
  · obtain ⟨b1, b2, b3⟩ := h5 b hx
    refine ⟨Nat.lt_of_lt_of_le b1 hf.size, b2, fun e => ?_⟩
    rcases ho b e with e | e
    · exact b3 e
    · omega

set_option maxRecDepth 100000 in
theorem x_new {w0 w : World} (hb : Below w0.heap.size w0 w) : Calls Tryz.prog 82 #[] w (fun e w' => e = .returned (Pq w.heap.size) ∧ DirX w0 w' w.heap.size (fun b => b < w.heap.size) [] ∧ Below w.heap.size w w') :=
  (new_any w w0.heap.size hb.size).mono fun _ w' ⟨he, hd, hb'⟩ => ⟨he, ⟨none, 0, hd, hb.size, Fine.nil, below_step hb hb', fun b hx => ⟨Nat.lt_of_lt_of_le hx hb'.size, by omega, by simp⟩⟩, hb'⟩
set_option maxRecDepth 100000 in
theorem x_set {w0 w : World} {D : Nat} {X : Nat → Prop} {L : List En} (h : DirX w0 w D X L) (hN : L.length ≤ 900000) (s : ByteArray) (v : Int) (hm : s.size ≤ 9223372036854775807) :
    Calls Tryz.prog 48 #[Pq D, .string s, .int .i64 v] w (fun e w' => e = .returned (.int .i64 (serr s v)) ∧ DirX w0 w' D X (lsetE s v L) ∧ Same X w w') := by
  obtain ⟨o, c, h1, h2, h3, h4, h5⟩ := h
  exact (set_any D w0.heap.size c o L s v w hm h1 h4.size h3.sorted hN).mono fun _ _ hs => DirX.step ⟨h1, h2, h4, h5⟩ (h3.set s v) hs
set_option maxRecDepth 100000 in
theorem x_del {w0 w : World} {D : Nat} {X : Nat → Prop} {L : List En} (h : DirX w0 w D X L) (hN : L.length ≤ 900000) (s : ByteArray) :
    Calls Tryz.prog 67 #[Pq D, .string s] w (fun e w' => e = .returned (getV s L) ∧ DirX w0 w' D X (ldel s L) ∧ Same X w w') := by
  obtain ⟨o, c, h1, h2, h3, h4, h5⟩ := h
  exact (ddel_any D w0.heap.size c o L s w h1 h3.sorted (by omega)).mono fun _ _ hs => DirX.step ⟨h1, h2, h4, h5⟩ (h3.del s) hs
set_option maxRecDepth 100000 in
theorem x_get {w0 w : World} {D : Nat} {X : Nat → Prop} {L : List En} (h : DirX w0 w D X L) (hN : L.length ≤ 900000) (s : ByteArray) : Calls Tryz.prog 39 #[Pq D, .string s] w (RetV w (getV s L)) := by
  obtain ⟨o, c, h1, h2, h3, h4, h5⟩ := h
  exact get_any D w0.heap.size c o L s w h3.sorted (by omega) h1
set_option maxRecDepth 100000 in
theorem x_len {w0 w : World} {D : Nat} {X : Nat → Prop} {L : List En} (h : DirX w0 w D X L) : Calls Tryz.prog 62 #[Pq D] w (fun e w' => e = .returned (.int .i64 L.length) ∧ w' = w) := by
  obtain ⟨o, c, h1, h2, h3, h4, h5⟩ := h
  exact dlen_any D w0.heap.size c o L w h1
end Go.Proofs.YtlnlehoekchdeaaGreat.dn
end
section
namespace Go.Proofs.YtlnlehoekchdeaaGreat.bl
open Go.RowKit
set_option linter.unusedVariables false
set_option linter.unusedSimpArgs false


/-- What the loop holds at place p. -/
structure Mid (w wr : World) (S B M room used s p N : Nat) (b : AB) (f : Nat → UInt8) : Prop where
  c : BodC wr S B M b.size
  m : MapAt wr M (thW b s (s + p)) (over b.dat s p f) N
  t : StoC wr S room (used + N - b.n)
  o : Only (fp S B M) w wr
  n : b.n ≤ N
  r : used + N - b.n ≤ room
theorem Mid.num {w wr : World} {S B M room used s p N : Nat} {b : AB} {f : Nat → UInt8} (h : Mid w wr S B M room used s p N b f) (ok : b.Ok) (hs : s + p ≤ 65536) : N = cnt 4096 (thW b s (s + p)) :=
  h.m.cnt fun _ hx => thW_lt ok hs hx
theorem thW_n (b : AB) (s p : Nat) (f : Nat → UInt8) : (wrB b s p f).n = cnt 4096 (thW b s (s + p)) := rfl

theorem Mid.below {w wr w' : World} {S B M room used s p N : Nat} {b : AB} {f : Nat → UInt8} (h : Mid w wr S B M room used s p N b f) (hb : Below wr.heap.size wr w') : Mid w w' S B M room used s p N b f :=
  ⟨h.c.below (hb.block B (World.block_lt_of_cell? wr _ h.c.c0)), h.m.of_block (hb.block M h.m.lt), h.t.below (hb.block S (World.block_lt_of_cell? wr _ h.t.c0)), h.o.trans (Only.of_below hb), h.n, h.r⟩
theorem okW_step {wr : World} {M N : Nat} {b : AB} {used room s p m k : Nat} {f : Nat → UInt8} (ok : b.Ok) (hM : MapAt wr M (thW b s (s + p)) (over b.dat s p f) N) (hsp : s + p ≤ 65536)
    (h : ∀ q, q < p → okW b used room s q) (hk : (s + p) / 16 = k) (hm : s + p + m ≤ 16 * k + 16) (hp : used + N - b.n < room ∨ thW b s (s + p) k = true) : ∀ q, q < p + m → okW b used room s q := by
  intro q hq
  have hN := hM.cnt (N := 4096) fun _ hx => thW_lt ok hsp hx
  by_cases h1 : q < p
  · exact h q h1
  · by_cases h2 : q = p
    · subst h2
      unfold okW usedW
      rw [hk, ← hN]
      exact hp.symm
    · refine Or.inl ?_
      rw [show (s + q) / 16 = k from by omega]
      unfold thW
      have : s < s + q ∧ s < 16 * k + 16 ∧ 16 * k < s + q := by omega
      simp only [decide_eq_true this, Bool.or_true]
theorem okW_not {wr : World} {M N : Nat} {b : AB} {used room s p k : Nat} {f : Nat → UInt8} (ok : b.Ok) (hM : MapAt wr M (thW b s (s + p)) (over b.dat s p f) N) (hsp : s + p ≤ 65536)
    (hk : (s + p) / 16 = k) (ht : thW b s (s + p) k = false) (hu : ¬ used + N - b.n < room) : ¬ okW b used room s p := by
  have hN := hM.cnt (N := 4096) fun _ hx => thW_lt ok hsp hx
  unfold okW usedW
  rw [hk, ← hN]
  rintro (h | h)
  · rw [ht] at h; cases h
  · exact hu h
theorem fin0 {w W : World} {S B M room used s T N len : Nat} {b : AB} {off : Int} {f : Nat → UInt8} (hb : Bod w S B M b) (hs : StoC w S room used) (hur : b.n ≤ used ∧ used ≤ room ∧ room ≤ 65536) (hT : 0 < len ∧ T = min len (65536 - s)) (ho : off = (s : Int))
    (he : IsStop b used room s T 0) (hm : Mid w W S B M room used s 0 N b f) (hs3 : off < 65536 := by omega) : WriteE w S B M room used b off len f (.returned (.tuple #[.int .i64 0, .int .i64 28])) W := by
  subst ho
  have hw : wr b (s : Int) 0 f = b := wrB_zero _ _ _
  have hm2 : MapAt W M b.th b.dat N := hm.m.ext (fun x => (thW_self b s x).symm) (fun i => (over_self b.dat f s i).symm)
  have hbW : Bod W S B M b := Bod.of hm.c hm2 hb.ok
  have hN : N = b.n := hm2.cnt (N := 4096) fun k hk => by have h1 := hb.ok.th k hk; have h2 := hb.ok.size; omega
  have hmt := hm.t
  rw [hN] at hmt
  refine ⟨0, 28, rfl, Or.inr (Or.inr (Or.inr ⟨by omega, hs3, hT.1, ?_, rfl⟩)), by rw [hw]; omega, ?_⟩
  · rw [Int.toNat_natCast, ← hT.2]; exact he
  · rw [hw]
    exact ⟨hmt, hbW, hm.o⟩
theorem fin1 {w W : World} {S B M room used s T N len p : Nat} {b : AB} {off : Int} {f : Nat → UInt8} (hb : Bod w S B M b) (hne : S ≠ B ∧ S ≠ M ∧ B ≠ M) (hur : b.n ≤ used ∧ used ≤ room ∧ room ≤ 65536) (hT : 0 < len ∧ T = min len (65536 - s)) (ho : off = (s : Int))
    (hT2 : s + T ≤ 65536) (he : IsStop b used room s T p) (hm : Mid w W S B M room used s p N b f) (hp : ¬ p = 0) (hs3 : off < 65536 := by omega) :
    (b.size ≤ s + p → WriteE w S B M room used b off len f (.returned (.tuple #[.int .i64 (p : Int), .int .i64 0])) (W.setCell ⟨B, 1, none⟩ (.int .i64 (off + (p : Int))))) ∧
    (s + p ≤ b.size → WriteE w S B M room used b off len f (.returned (.tuple #[.int .i64 (p : Int), .int .i64 0])) (W.setCell ⟨B, 1, none⟩ (.int .i64 (b.size : Int)))) := by
  subst ho
  have hle := he.le
  have hN := hm.num hb.ok (by omega)
  have hwn : (wrB b s p f).n = N := by rw [thW_n, hN]
  have main : ∀ u : Nat, u = max b.size (s + p) → WriteE w S B M room used b (s : Int) len f (.returned (.tuple #[.int .i64 (p : Int), .int .i64 0])) (W.setCell ⟨B, 1, none⟩ (.int .i64 (u : Int))) := by
    intro u hu
    have hw : wr b (s : Int) p f = wrB b s p f := by unfold wr; rw [Int.toNat_natCast]
    have hsz : (wrB b s p f).size = u := by unfold wrB; dsimp only; rw [if_neg hp, hu]
    refine ⟨p, 0, rfl, Or.inr (Or.inr (Or.inr ⟨by omega, hs3, hT.1, ?_, by rw [if_neg hp]⟩)), ?_, ?_⟩
    · rw [Int.toNat_natCast, ← hT.2]; exact he
    · rw [hw, hwn]; exact hm.r
    · rw [hw]
      refine ⟨?_, Bod.of (N := N) ?_ ?_ (wrB_ok hb.ok (by omega) f), hm.o.setCell (Or.inr (Or.inl rfl)) _⟩
      · rw [hwn]; exact hm.t.below (set_block hne.1)
      · rw [hsz]; exact hm.c.set u
      · exact hm.m.of_block (set_block fun e => hne.2.2 e.symm)
  refine ⟨fun h => ?_, fun h => main b.size (by omega)⟩
  have := main (s + p) (by omega)
  rw [show ((s + p : Nat) : Int) = (s : Int) + (p : Int) from by omega] at this
  exact this

end Go.Proofs.YtlnlehoekchdeaaGreat.bl
end
section
namespace Go.Proofs.YtlnlehoekchdeaaGreat.bl
open Go.RowKit
set_option linter.unusedVariables false
set_option linter.unusedSimpArgs false



end Go.Proofs.YtlnlehoekchdeaaGreat.bl
end
section
namespace Go.Proofs.YtlnlehoekchdeaaGreat.bl
open Go.RowKit
set_option linter.unusedVariables false
set_option linter.unusedSimpArgs false


def holesL (c : Nat) (th : Nat → Bool) : List Nat := (List.range c).filter fun k => !th k
def Iv (k : Nat) : Value := .int .i64 (k : Int)
theorem holesL_yes {k : Nat} {th : Nat → Bool} (h : th k = true) : holesL (k + 1) th = holesL k th := by unfold holesL; rw [List.range_succ, List.filter_append]; simp [h]
theorem holesL_no {k : Nat} {th : Nat → Bool} (h : th k = false) : holesL (k + 1) th = holesL k th ++ [k] := by unfold holesL; rw [List.range_succ, List.filter_append]; simp [h]
theorem holesL_le (k : Nat) (th : Nat → Bool) : (holesL k th).length ≤ k := by
  unfold holesL
  refine Nat.le_trans (List.length_filter_le _ _) (by simp)
def HolesE (w : World) (L : List Nat) (e : Ending) (w' : World) : Prop := ∃ v, e = .returned v ∧ w'.ownsRow w.heap.size 3 1 v L.length (L.map Iv) ∧ Below w.heap.size w w'
theorem own_slice {w : World} {b e sz n : Nat} {v : Value} {L : List Value} (h : w.ownsRow b e sz v n L) : ∃ A c, v = .slice A n c := by
  rcases h.2 with ⟨h1, h2⟩ | ⟨g, cap, cur, h1, _⟩
  · exact ⟨none, 0, by rw [h1, h2]⟩
  · exact ⟨_, cap, h1⟩
theorem cell_new1 (w : World) (v : Value) (t : TypeId) : ∀ j u, [v][j]? = some u → (w.alloc (.cells #[v] t)).cell? ((⟨w.heap.size, 0, none⟩ : Addr).add j) = some u := by
  intro j u hj
  rcases j with _ | j
  · simp at hj
    subst hj
    simp [Addr.add]
  · simp at hj
theorem cell_new2 (w : World) (o : Obj) (v : Value) (t : TypeId) : ∀ j u, [v][j]? = some u → ((w.alloc o).alloc (.cells #[v] t)).cell? ((⟨w.heap.size + 1, 0, none⟩ : Addr).add j) = some u := by
  have h := cell_new1 (w.alloc o) v t
  rw [show (w.alloc o).heap.size = w.heap.size + 1 from by simp] at h
  exact h
end Go.Proofs.YtlnlehoekchdeaaGreat.bl
end
