/- Part 5 of what is known of the program's functions and of the document's words: contracts, and the mathematics beneath them. -/
import Derived.Test.YtpmpbmjjlccbbaaGreatProg
import Derived.Test.YtpmpbmjjlccbbaaGreatZ04
import Derived.Laws.Cover3
set_option linter.unusedVariables false
set_option linter.unusedSimpArgs false
set_option maxRecDepth 100000
set_option maxHeartbeats 8000000
namespace Go.Proofs.YtpmpbmjjlccbbaaGreat.dn
open Go.RowKit Go.Shelf
theorem set_name (D lo c : Nat) (o : Option Nat) (L : List En) (s : ByteArray) (v : Int) (w : World) (hm : s.size ≤ 9223372036854775807) (h : Du w D lo o c L) (he : nerr s.data.toList ≠ 0) :
  Calls Tryz.prog 174 #[Pq D, .string s, .int .i64 v] w (StepE w D lo o (.int .i64 (nerr s.data.toList)) L) := by
 have HN := Lib.hid (name_any s w hm)
 unfold NameE at HN
 have HF := Lib.hid (fun w' hb => stepE_same (v := .int .i64 (nerr s.data.toList)) (w' := w') h hb)
 generalize nerr s.data.toList = r at *
 have hr : (r != 0) = true := by simpa using he
 have hr2 : (r == 0) = false := by simpa using he
 clear h he
 go_enter Tryz.func174, Tryz.ntmps174
 go_wp2_with fail
 refine HN.out.mono ?_
 rintro e w2 ⟨rfl, hb2⟩
 go_wp2_with fail
 go_ret
 exact HF.out _ hb2
theorem Du.frozen {w : World} {D lo c G : Nat} {o : Option Nat} {L : List En} (h : Du w D lo o c L) (ho : o = some G) (k : Nat) : w.frozen? ⟨G, k, none⟩ = false := by subst ho; exact h.row.2.2.frozen k
theorem set_dot (D lo c : Nat) (o : Option Nat) (L : List En) (s : ByteArray) (v : Int) (w : World) (hm : s.size ≤ 9223372036854775807) (h : Du w D lo o c L) (he : nerr s.data.toList = 0) (hd : dotB s = true ∨ v < 1) :
  Calls Tryz.prog 174 #[Pq D, .string s, .int .i64 v] w (StepE w D lo o (.int .i64 22) L) := by
 have HN := Lib.hid (name_any s w hm)
 unfold NameE at HN
 rw [he] at HN
 have HF := Lib.hid (fun w' hb => stepE_same (v := .int .i64 22) (w' := w') h hb)
 unfold dotB at hd
 have hq1 : ∃ a, (s.toList == [46]) = a := ⟨_, rfl⟩
 have hq2 : ∃ a, (s.toList == [46, 46]) = a := ⟨_, rfl⟩
 obtain ⟨q1, h1⟩ := hq1
 obtain ⟨q2, h2⟩ := hq2
 rw [h1, h2] at hd
 clear h he
 have hd' : q1 = true ∨ (q1 = false ∧ q2 = true) ∨ (q1 = false ∧ q2 = false ∧ v < 1) := by
  cases q1 <;> cases q2 <;> simp at hd ⊢ <;> exact hd
 clear hd
 rcases hd' with rfl | ⟨rfl, rfl⟩ | ⟨rfl, rfl, hv⟩
 all_goals
  go_enter Tryz.func174, Tryz.ntmps174
  go_wp2_with fail
  refine HN.out.mono ?_
  rintro e w2 ⟨rfl, hb2⟩
  go_wp2_with fail
  go_ret
  exact HF.out _ hb2
theorem Du.old {w w2 : World} {D lo c : Nat} {o : Option Nat} {L : List En} {s : ByteArray} {x : En} {v : Int} {G : Nat} (h : Du w2 D lo (some G) c L) (hx : L[pos s L]? = some x) (hs : x.1 = s) (hb : Below w.heap.size w w2) (hD : D < w.heap.size) (ho : o = some G) :
  StepE w D lo o (.int .i64 0) (lset s v L) (.returned (.int .i64 0)) (w2.setCell ⟨G, pos s L * 2 + 1, none⟩ (.int .i64 v)) := by
 subst ho
 rw [lset_old hx hs]
 have hr := h.row.2.2.setNum hx v
 rw [hs] at hr
 refine ⟨rfl, some G, c, ⟨?_, by simpa using h.f0, h.row.1, h.row.2.1, hr⟩, fun G e => .inl e, ?_⟩
 ·rw [World.cell?_setCell_other _ _ _ _ (fun e => h.row.2.1 (by have := congrArg Addr.block e; simpa using this.symm)), List.length_set]; exact h.d0
 ·exact (Fr.below hb).trans (Fr.grown (grownBy_set w2 G _ _)) (fun k e => .inl e)
theorem set_old (D lo c : Nat) (o : Option Nat) (L : List En) (s : ByteArray) (v : Int) (w : World) (hm : s.size ≤ 9223372036854775807) (h : Du w D lo o c L) (hs : Sorted L) (hN : L.length ≤ 1000000) (he : nerr s.data.toList = 0) (hd : dotB s = false) (hv : ¬ v < 1) (ht : thereB s L = true) :
  Calls Tryz.prog 174 #[Pq D, .string s, .int .i64 v] w (StepE w D lo o (.int .i64 0) (lset s v L)) := by
 have HNA := Lib.hid (name_any s w hm)
 unfold NameE at HNA
 rw [he] at HNA
 have HP := Lib.hid (fun W (hb : Below w.heap.size w W) => place_any D lo c o L s W hs hN (h.below hb))
 unfold PlaceE at HP
 rw [ht] at HP
 obtain ⟨x, hx, hxs, hl⟩ := there_yes hs ht
 have hk := (List.getElem?_eq_some_iff.1 hx).1
 have HX := Lib.hid (fun W (hb : Below w.heap.size w W) => (h.below hb).at_ hx)
 have HD := Lib.hid (fun W (hb : Below w.heap.size w W) => (h.below hb))
 have HF := Lib.hid (fun W G (hb : Below w.heap.size w W) (ho : o = some G) => Du.old (w := w) (v := v) (o := o) (by rw [← ho]; exact h.below hb) hx hxs hb h.lt ho)
 have hq : (s.toList == [46]) = false ∧ (s.toList == [46, 46]) = false := by simpa [dotB] using hd
 obtain ⟨h1, h2⟩ := hq
 have HFZ := Lib.hid (fun W (hb : Below w.heap.size w W) G (ho : o = some G) k => (h.below hb).frozen ho k)
 have HD0 := Lib.hid (fun W (hb : Below w.heap.size w W) => (h.below hb).d0)
 generalize pos s L = k at *
 generalize lset s v L = K at *
 generalize L.length = n at *
 clear h hs he hd ht hx hxs hl
 go_enter Tryz.func174, Tryz.ntmps174
 go_wp2_with fail
 refine HNA.out.mono ?_
 rintro e w2 ⟨rfl, hb2⟩
 have HP2 := Lib.hid (HP.out _ hb2)
 have HB2 := Lib.hid hb2
 clear hb2 HP HNA
 go_wp2_with fail
 refine HP2.out.mono ?_
 rintro e w3 ⟨rfl, hb3⟩
 have hb4 := below_step HB2.out hb3
 obtain ⟨G, ho, f0, f1⟩ := HX.out w3 hb4
 have d0 := HD0.out w3 hb4
 have z0 := HFZ.out w3 hb4 G ho (k * 2 + 1)
 have HR := Lib.hid (HF.out w3 G hb4 ho)
 rw [ho] at d0
 clear HP2 hb3 hb4 HX HD HFZ HD0 HF f0
 go_wp2_with fail
 go_ret
 exact HR.out
theorem Du.sl {w : World} {D lo c : Nat} {o : Option Nat} {L : List En} (h : Du w D lo o c L) : Sl w lo o c L := by
 cases o with
 | none => exact h.row
 | some G => exact ⟨h.row.1, h.row.2.2⟩
theorem lset_len {s : ByteArray} {v : Int} {L : List En} (h : ∀ x, L[pos s L]? = some x → x.1 ≠ s) : (lset s v L).length = L.length + 1 := by
 rw [lset_new h]; simp; have := pos_le s L; omega
theorem Du.stored {w W w4 : World} {D lo c : Nat} {o : Option Nat} {L K : List En} {n : Nat} {e : Ending} {vv : Value} (h : Du w D lo o c L) (hb : Below w.heap.size w W) (hK : K.length = n + 1) (hi : InsE W lo o n K e w4) :
  w4.cell? ⟨D, 0, none⟩ = some (.slice (Ao o) L.length c) ∧ w4.frozen? ⟨D, 0, none⟩ = false ∧ ∃ G c', e = .returned (.slice (some ⟨G, 0, none⟩) (n + 1) c') ∧
   StepE w D lo o vv K (.returned vv) (w4.setCell ⟨D, 0, none⟩ (.slice (some ⟨G, 0, none⟩) (n + 1) c')) := by
 obtain ⟨G, c', he, hr, hlo, hat, hg⟩ := hi
 have hD := h.lt
 have hDW : D < W.heap.size := Nat.lt_of_lt_of_le hD hb.size
 have hne : some D ≠ o := fun e => (h.glt D e.symm).2.2 rfl
 have hblk : w4.heap[D]? = w.heap[D]? := (hg.block D hDW hne).trans (hb.block D hD)
 have c0 := (World.cell?_of_block (a := ⟨D, 0, none⟩) hblk).trans h.d0
 have c1 := (World.frozen?_of_block (a := ⟨D, 0, none⟩) hblk).trans h.f0
 have hDG : D ≠ G := by
  rcases hat with e | e
  ·exact (h.glt G e).2.2
  ·omega
 refine ⟨c0, c1, G, c', he, rfl, some G, c', ⟨?_, by simpa using c1, hlo, hDG, hr.of_block (Below.heap_setCell _ _ _ _ (fun e => hDG (by simpa using e.symm)))⟩, fun G' e => ?_, ?_⟩
 ·rw [World.cell?_setCell_same _ _ _ c0, hK]; rfl
 ·injection e with e; subst e; exact hat.imp id (fun e => Nat.le_trans hb.size e)
 ·exact ((Fr.below hb).trans (Fr.grown (Q := D) hg) (fun k e => .inl e)).trans (Fr.setQ w4 D o _) (fun k e => .inl e)
theorem set_new (D lo c : Nat) (o : Option Nat) (L : List En) (s : ByteArray) (v : Int) (w : World) (hm : s.size ≤ 9223372036854775807) (h : Du w D lo o c L) (hlo : lo ≤ w.heap.size) (hs : Sorted L) (hN : L.length ≤ 900000) (he : nerr s.data.toList = 0) (hd : dotB s = false) (hv : ¬ v < 1) (ht : thereB s L = false) :
  Calls Tryz.prog 174 #[Pq D, .string s, .int .i64 v] w (StepE w D lo o (.int .i64 0) (lset s v L)) := by
 have HNA := Lib.hid (name_any s w hm)
 unfold NameE at HNA
 rw [he] at HNA
 have HP := Lib.hid (fun W (hb : Below w.heap.size w W) => place_any D lo c o L s W hs (by omega) (h.below hb))
 unfold PlaceE at HP
 rw [ht] at HP
 obtain ⟨hl, hno⟩ := there_no hs ht
 have HD0 := Lib.hid (fun W (hb : Below w.heap.size w W) => (h.below hb).d0)
 have HI := Lib.hid (fun W (hb : Below w.heap.size w W) => ins_any c lo (pos s L) W.heap.size 1 o L (s, v) (W.alloc (.cells #[.string s, .int .i64 v] 113)) (pos_le s L) (by omega) (by simp; have := hb.size; omega)
  ((h.below (below_step hb (below_alloc W _))).sl) (heap_alloc_new W _) (fun e => by have := (h.glt _ e).1; have := hb.size; omega))
 rw [← lset_new hno] at HI
 have HST := Lib.hid (fun W w4 e (hb : Below w.heap.size w W) hi => Du.stored (W := W) (w4 := w4) (e := e) (n := L.length) (vv := .int .i64 0) h hb (lset_len (v := v) hno) hi)
 have hq : (s.toList == [46]) = false ∧ (s.toList == [46, 46]) = false := by simpa [dotB] using hd
 obtain ⟨h1, h2⟩ := hq
 generalize pos s L = k at *
 generalize lset s v L = K at *
 generalize L.length = n at *
 clear h hs he hd ht hl hno
 go_enter Tryz.func174, Tryz.ntmps174
 go_wp2_with fail
 refine HNA.out.mono ?_
 rintro e w2 ⟨rfl, hb2⟩
 have HP2 := Lib.hid (HP.out _ hb2)
 have HB2 := Lib.hid hb2
 clear hb2 HP HNA
 go_wp2_with fail
 refine HP2.out.mono ?_
 rintro e w3 ⟨rfl, hb3⟩
 have hb4 := below_step HB2.out hb3
 have d0 := HD0.out w3 hb4
 have HI3 := Lib.hid (HI.out w3 hb4)
 have HST3 := Lib.hid (fun w4 e hi => HST.out (w3.alloc (.cells #[.string s, .int .i64 v] 113)) w4 e (below_step hb4 (below_alloc w3 _)) hi)
 clear HP2 hb3 hb4 HD0 HI HST
 go_wp2_with fail
 refine HI3.out.mono ?_
 intro e w4 hi
 obtain ⟨c0, c1, G, c', rfl, hst⟩ := HST3.out w4 e hi
 have HR := Lib.hid hst
 clear hi hst HI3 HST3 d0
 go_wp2_with fail
 go_ret
 exact HR.out
theorem set_any (D lo c : Nat) (o : Option Nat) (L : List En) (s : ByteArray) (v : Int) (w : World) (hm : s.size ≤ 9223372036854775807) (h : Du w D lo o c L) (hlo : lo ≤ w.heap.size) (hs : Sorted L) (hN : L.length ≤ 900000) :
  Calls Tryz.prog 174 #[Pq D, .string s, .int .i64 v] w (StepE w D lo o (.int .i64 (serr s v)) (lsetE s v L)) := by
 unfold lsetE serr
 by_cases he : nerr s.data.toList = 0
 ·rw [if_neg (by simpa using he)]
  by_cases hd : dotB s = true ∨ v < 1
  ·rw [if_pos hd, if_neg (by decide)]
   exact set_dot D lo c o L s v w hm h he hd
  ·rw [if_neg hd, if_pos rfl]
   have hd1 : dotB s = false := by simpa using fun e => hd (.inl e)
   have hv : ¬ v < 1 := fun e => hd (.inr e)
   cases ht : thereB s L
   ·exact set_new D lo c o L s v w hm h hlo hs hN he hd1 hv ht
   ·exact set_old D lo c o L s v w hm h hs (by omega) he hd1 hv ht
 ·rw [if_pos (by simpa using he), if_neg he]
  exact set_name D lo c o L s v w hm h he
theorem ERow.spoil {w : World} {G c o : Nat} {K : List En} {vs : List Value} (h : ERow w G c K) (ho : K.length * 2 ≤ o) (hfit : o + vs.length ≤ c * 2) (h1 : ∀ v ∈ vs, v.oneCell' = true) : ERow (w.setCells G o vs) G c K :=
 h.sets hfit h1 h.1 fun X hl ht => by
  rw [List.append_assoc, List.take_append_of_le_length (by rw [List.length_take]; omega), List.take_take, Nat.min_eq_left ho, ht]
theorem run_clear2 (w : World) (G o n : Nat) (hn : 0 < n) (hc : ∀ j, j < n * 2 → (w.cell? ⟨G, o + j, none⟩).isSome = true) (hf : ∀ j, w.frozen? ⟨G, j, none⟩ = false) :
  ∃ vs, vs.length = n * 2 ∧ (∀ v ∈ vs, v.oneCell' = true) ∧ ∀ ty c, (Builtin.clear_ #[84] ty #[.slice (some ⟨G, o, none⟩) n c]).run Tryz.prog w = .ok (.tuple #[]) (w.setCells G o vs) := by
 have hz : (Ev (⟨#[]⟩, 0)).cells = #[.string ⟨#[]⟩, .int .i64 0] := rfl
 have hmem : ∀ v ∈ (Builtin.zeroCells (Ev (⟨#[]⟩, 0)).cells n).toList, v.oneCell' = true := by
  intro v hv
  rw [hz] at hv
  simp only [Builtin.zeroCells, Array.toList_map, List.mem_map] at hv
  obtain ⟨i, _, rfl⟩ := hv
  have : i % 2 = 0 ∨ i % 2 = 1 := by omega
  rcases this with e | e <;> simp [e] <;> rfl
 have hlen : (Builtin.zeroCells (Ev (⟨#[]⟩, 0)).cells n).toList.length = n * 2 := by rw [hz]; simp [Builtin.zeroCells]
 have hst := run_storeCells_cells (P := Tryz.prog) G o (Builtin.zeroCells (Ev (⟨#[]⟩, 0)).cells n).toList 0 w (fun j hj => by rw [Nat.add_zero]; exact hc j (by omega)) (fun j hj => hf _) hmem
 rw [Nat.add_zero] at hst
 refine ⟨(Builtin.zeroCells (Ev (⟨#[]⟩, 0)).cells n).toList, hlen, hmem, fun ty c => ?_⟩
 have zero37 : ∀ w : World, (zeroValue 113).run Tryz.prog w = .ok (Ev (⟨#[]⟩, 0)) w := fun w => by kernel_rfl
 obtain ⟨m, rfl⟩ : ∃ m, n = m + 1 := ⟨n - 1, by omega⟩
 simp [Builtin.clear_, run_underlying Tryz.underlying84, zero37, hst]
def DelE (w : World) (G c : Nat) (K : List En) (e : Ending) (w' : World) : Prop := e = .returned (.slice (some ⟨G, 0, none⟩) K.length c) ∧ ERow w' G c K ∧ w.grownBy w' (some G)
theorem erase_row {w : World} {G c i : Nat} {L : List En} (h : ERow w G c L) (hi : i < L.length) : ERow (w.setCells G (i * 2) (encL (L.drop (i + 1)))) G c (L.eraseIdx i) := by
 have h1 := h.1
 have hl2 : (encL (L.drop (i + 1))).length = (L.length - (i + 1)) * 2 := by rw [encL_length, List.length_drop]
 refine h.sets (by rw [hl2]; omega) (encL_one _) (by rw [List.length_eraseIdx]; split <;> omega) fun X hl ht => ?_
 rw [List.length_eraseIdx, if_pos hi, List.eraseIdx_eq_take_drop_succ, encL_append, ← encL_take, ← ht, List.take_take, Nat.min_eq_left (by omega), List.take_append_of_le_length, List.take_of_length_le]
 ·rw [List.length_append, List.length_take, hl2]; omega
 ·rw [List.length_append, List.length_take, hl2]; omega
theorem del_any (G c i : Nat) (L : List En) (w : World) (hi : i < L.length) (hN : L.length ≤ 1000000) (h : ERow w G c L) :
  Calls Tryz.prog 205 #[.slice (some ⟨G, 0, none⟩) L.length c, .int .i64 i, .int .i64 ((i : Int) + 1)] w (DelE w G c (L.eraseIdx i)) := by
 obtain ⟨i0, hi0, hz0, hz1, hz2⟩ := info_parts info37
 have hc63 : c ≤ 9223372036854775807 := h.2.1
 have hlc := h.1
 have hdl : (encL (L.drop (i + 1))).length = (L.length - (i + 1)) * 2 := by rw [encL_length, List.length_drop]
 have hE := Lib.hid (erase_row (w := w.drew) (h.of_block rfl) hi)
 have hEl : (L.eraseIdx i).length = L.length - 1 := by rw [List.length_eraseIdx, if_pos hi]
 have hg : w.grownBy (w.drew.setCells G (i * 2) (encL (L.drop (i + 1)))) (some G) := grownBy_trans (grownBy_drew _ _) (grownBy_sets _ _ _ _)
 have HSRC := Lib.hid (fun (hc : c ≠ i + 1) => (show ∀ j u, (encL (L.drop (i + 1)))[j]? = some u → w.drew.cell? ((⟨G, (i + 1) * 2, none⟩ : Addr).add j) = some u from fun j u hj => by
  rw [Addr.add_lit]; exact h.cells (by rw [← encL_drop, List.getElem?_drop] at hj; exact hj)))
 have HNIL := Lib.hid (fun (hc : c = i + 1) => (show ∀ j u, (encL (L.drop (i + 1)))[j]? = some u → w.drew.cell? ((⟨G, 0, none⟩ : Addr).add j) = some u from fun j u hj => by
  rw [List.drop_eq_nil_of_le (by omega)] at hj; simp [encL] at hj))
 have HSP := Lib.hid (fun j (hj : j < (encL (L.drop (i + 1))).length) => (⟨h.some_ (by rw [hdl] at hj; omega), h.frozen _⟩ : (w.drew.cell? ⟨G, 0 + i * 2 + j, none⟩).isSome = true ∧ w.drew.frozen? ⟨G, 0 + i * 2 + j, none⟩ = false))
 have H1 := Lib.hid (encL_one (L.drop (i + 1)))
 obtain ⟨W2, hW2⟩ : ∃ W2, W2 = w.drew.setCells G (i * 2) (encL (L.drop (i + 1))) := ⟨_, rfl⟩
 rw [← hW2] at hE hg
 obtain ⟨vs, hvl, hv1, hcl⟩ := run_clear2 W2 G ((L.length - 1) * 2) 1 (by omega) (fun j hj => hE.out.some_ (by omega)) hE.out.frozen
 have HF := Lib.hid (show DelE w G c (L.eraseIdx i) (.returned (.slice (some ⟨G, 0, none⟩) (L.length - 1) c)) (W2.setCells G ((L.length - 1) * 2) vs) from
  ⟨by rw [hEl], hE.out.spoil (by rw [hEl]; exact Nat.le_refl _) (by rw [hvl]; omega) hv1, grownBy_trans hg (grownBy_sets _ _ _ _)⟩)
 have HDL := Lib.hid hdl
 have HW := Lib.hid hW2
 generalize L.eraseIdx i = K at *
 generalize encL (L.drop (i + 1)) = cx at *
 generalize hn : L.length = n at *
 have hii : ((i : Int) == (i : Int) + 1) = false := by rw [beq_eq_false_iff_ne]; omega
 have hii2 : ¬ ((i : Int) = (i : Int) + 1) := by omega
 have htn : ((i : Int) + 1).toNat = i + 1 := by omega
 have hb1 : (i : Int) + 1 ≤ (n : Int) := by omega
 have hb2 : (i : Int) + 1 ≤ (c : Int) := by omega
 clear hn h hE hg hvl hv1 hEl hdl hW2 hz0
 have hic : i ≤ c := by omega
 have hii4 : (0 : Int) ≤ (i : Int) + 1 := by omega
 have hii3 : (i : Int) ≤ (i : Int) + 1 := by omega
 by_cases hce : c = i + 1
 ·have HS := Lib.hid (HNIL.out hce)
  clear HSRC HNIL
  subst hce
  obtain rfl : n = i + 1 := by omega
  rw [show i + 1 - 1 = i from rfl] at HF hcl
  have hw0 := Lib.hid (show w.drew = W2 by rw [HW.out, List.eq_nil_of_length_eq_zero (show cx.length = 0 by have := HDL.out; omega)]; rfl)
  go_enter Tryz.func205, Tryz.ntmps205
  go_wp2_with fail
  go_region
  rw [hw0.out]
  go_wp2_with fail
  go_ret
  exact HF.out
 ·have HS := Lib.hid (HSRC.out hce)
  clear HSRC HNIL
  obtain ⟨m, rfl⟩ : ∃ m, n = m + 1 := ⟨n - 1, by omega⟩
  rw [show m + 1 - 1 = m from rfl] at HF hcl
  have hcx := Lib.hid (show cx.length = (m - i) * 2 by have := HDL.out; omega)
  have him : i ≤ m := by omega
  have hmc : m ≤ c := by omega
  have hmc2 : m ≠ c := by omega
  go_enter Tryz.func205, Tryz.ntmps205
  go_wp2_with fail
  go_region_law (refine step_append_room rfl _ _ 84 rfl 113 i0 2 Tryz.underlying84 hi0 hz1 G 0 i c (by simp [Act.eval, Act.put]) ⟨G, (i + 1) * 2, none⟩ (m - i) (c - (i + 1)) cx (by simp [Act.eval, Act.put]) hcx.out HS.out H1.out (by omega) HSP.out ?_)
  rw [← HW.out]
  go_wp2_with fail
  go_ret
  exact HF.out
theorem Du.cut {w W w4 : World} {D lo c G : Nat} {o : Option Nat} {L K : List En} {e : Ending} {vv : Value} (h : Du w D lo o c L) (ho : o = some G) (hb : Below w.heap.size w W) (hi : DelE W G c K e w4) :
  w4.cell? ⟨D, 0, none⟩ = some (.slice (Ao o) L.length c) ∧ w4.frozen? ⟨D, 0, none⟩ = false ∧ e = .returned (.slice (some ⟨G, 0, none⟩) K.length c) ∧
   StepE w D lo o vv K (.returned vv) (w4.setCell ⟨D, 0, none⟩ (.slice (some ⟨G, 0, none⟩) K.length c)) := by
 subst ho
 obtain ⟨he, hr, hg⟩ := hi
 have hD := h.lt
 have hDW : D < W.heap.size := Nat.lt_of_lt_of_le hD hb.size
 have hDG : D ≠ G := h.row.2.1
 have hne : some D ≠ some G := fun e => hDG (by injection e)
 have hblk : w4.heap[D]? = w.heap[D]? := (hg.block D hDW hne).trans (hb.block D hD)
 have c0 := (World.cell?_of_block (a := ⟨D, 0, none⟩) hblk).trans h.d0
 have c1 := (World.frozen?_of_block (a := ⟨D, 0, none⟩) hblk).trans h.f0
 refine ⟨c0, c1, he, rfl, some G, c, ⟨?_, by simpa using c1, h.row.1, hDG, hr.of_block (Below.heap_setCell _ _ _ _ (fun e => hDG (by simpa using e.symm)))⟩, fun G' e => .inl e, ?_⟩
 ·rw [World.cell?_setCell_same _ _ _ c0]; rfl
 ·exact ((Fr.below hb).trans (Fr.grown (Q := D) hg) (fun k e => .inl e)).trans (Fr.setQ w4 D _ _) (fun k e => .inl e)
theorem ddel_any (D lo c : Nat) (o : Option Nat) (L : List En) (s : ByteArray) (w : World) (h : Du w D lo o c L) (hs : Sorted L) (hN : L.length ≤ 1000000) :
  Calls Tryz.prog 184 #[Pq D, .string s] w (StepE w D lo o (getV s L) (ldel s L)) := by
 have HP := Lib.hid (place_any D lo c o L s w hs hN h)
 unfold PlaceE at HP
 cases ht : thereB s L
 ·obtain ⟨hl, hno⟩ := there_no hs ht
  rw [ht] at HP
  have HF := Lib.hid (fun W (hb : Below w.heap.size w W) => (show StepE w D lo o (getV s L) (ldel s L) (.returned (.tuple #[.int .i64 0, .int .i64 2])) W by
   rw [ldel_no hl]; unfold getV; rw [hl]; exact stepE_same h hb))
  generalize pos s L = k at *
  generalize getV s L = r at *
  generalize ldel s L = K at *
  clear h hs hN ht hl hno
  go_enter Tryz.func184, Tryz.ntmps184
  go_wp2_with fail
  refine HP.out.mono ?_
  rintro e w2 ⟨rfl, hb2⟩
  go_wp2_with fail
  go_ret2
  exact HF.out _ hb2
 ·obtain ⟨x, hx, hxs, hl⟩ := there_yes hs ht
  rw [ht] at HP
  have hk := (List.getElem?_eq_some_iff.1 hx).1
  obtain ⟨G, ho, -, -⟩ := h.at_ hx
  have HX := Lib.hid (fun W (hb : Below w.heap.size w W) => (show W.cell? ⟨G, pos s L * 2 + 1, none⟩ = some (.int .i64 x.2) by
   obtain ⟨G', ho', -, f1⟩ := (h.below hb).at_ hx
   rw [ho] at ho'; injection ho' with e; subst e; exact f1))
  have HD0 := Lib.hid (fun W (hb : Below w.heap.size w W) => (h.below hb).d0)
  have HI := Lib.hid (fun W (hb : Below w.heap.size w W) => del_any G c (pos s L) L W hk hN (by have := (h.below hb).row; subst ho; exact this.2.2))
  have HST := Lib.hid (fun W w4 e (hb : Below w.heap.size w W) hi => Du.cut (W := W) (w4 := w4) (e := e) (K := L.eraseIdx (pos s L)) (vv := getV s L) h ho hb hi)
  have HV := Lib.hid (show getV s L = .tuple #[.int .i64 x.2, .int .i64 0] by unfold getV; rw [hl])
  rw [ldel_at hs hx hxs]
  have hlen : (L.eraseIdx (pos s L)).length ≤ L.length := List.length_eraseIdx_le ..
  generalize getV s L = r at *
  generalize L.eraseIdx (pos s L) = K at *
  generalize pos s L = k at *
  generalize L.length = n at *
  obtain ⟨xs, xv⟩ := x
  dsimp only at *
  rw [ho] at HD0
  have HO := Lib.hid ho
  clear h hs ht hl hx hxs ho
  go_enter Tryz.func184, Tryz.ntmps184
  go_wp2_with fail
  refine HP.out.mono ?_
  rintro e w2 ⟨rfl, hb2⟩
  have f1 := HX.out w2 hb2
  have d0 := HD0.out w2 hb2
  have HI2 := Lib.hid (HI.out w2 hb2)
  have HST2 := Lib.hid (fun w4 e hi => HST.out w2 w4 e hb2 hi)
  clear hb2 HP HX HD0 HI HST
  go_wp2_with fail
  refine HI2.out.mono ?_
  intro e w4 hi
  obtain ⟨c0, c1, rfl, hst⟩ := HST2.out w4 e hi
  have HR := Lib.hid hst
  clear hi hst HI2 HST2 d0 f1
  go_wp2_with fail
  go_ret2
  rw [HV.out] at HR ⊢
  exact HR.out
theorem run_eql_nil (w : World) (a : Option Addr) (l c : Nat) : (binOp .eql 84 (.slice a l c) (.slice none 0 0)).run Tryz.prog w = .ok (.bool a.isNone) w := by
 simp only [binOp]
 simp [run_equal_slice_nil w 84 113 a l c Tryz.underlying84]
def AllE (w : World) (L : List En) (e : Ending) (w' : World) : Prop := ∃ o c', e = .returned (.slice (Ao o) L.length c') ∧ L.length ≤ c' ∧ c' ≤ maxLen ∧ Sl w' w.heap.size o c' L ∧ Below w.heap.size w w'
theorem allE_app {w w' : World} {n g cap : Nat} {L : List En} {ob : Obj} (hn : n = L.length) (hown : w'.ownsRow w.heap.size 113 2 (.slice (some ⟨g, 0, none⟩) (0 + n) cap) (0 + n) ([] ++ encL L))
  (hgr : (w.alloc ob).grownBy w' (Value.slice (some ⟨w.heap.size, 0, none⟩) 0 0).ownBlock) : AllE w L (.returned (.slice (some ⟨g, 0, none⟩) (0 + n) cap)) w' := by
 rw [Nat.zero_add, List.nil_append] at hown
 obtain ⟨h1, h2⟩ := ERow.of_owns hown hn
 refine ⟨some g, cap, by rw [Nat.zero_add, hn]; rfl, h1.1, h1.2.1, ⟨h2, h1⟩, ?_⟩
 have hb := below_alloc w ob
 exact ⟨hgr.os.trans hb.os, hgr.tape.trans hb.tape, hgr.output.trans hb.output, Nat.le_trans hb.size hgr.size, fun k hk => (hgr.block k (Nat.lt_of_lt_of_le hk hb.size) (fun e => by simp [Value.ownBlock] at e; omega)).trans (hb.block k hk)⟩
theorem clone_any (c lo : Nat) (o : Option Nat) (L : List En) (w : World) (hN : L.length ≤ 1000000) (h : Sl w lo o c L) :
  Calls Tryz.prog 158 #[.slice (Ao o) L.length c] w (AllE w L) := by
 obtain ⟨i0, hi, hz0, hz1, hz2⟩ := info_parts info37
 have hq27 := run_eql_nil
 cases o with
 | none =>
  obtain ⟨rfl, rfl⟩ := h
  have HF := Lib.hid (show AllE w [] (.returned (.slice none 0 0)) w from ⟨none, 0, rfl, Nat.le_refl _, by unfold maxLen; omega, ⟨rfl, rfl⟩, Below.refl _ _⟩)
  clear hi hz0 hz1 hz2
  go_enter Tryz.func158, Tryz.ntmps158
  go_wp2_with fail
  go_ret
  exact HF.out
 | some G =>
  obtain ⟨hlo, hr⟩ := h
  by_cases h0 : L = []
  ·subst h0
   have HF := Lib.hid (fun ob (hob : ob = Obj.cells #[] 113 (0, 0)) => (show AllE w [] (.returned (.slice (some ⟨w.heap.size, 0, none⟩) 0 0)) (w.alloc ob) from ⟨some w.heap.size, 0, rfl, Nat.le_refl _, by unfold maxLen; omega, ⟨Nat.le_refl _, ⟨Nat.le_refl _, by unfold maxLen; omega, [], by subst hob; exact heap_alloc_new w _, rfl, rfl⟩⟩, below_alloc _ _⟩))
   go_enter Tryz.func158, Tryz.ntmps158
   go_wp2_with fail
   go_ret
   exact HF.out _ rfl
  ·have hpos : 0 < L.length := List.length_pos_iff.2 h0
   have hGw := hr.lt
   have HO := Lib.hid (show (w.alloc (.cells #[] 113)).ownsRow w.heap.size 113 2 (.slice (some ⟨w.heap.size, 0, none⟩) 0 0) 0 [] from ⟨rfl, .inr ⟨w.heap.size, 0, #[], rfl, Nat.le_refl _, heap_alloc_new w _, Nat.le_refl _, by unfold maxLen; omega, rfl, rfl⟩⟩)
   have HX := Lib.hid (fun ob => (show ∀ j u, (encL L)[j]? = some u → (w.alloc ob).cell? ((⟨G, 0, none⟩ : Addr).add j) = some u from fun j u hj => by
    rw [Addr.add_lit, Nat.zero_add, (below_alloc w ob).cell (p := ⟨G, j, none⟩) hGw]; exact hr.cells hj))
   have HF := Lib.hid (fun w' g cap ob a b => allE_app (w := w) (w' := w') (g := g) (cap := cap) (ob := ob) (L := L) rfl a b)
   have HL := Lib.hid (encL_length L)
   have H1 := Lib.hid (encL_one L)
   generalize hn : L.length = n at *
   generalize encL L = cl at *
   have HN := Lib.hid hn
   clear hn hr h0
   go_enter Tryz.func158, Tryz.ntmps158
   go_wp2_with (at_builtin; refine wpList_append_lies _ (by rfl) _ _ _ (by rfl) w.heap.size 113 i0 _ 2 24 Tryz.underlying84 hi hz0 hz1 hz2 (by rfl) (by decide) _ _ [] (by rfl) HO.out ⟨G, 0, none⟩ n c cl (by rfl) HL.out (HX.out _) H1.out (by omega) (by unfold maxLen; omega) (by omega) (by simp) _ rfl ?_; intro gg cap w3 hown1 hgrow hat hlt3)
   go_ret
   first | exact HF.out _ _ _ _ hown1 hgrow | (rw [Nat.zero_add] at *; exact HF.out _ _ _ _ hown1 hgrow)
theorem all_any (D lo c : Nat) (o : Option Nat) (L : List En) (w : World) (hN : L.length ≤ 1000000) (h : Du w D lo o c L) :
  Calls Tryz.prog 110 #[Pq D] w (AllE w L) := by
 have HC := Lib.hid (clone_any c lo o L w hN h.sl)
 have d0 := h.d0
 generalize L.length = n at *
 clear h
 go_enter Tryz.func110, Tryz.ntmps110
 go_wp2_with fail
 refine HC.out.mono ?_
 intro e w2 hE
 obtain ⟨o2, c2, rfl, h2⟩ := id hE
 have HE := Lib.hid hE
 clear hE h2
 go_wp2_with fail
 go_ret
 exact HE.out
structure Fine (L : List En) : Prop where
 sorted : Sorted L
 good : ∀ e ∈ L, nerr e.1.data.toList = 0 ∧ 1 ≤ e.2
theorem Fine.nil : Fine [] := ⟨List.Pairwise.nil, by simp⟩
def DirX (w0 w : World) (D : Nat) (X : Nat → Prop) (L : List En) : Prop :=
 ∃ o c, Du w D w0.heap.size o c L ∧ w0.heap.size ≤ D ∧ Fine L ∧ Below w0.heap.size w0 w ∧ ∀ b, X b → b < w.heap.size ∧ b ≠ D ∧ o ≠ some b
def Same (X : Nat → Prop) (w w' : World) : Prop := ∀ b, X b → w'.heap[b]? = w.heap[b]?
abbrev No : Nat → Prop := fun _ => False
theorem x_new {w0 w : World} (hb : Below w0.heap.size w0 w) : Calls Tryz.prog 58 #[] w (fun e w' => e = .returned (Pq w.heap.size) ∧ DirX w0 w' w.heap.size (fun b => b < w.heap.size) [] ∧ Below w.heap.size w w') :=
 (new_any w w0.heap.size hb.size).mono fun _ w' ⟨he, hd, hb'⟩ => ⟨he, ⟨none, 0, hd, hb.size, Fine.nil, below_step hb hb', fun b hx => ⟨Nat.lt_of_lt_of_le hx hb'.size, by omega, by simp⟩⟩, hb'⟩
theorem x_get {w0 w : World} {D : Nat} {X : Nat → Prop} {L : List En} (h : DirX w0 w D X L) (hN : L.length ≤ 900000) (s : ByteArray) : Calls Tryz.prog 179 #[Pq D, .string s] w (RetV w (getV s L)) := by
 obtain ⟨o, c, h1, h2, h3, h4, h5⟩ := h
 exact get_any D w0.heap.size c o L s w h3.sorted (by omega) h1
theorem x_all {w0 w : World} {D : Nat} {X : Nat → Prop} {L : List En} (h : DirX w0 w D X L) (hN : L.length ≤ 900000) : Calls Tryz.prog 110 #[Pq D] w (AllE w L) := by
 obtain ⟨o, c, h1, h2, h3, h4, h5⟩ := h
 exact all_any D w0.heap.size c o L w (by omega) h1
end Go.Proofs.YtpmpbmjjlccbbaaGreat.dn
