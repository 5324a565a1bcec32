/- Part 3 of what is known of the program's functions and of the document's words: contracts, and the mathematics beneath them. -/
import Derived.Test.YtpmpbmjjlccbbaaGreatProg
import Derived.Test.YtpmpbmjjlccbbaaGreatZ02
import Derived.Lib.AppendZeros
import Derived.Lib.AppendZerosOnto
import Derived.Lib.Overlaps
import Derived.Laws.Externs
import Derived.Deep.RegionLaw
import Derived.Deep.RegionWith
set_option linter.unusedVariables false
set_option linter.unusedSimpArgs false
set_option maxRecDepth 100000
set_option maxHeartbeats 8000000
namespace Go.Proofs.YtpmpbmjjlccbbaaGreat.dn
open Go.RowKit Go.Shelf
theorem e33 : Enters Tryz.prog 214 := enters_of Tryz.func214 (by kernel_rfl) rfl
def thereB (s : ByteArray) (L : List En) : Bool := match L[pos s L]? with | some x => decide (x.1 = s) | none => false
def PlaceE (w : World) (s : ByteArray) (L : List En) (e : Ending) (w' : World) : Prop := e = .returned (.tuple #[.int .i64 (pos s L), .bool (thereB s L)]) ∧ Below w.heap.size w w'
theorem find33 (D lo c : Nat) (o : Option Nat) (L : List En) (s : ByteArray) (w : World) (hs : Sorted L) (hN : L.length ≤ 1000000) (h : Du w D lo o c L) :
  Calls Tryz.prog 213 #[.int .i64 L.length, .func (.func 214) #[] #[.pointer (some ⟨w.heap.size, 0, none⟩), .pointer (some ⟨w.heap.size + 1, 0, none⟩)]] ((w.alloc (.cells #[Pq D] 128)).alloc (.cells #[.string s] 9))
   (RetI ((w.alloc (.cells #[Pq D] 128)).alloc (.cells #[.string s] 9)) (pos s L)) := by
 have hb : Below w.heap.size w ((w.alloc (.cells #[Pq D] 128)).alloc (.cells #[.string s] 9)) := ((Below.refl _ _).alloc (Nat.le_refl _) _).alloc (by simp) _
 refine search_any 214 L.length (pos s L) _ (fun i => decide (pos s L ≤ i)) _ e33 hN (pos_le _ _) (fun W hW i hi => ?_) (fun i hi => decide_eq_false (by omega)) (fun i hi _ => decide_eq_true hi)
 have hx : L[i]? = some L[i] := List.getElem?_eq_getElem hi
 have := asks33 w.heap.size (w.heap.size + 1) D lo c i o L s L[i] W hN ((hW.cell (p := ⟨w.heap.size, 0, none⟩) (by simp; omega)).trans (by simp)) ((hW.cell (p := ⟨w.heap.size + 1, 0, none⟩) (by simp)).trans (by simp)) ((h.below hb).below hW) hx
 have e : (!lessB L[i].1 s) = decide (pos s L ≤ i) := by
  by_cases hp : pos s L ≤ i
  ·rw [decide_eq_true hp, pos_ge hs hp hx]; rfl
  ·rw [decide_eq_false hp, pos_lt (by omega) hx]; rfl
 rw [e] at this
 exact this
theorem place_any (D lo c : Nat) (o : Option Nat) (L : List En) (s : ByteArray) (w : World) (hs : Sorted L) (hN : L.length ≤ 1000000) (h : Du w D lo o c L) :
  Calls Tryz.prog 202 #[Pq D, .string s] w (PlaceE w s L) := by
 have HC := Lib.hid (find33 D lo c o L s w hs hN h)
 have hb : Below w.heap.size w ((w.alloc (.cells #[Pq D] 128)).alloc (.cells #[.string s] 9)) := ((Below.refl _ _).alloc (Nat.le_refl _) _).alloc (by simp) _
 have hD := h.lt
 have d0 := h.d0
 have HH := Lib.hid h
 have HB := Lib.hid hb
 have hcap := h.cap
 have hkl := pos_le s L
 have HT : Hid (thereB s L = match L[pos s L]? with | some x => decide (x.1 = s) | none => false) := rfl
 have HX := Lib.hid (fun (hk : pos s L < L.length) => (⟨L[pos s L], List.getElem?_eq_getElem hk⟩ : ∃ x, L[pos s L]? = some x))
 unfold PlaceE
 generalize hn : L.length = n at *
 generalize hk : pos s L = k at *
 generalize hr : thereB s L = r at *
 have HN2 := Lib.hid hn
 have HK2 := Lib.hid hk
 clear h hb hn hk hr hs
 go_enter Tryz.func202, Tryz.ntmps202
 go_wp2_with fail
 refine HC.out.mono ?_
 rintro e w2 ⟨rfl, hb2⟩
 have b0 := (hb2.cell (p := ⟨w.heap.size, 0, none⟩) (by simp; omega)).trans (show _ = some (Pq D) by simp)
 have b1 := (hb2.cell (p := ⟨w.heap.size + 1, 0, none⟩) (by simp)).trans (show _ = some (.string s) by simp)
 have HDu := Lib.hid ((HH.out.below HB.out).below hb2)
 have c0 := HDu.out.d0
 rw [HN2.out] at c0
 have HBB := Lib.hid (below_step HB.out hb2)
 by_cases hlt : k < n
 ·obtain ⟨x, hx⟩ := HX.out hlt
  obtain ⟨G, rfl, g0, g1⟩ := HDu.out.at_ hx
  have HR := Lib.hid (HT.out.trans (by rw [hx]))
  obtain ⟨xs, xv⟩ := x
  dsimp only at *
  rw [← beq_names] at HR
  have HRR := HR
  obtain ⟨q, hq⟩ : ∃ q, (xs.toList == s.toList) = q := ⟨_, rfl⟩
  have hrq : r = q := HR.out.trans hq
  subst hrq
  have hltz : decide ((k : Int) < (n : Int)) = true := by simpa using hlt
  clear HT HX hx g1 HC hb2 HR HRR d0
  go_wp2_with fail
  go_quiet (fail)
  go_wp2_with fail
  go_ret2
  exact ⟨rfl, below_drewN HBB.out _⟩
 ·have hkn : k = n := by omega
  have HR := Lib.hid (HT.out.trans (by rw [List.getElem?_eq_none (by rw [HN2.out]; omega)]) : r = false)
  subst hkn
  have hltz : decide ((k : Int) < (k : Int)) = false := by simp
  obtain rfl : r = false := HR.out
  clear HT HX HC hb2 d0 hlt HR
  go_wp2_with fail
  go_quiet (fail)
  go_wp2_with fail
  go_ret2
  exact ⟨rfl, below_drewN HBB.out _⟩
def getV (s : ByteArray) (L : List En) : Value := match lget s L with | some v => .tuple #[.int .i64 v, .int .i64 0] | none => .tuple #[.int .i64 0, .int .i64 2]
theorem there_yes {s : ByteArray} {L : List En} (hs : Sorted L) (h : thereB s L = true) : ∃ x, L[pos s L]? = some x ∧ x.1 = s ∧ lget s L = some x.2 := by
 unfold thereB at h
 have h2 := lget_pos (s := s) hs
 cases hx : L[pos s L]? with
 | none => rw [hx] at h; cases h
 | some x =>
  rw [hx] at h h2
  have h3 : x.1 = s := by simpa using h
  exact ⟨x, rfl, h3, by simpa [h3] using h2⟩
theorem there_no {s : ByteArray} {L : List En} (hs : Sorted L) (h : thereB s L = false) : lget s L = none ∧ ∀ x, L[pos s L]? = some x → x.1 ≠ s := by
 unfold thereB at h
 have h2 := lget_pos (s := s) hs
 cases hx : L[pos s L]? with
 | none => rw [hx] at h2; exact ⟨h2, fun x e => by cases e⟩
 | some x =>
  rw [hx] at h h2
  have h3 : x.1 ≠ s := by simpa using h
  exact ⟨by simpa [h3] using h2, fun y e => by injection e with e; subst e; exact h3⟩
theorem get_any (D lo c : Nat) (o : Option Nat) (L : List En) (s : ByteArray) (w : World) (hs : Sorted L) (hN : L.length ≤ 1000000) (h : Du w D lo o c L) :
  Calls Tryz.prog 179 #[Pq D, .string s] w (RetV w (getV s L)) := by
 have HP := Lib.hid (place_any D lo c o L s w hs hN h)
 have HH := Lib.hid h
 unfold PlaceE at HP
 unfold RetV
 cases hb : thereB s L
 ·have HV := Lib.hid (show getV s L = .tuple #[.int .i64 0, .int .i64 2] by unfold getV; rw [(there_no hs hb).1])
  rw [hb] at HP
  generalize pos s L = k at *
  generalize getV s L = r at *
  clear hs hb h
  go_enter Tryz.func179, Tryz.ntmps179
  go_wp2_with fail
  refine HP.out.mono ?_
  rintro e w2 ⟨rfl, hb2⟩
  go_wp2_with fail
  go_ret2
  exact ⟨by rw [HV.out]; rfl, hb2⟩
 ·obtain ⟨x, hx, hn, hl⟩ := there_yes hs hb
  have HV := Lib.hid (show getV s L = .tuple #[.int .i64 x.2, .int .i64 0] by unfold getV; rw [hl])
  rw [hb] at HP
  have hk := (List.getElem?_eq_some_iff.1 hx).1
  have HX := Lib.hid (fun W (hb : Below w.heap.size w W) => (h.below hb).at_ hx)
  have HD := Lib.hid (fun W (hb : Below w.heap.size w W) => (h.below hb).d0)
  generalize pos s L = k at *
  generalize getV s L = r at *
  generalize L.length = n at *
  obtain ⟨xs, xv⟩ := x
  dsimp only at *
  clear hs hb h hx hn hl
  go_enter Tryz.func179, Tryz.ntmps179
  go_wp2_with fail
  refine HP.out.mono ?_
  rintro e w2 ⟨rfl, hb2⟩
  obtain ⟨G, rfl, f0, f1⟩ := HX.out w2 hb2
  have d0 := HD.out w2 hb2
  clear HP HX HD
  go_wp2_with fail
  go_ret2
  exact ⟨by rw [HV.out]; rfl, hb2⟩
theorem dlen_any (D lo c : Nat) (o : Option Nat) (L : List En) (w : World) (h : Du w D lo o c L) :
  Calls Tryz.prog 155 #[Pq D] w (fun e w' => e = .returned (.int .i64 L.length) ∧ w' = w) := by
 have d0 := h.d0
 generalize L.length = n at *
 clear h
 go_enter Tryz.func155, Tryz.ntmps155
 go_wp2_with fail
 go_ret
 exact ⟨rfl, rfl⟩
def InsE (w : World) (lo : Nat) (o : Option Nat) (n : Nat) (K : List En) (e : Ending) (w' : World) : Prop :=
 ∃ G c', e = .returned (.slice (some ⟨G, 0, none⟩) (n + 1) c') ∧ ERow w' G c' K ∧ lo ≤ G ∧ (o = some G ∨ w.heap.size ≤ G) ∧ w.grownBy w' o
theorem wp_copy_run (w : World) {o : Oper} {a : Act} {K : Act → World → Prop} {Q : Exit → Act → World → Prop} (d s : Operand) (t t' : TypeId)
  (ho : o.op = .call { callee := .builtin .copy, args := #[d, s], argTypes := #[t, t'] }) (v u : Value) (hd : a.eval d = v) (hs : a.eval s = u) {v' : Value} {w' : World}
  (hr : (Builtin.copy_ #[t, t'] o.type #[v, u]).run Tryz.prog w = .ok v' w') (h : K (a.put o.dst v') w') : o.wp Tryz.prog a w K Q := by
 unfold Oper.wp execOp
 simp only [ho, resolve, invoke, builtin, Sem.run_bind, Sem.run_pure, Result.andThen_ok, List.map_toArray, List.map_cons, List.map_nil, hd, hs, hr]
 exact h
theorem wpList_copy_run (w : World) {ops : Array Oper} {rest : List Oper} {o : Oper} {a : Act} {Q : Exit → Act → World → Prop} (hgd : o.guard = none) (d s : Operand) (t t' : TypeId)
  (ho : o.op = .call { callee := .builtin .copy, args := #[d, s], argTypes := #[t, t'] }) (v u : Value) (hd : a.eval d = v) (hs : a.eval s = u) {v' : Value} {w' : World}
  (hr : (Builtin.copy_ #[t, t'] o.type #[v, u]).run Tryz.prog w = .ok v' w') (h : wpList Tryz.prog ops Q rest (a.put o.dst v') w') : wpList Tryz.prog ops Q (o :: rest) a w :=
 wpList_plain hgd fun _ hK => wp_copy_run w d s t t' ho v u hd hs hr (hK _ _ h)
theorem step_copy_run {ops : Array Oper} {o : Oper} {a : Act} {w : World} {K : Act → World → Prop} {Q : Exit → Act → World → Prop} {E : Prop}
  (hg : o.guard = none) (d x : Operand) (dT sT : TypeId) (hop : o.op = Op.call { callee := Callee.builtin Builtin.copy, args := #[d, x], argTypes := #[dT, sT] })
  (v u : Value) (hd : a.eval d = v) (hx : a.eval x = u) {v' : Value} {w' : World} (hr : (Builtin.copy_ #[dT, sT] o.type #[v, u]).run Tryz.prog w = .ok v' w') (hK : K (a.put o.dst v') w') :
  if Region.wanted o (yielded ops a.tmps) = true then Oper.wp Tryz.prog o a w K Q else E := by
 have hw : Region.wanted o (yielded ops a.tmps) = true := by simp [Region.wanted, hg]
 rw [if_pos hw]
 exact wp_copy_run w d x dT sT hop v u hd hx hr hK
theorem encL_single (x : En) : encL [x] = [.string x.1, .int .i64 x.2] := rfl
theorem splice_take {X : List Value} {L : List En} {i : Nat} {x : En} (hi : i ≤ L.length) (hX : (L.length + 1) * 2 ≤ X.length) (ht : X.take (L.length * 2) = encL L) :
  let X1 := X.take ((i + 1) * 2) ++ encL (L.drop i) ++ X.drop ((i + 1) * 2 + (encL (L.drop i)).length)
  (X1.take (i * 2) ++ encL [x] ++ X1.drop (i * 2 + (encL [x]).length)).take ((L.length + 1) * 2) = encL (L.take i ++ x :: L.drop i) := by
 intro X1
 have hl : (encL (L.drop i)).length = (L.length - i) * 2 := by rw [encL_length, List.length_drop]
 have h1 : X1.take (i * 2) = encL (L.take i) := by
  show (X.take ((i + 1) * 2) ++ _ ++ _).take (i * 2) = _
  rw [List.append_assoc, List.take_append_of_le_length (by rw [List.length_take]; omega), List.take_take, Nat.min_eq_left (by omega), ← encL_take, ← ht, List.take_take, Nat.min_eq_left (by omega)]
 have h2 : X1.drop (i * 2 + (encL [x]).length) = encL (L.drop i) ++ X.drop ((i + 1) * 2 + (encL (L.drop i)).length) := by
  show (X.take ((i + 1) * 2) ++ _ ++ _).drop _ = _
  rw [List.append_assoc, List.drop_append_of_le_length (by rw [List.length_take, encL_length]; simp; omega), List.drop_eq_nil_of_le (by rw [List.length_take, encL_length]; simp; omega), List.nil_append]
 rw [h1, h2, show L.take i ++ x :: L.drop i = L.take i ++ [x] ++ L.drop i by simp, encL_append, encL_append, ← List.append_assoc, List.take_append_of_le_length, List.take_of_length_le]
 ·rw [List.length_append, List.length_append, encL_length, hl, List.length_take, encL_length]; simp; omega
 ·rw [List.length_append, List.length_append, encL_length, hl, List.length_take, encL_length]; simp; omega
theorem cells_of_box {w : World} {vb : Nat} {x : En} (hv : w.heap[vb]? = some (.cells #[.string x.1, .int .i64 x.2] 113 (0, 0))) : ∀ j u, (encL [x])[j]? = some u → w.cell? ((⟨vb, 0, none⟩ : Addr).add j) = some u :=
 World.news_of_block (cs := #[.string x.1, .int .i64 x.2]) hv
theorem isSome_setCells (b : Nat) (vs : List Value) (o : Nat) (w : World) (h : ∀ j, j < vs.length → (w.cell? ⟨b, o + j, none⟩).isSome = true) (k : Nat) (hk : (w.cell? ⟨b, k, none⟩).isSome = true) : ((w.setCells b o vs).cell? ⟨b, k, none⟩).isSome = true := by
 by_cases hin : o ≤ k ∧ k < o + vs.length
 ·have := World.cell?_setCells_in b vs o w h (k - o) (by omega)
  rw [show o + (k - o) = k by omega] at this
  rw [this]; rfl
 ·rw [World.cell?_setCells_out b vs o w ⟨b, k, none⟩ (fun _ _ => by show k < o ∨ o + vs.length ≤ k; omega)]
  exact hk
theorem insE_room {w : World} {G c lo i : Nat} {L : List En} {x : En} (h : ERow w G c L) (hlo : lo ≤ G) (hi : i ≤ L.length) (hroom : L.length + 1 ≤ c) :
  InsE w lo (some G) L.length (L.take i ++ x :: L.drop i) (.returned (.slice (some ⟨G, 0, none⟩) (L.length + 1) c)) ((w.drew.setCells G ((i + 1) * 2) (encL (L.drop i))).setCells G (i * 2) (encL [x])) := by
 refine ⟨G, c, rfl, ?_, hlo, .inl rfl, grownBy_trans (grownBy_trans (grownBy_drew _ _) (grownBy_sets G _ _ _)) (grownBy_sets G _ _ _)⟩
 obtain ⟨h1, h2, X, hX, hl, ht⟩ := h
 have hd : w.drew.heap[G]? = some (.cells X.toArray 113 (0, 0)) := hX
 rw [setCells_row hd (by rw [encL_length, List.length_drop]; omega) (encL_one _)]
 have hs := setRow_heap w.drew G X.toArray (X.take ((i + 1) * 2) ++ encL (L.drop i) ++ X.drop ((i + 1) * 2 + (encL (L.drop i)).length)).toArray 113 _ hd
 rw [setCells_row hs (by rw [encL_length]; simp; omega) (encL_one _)]
 refine ⟨by simp; omega, h2, _, setRow_heap _ G _ _ 113 _ hs, ?_, ?_⟩
 ·simp [encL_length]; omega
 ·have := splice_take (x := x) hi (by omega) ht
  simp only [List.length_append, List.length_cons, List.length_take, List.length_drop]
  rw [show min i L.length + (L.length - i + 1) = L.length + 1 by omega]
  exact this
theorem ins_room (G c lo i vb vc : Nat) (L : List En) (x : En) (w : World) (hi : i < L.length) (hroom : L.length + 1 ≤ c) (hN : L.length ≤ 1000000) (hlo : lo ≤ G) (h : ERow w G c L) (hv : w.heap[vb]? = some (.cells #[.string x.1, .int .i64 x.2] 113 (0, 0))) (hne : vb ≠ G) :
  Calls Tryz.prog 203 #[.slice (some ⟨G, 0, none⟩) L.length c, .int .i64 i, .slice (some ⟨vb, 0, none⟩) 1 vc] w (InsE w lo (some G) L.length (L.take i ++ x :: L.drop i)) := by
 have HF := Lib.hid (insE_room (x := x) h hlo (Nat.le_of_lt hi) hroom)
 have hc63 : c ≤ 9223372036854775807 := h.2.1
 have hov : ∀ lb cb, (callFunc 216 #[.slice (some ⟨vb, 0, none⟩) 1 vc, .slice (some ⟨G, (i + 1) * 2, none⟩) lb cb]).run Tryz.prog w = .ok (.value (.bool false)) w := fun lb cb => by
  rw [run_callFunc_extern Tryz.func216 (by kernel_rfl) (by kernel_rfl) (by kernel_rfl) (e := Extern.SlicesOverlaps.overlaps #[84, 84] #[4]) (by kernel_rfl),
   Lib.run_overlaps_apart w 84 4 113 Tryz.underlying84 2 Tryz.sizeOf113 ⟨vb, 0, none⟩ ⟨G, (i + 1) * 2, none⟩ 1 vc lb cb hne 113 113 2 (c * 2) (by simp [World.shape?, hv]) h.shape (by omega) (by simp [World.frozen?, hv]) (by simp [World.frozen?, hv])]
  rfl
 have hdl : (encL (L.drop i)).length = (L.length - i) * 2 := by rw [encL_length, List.length_drop]
 have hsome : ∀ j, j < c * 2 → (w.cell? ⟨G, j, none⟩).isSome = true := fun j hj => h.some_ hj
 have hcp1 : ∀ ty dc sc, (Builtin.copy_ #[84, 84] ty #[.slice (some ⟨G, (i + 1) * 2, none⟩) (L.length - i) dc, .slice (some ⟨G, i * 2, none⟩) (L.length + 1 - i) sc]).run Tryz.prog w.drew = .ok (goInt ((L.length - i : Nat) : Int)) (w.drew.setCells G ((i + 1) * 2) (encL (L.drop i))) := fun ty dc sc =>
  run_copy2 w.drew 84 84 ty G ((i + 1) * 2) _ dc ⟨G, i * 2, none⟩ _ sc (L.length - i) (encL (L.drop i)) Tryz.underlying84 (by simp only [Nat.min_def]; split <;> omega) hdl
   (fun j v hj => by rw [Addr.add_lit]; exact h.cells (by rw [← encL_drop, List.getElem?_drop] at hj; exact hj))
   (fun j hj => hsome _ (by omega)) (fun j hj => h.frozen _) (encL_one _)
 obtain ⟨W1, hW1⟩ : ∃ W1, W1 = w.drew.setCells G ((i + 1) * 2) (encL (L.drop i)) := ⟨_, rfl⟩
 have hcp2 : ∀ (W : World), (∀ x, W.cell? x = W1.cell? x) → (∀ x, W.frozen? x = W1.frozen? x) → ∀ ty dc, (Builtin.copy_ #[84, 84] ty #[.slice (some ⟨G, i * 2, none⟩) (L.length + 1 - i) dc, .slice (some ⟨vb, 0, none⟩) 1 vc]).run Tryz.prog W = .ok (goInt ((1 : Nat) : Int)) (W.setCells G (i * 2) (encL [x])) := fun W hWc hWf ty dc =>
  run_copy2 W 84 84 ty G (i * 2) _ dc ⟨vb, 0, none⟩ 1 vc 1 (encL [x]) Tryz.underlying84 (by simp only [Nat.min_def]; split <;> omega) rfl
   (fun j v hj => by
    rw [hWc, hW1, World.cell?_setCells_out _ _ _ _ _ (fun hb _ => absurd (by simpa [Addr.add_lit] using hb) hne)]
    exact cells_of_box hv j v hj)
   (fun j hj => by rw [hWc, hW1]; exact isSome_setCells G (encL (L.drop i)) ((i + 1) * 2) w.drew (fun t ht => hsome _ (by rw [hdl] at ht; omega)) (i * 2 + j) (hsome _ (by rw [encL_length] at hj; simp at hj; omega)))
   (fun j hj => by rw [hWf, hW1, World.frozen?_setCells]; exact h.frozen _) (encL_one _)
 rw [← hW1] at hcp1 HF
 generalize hn : L.length = n at *
 generalize L.take i ++ x :: L.drop i = K at *
 generalize encL [x] = cx at *
 have hz2 : ¬ ((i : Int) = (n : Int)) := by omega
 have hz3 : ((i : Int) == (n : Int)) = false := by simpa using hz2
 have hw1 : IntKind.i64.wrap ((i : Int) + 1) = (i : Int) + 1 := by rw [IntKind.wrap_i64]; omega
 have hb1 : (0 : Int) ≤ (i : Int) + 1 := by omega
 have hin : i ≤ n := by omega
 have htn : ((i : Int) + 1).toNat = i + 1 := by omega
 have hb2 : ¬ (c = i + 1) := by omega
 have hb3 : (i : Int) ≤ (n : Int) + 1 := by omega
 have hb4 : ¬ (c = i) := by omega
 have HN := Lib.hid hn
 have HW := Lib.hid hW1
 clear hn hW1 h hv hdl hsome
 go_enter Tryz.func203, Tryz.ntmps203
 go_wp2_with (simp only [hov])
 go_region_law (refine step_copy_run rfl _ _ 84 84 rfl _ _ (by simp [Act.eval, Act.put]) (by simp [Act.eval, Act.put]) (hcp1 _ _ _) ?_)
 all_goals
  go_wp2_with (refine wpList_copy_run _ rfl (.tmp 80) (.tmp 81) 84 84 rfl _ _ rfl rfl (hcp2 _ (fun _ => rfl) (fun _ => rfl) _ _) ?_)
  go_ret
  exact HF.out
theorem hx_of {L : List En} {x : En} {i : Nat} (hi : i = L.length) : L.take i ++ x :: L.drop i = L ++ [x] := by subst hi; simp
theorem insE_end {w w' : World} {lo c n g cap : Nat} {o : Option Nat} {L : List En} {x : En} (hn : n = L.length) (hown : w'.ownsRow lo 113 2 (.slice (some ⟨g, 0, none⟩) (n + 1) cap) (n + 1) (encL L ++ encL [x]))
  (hgr : w.grownBy w' (Value.slice (Ao o) n c).ownBlock) (hat : (Value.slice (Ao o) n c).ownBlock = some g ∨ g = w.heap.size) : InsE w lo o n (L ++ [x]) (.returned (.slice (some ⟨g, 0, none⟩) (n + 1) cap)) w' := by
 have hob : (Value.slice (Ao o) n c).ownBlock = o := by cases o <;> rfl
 rw [hob] at hgr hat
 rw [← encL_append] at hown
 obtain ⟨h1, h2⟩ := ERow.of_owns hown (by simp [hn])
 exact ⟨g, cap, rfl, h1, h2, hat.imp id (fun e => Nat.le_of_eq e.symm), hgr⟩
def Sl (w : World) (lo : Nat) (o : Option Nat) (c : Nat) (L : List En) : Prop := match o with | none => L = [] ∧ c = 0 | some G => lo ≤ G ∧ ERow w G c L
theorem Sl.owns {w : World} {lo c : Nat} {o : Option Nat} {L : List En} (h : Sl w lo o c L) : w.ownsRow lo 113 2 (.slice (Ao o) L.length c) L.length (encL L) := by
 cases o with
 | none => obtain ⟨rfl, rfl⟩ := h; exact World.ownsRow_nil _ _ _ _
 | some G => exact h.2.owns h.1
theorem ins_end (c lo vb vc : Nat) (o : Option Nat) (L : List En) (x : En) (w : World) (hN : L.length ≤ 1000000) (hlo : lo ≤ w.heap.size) (h : Sl w lo o c L) (hc : c ≤ maxLen) (hlc : L.length ≤ c) (hv : w.heap[vb]? = some (.cells #[.string x.1, .int .i64 x.2] 113 (0, 0))) :
  Calls Tryz.prog 203 #[.slice (Ao o) L.length c, .int .i64 L.length, .slice (some ⟨vb, 0, none⟩) 1 vc] w (InsE w lo o L.length (L ++ [x])) := by
 obtain ⟨i0, hi, hz0, hz1, hz2⟩ := info_parts info37
 have HO := Lib.hid h.owns
 have HX := Lib.hid (cells_of_box hv)
 have HF := Lib.hid (fun w' g cap a b d => insE_end (w := w) (w' := w') (lo := lo) (c := c) (g := g) (cap := cap) (o := o) (L := L) (x := x) rfl a b d)
 have HL := Lib.hid (show (encL [x]).length = 1 * 2 from rfl)
 have H1 := Lib.hid (encL_one [x])
 generalize hn : L.length = n at *
 generalize L ++ [x] = K at *
 generalize encL L = cl at *
 generalize encL [x] = cx at *
 have hc63 : c ≤ 9223372036854775807 := hc
 have hb4 : c = n ∨ ¬ (c = n) := by omega
 clear hn h hv hc
 go_enter Tryz.func203, Tryz.ntmps203
 rcases hb4 with rfl | hb4
 all_goals
  cases o
  all_goals
   go_wp2_with (at_builtin; refine wpList_append_lies _ (by rfl) _ _ _ (by rfl) lo 113 i0 _ 2 24 Tryz.underlying84 hi hz0 hz1 hz2 (by rfl) (by decide) _ _ cl (by rfl) HO.out ⟨vb, 0, none⟩ 1 vc cx (by rfl) HL.out HX.out H1.out (by omega) (by unfold maxLen; omega) (by omega) hlo _ rfl ?_; intro gg cap w3 hown1 hgrow hat hlt3)
   go_ret
   exact HF.out _ _ _ hown1 hgrow hat
abbrev Zv : Value := .agg #[.string ByteArray.empty, .int .i64 0]
theorem zeroCells_size (n : Nat) : (Builtin.zeroCells Zv.cells n).size = n * 2 := by simp [Builtin.zeroCells]; rfl
theorem grow_take {L : List En} {i c' : Nat} {x : En} {Z : List Value} (hi : i ≤ L.length) (hZ : ((encL (L.take i)) ++ Z).length = c' * 2) (hc : L.length + 1 ≤ c') :
  let X := encL (L.take i) ++ Z
  let X1 := X.take (i * 2) ++ encL [x] ++ X.drop (i * 2 + (encL [x]).length)
  (X1.take ((i + 1) * 2) ++ encL (L.drop i) ++ X1.drop ((i + 1) * 2 + (encL (L.drop i)).length)).take ((L.length + 1) * 2) = encL (L.take i ++ x :: L.drop i) := by
 intro X X1
 have hl : (encL (L.drop i)).length = (L.length - i) * 2 := by rw [encL_length, List.length_drop]
 have ht : (encL (L.take i)).length = i * 2 := by rw [encL_length, List.length_take, Nat.min_eq_left hi]
 have hx1 : X1 = encL (L.take i) ++ encL [x] ++ X.drop (i * 2 + (encL [x]).length) := by
  show X.take (i * 2) ++ _ ++ _ = _
  congr 2
  show (encL (L.take i) ++ Z).take (i * 2) = _
  rw [List.take_append_of_le_length (by omega), List.take_of_length_le (by omega)]
 have h1 : X1.take ((i + 1) * 2) = encL (L.take i) ++ encL [x] := by
  rw [hx1, List.take_append_of_le_length (by rw [List.length_append, ht, encL_length]; simp; omega), List.take_of_length_le (by rw [List.length_append, ht, encL_length]; simp; omega)]
 rw [h1, show L.take i ++ x :: L.drop i = L.take i ++ [x] ++ L.drop i by simp, encL_append, encL_append, List.take_append_of_le_length, List.take_of_length_le]
 ·rw [List.length_append, List.length_append, hl, ht, encL_length]; simp; omega
 ·rw [List.length_append, List.length_append, hl, ht, encL_length]; simp; omega
theorem insE_grow {w : World} {c' lo i : Nat} {o : Option Nat} {L : List En} {x : En} {Z : List Value} (hi : i ≤ L.length) (hlo : lo ≤ w.heap.size) (hZ : ((encL (L.take i)) ++ Z).length = c' * 2) (hc : L.length + 1 ≤ c') (hm : c' ≤ maxLen) :
  InsE w lo o L.length (L.take i ++ x :: L.drop i) (.returned (.slice (some ⟨w.heap.size, 0, none⟩) (L.length + 1) c'))
   ((((w.alloc (.cells (encL (L.take i) ++ Z).toArray 113)).drew.setCells w.heap.size (i * 2) (encL [x])).drew).setCells w.heap.size ((i + 1) * 2) (encL (L.drop i))) := by
 have hX : (w.alloc (.cells (encL (L.take i) ++ Z).toArray 113)).drew.heap[w.heap.size]? = some (.cells (encL (L.take i) ++ Z).toArray 113 (0, 0)) := heap_alloc_new w _
 refine ⟨w.heap.size, c', rfl, ?_, hlo, .inr (Nat.le_refl _), ?_⟩
 ·rw [setCells_row hX (by rw [hZ, encL_length]; simp; omega) (encL_one _)]
  have hs := setRow_heap (w.alloc (.cells (encL (L.take i) ++ Z).toArray 113)).drew w.heap.size (encL (L.take i) ++ Z).toArray ((encL (L.take i) ++ Z).take (i * 2) ++ encL [x] ++ (encL (L.take i) ++ Z).drop (i * 2 + (encL [x]).length)).toArray 113 _ hX
  have hs2 : ((w.alloc (.cells (encL (L.take i) ++ Z).toArray 113)).drew.setRow w.heap.size ((encL (L.take i) ++ Z).take (i * 2) ++ encL [x] ++ (encL (L.take i) ++ Z).drop (i * 2 + (encL [x]).length)).toArray).drew.heap[w.heap.size]? = some (.cells ((encL (L.take i) ++ Z).take (i * 2) ++ encL [x] ++ (encL (L.take i) ++ Z).drop (i * 2 + (encL [x]).length)).toArray 113 (0, 0)) := hs
  have hl2 : ((encL (L.take i) ++ Z).take (i * 2) ++ encL [x] ++ (encL (L.take i) ++ Z).drop (i * 2 + (encL [x]).length)).length = c' * 2 := by
   rw [List.length_append, List.length_append, List.length_take, List.length_drop, hZ, encL_length]; simp; omega
  rw [setCells_row hs2 (by rw [hl2, encL_length, List.length_drop]; omega) (encL_one _)]
  refine ⟨by simp; omega, hm, _, setRow_heap _ _ _ _ 113 _ hs2, ?_, ?_⟩
  ·rw [List.length_append, List.length_append, List.length_take, List.length_drop, hl2, encL_length, List.length_drop]; omega
  ·have := grow_take (x := x) hi hZ hc
   have e : (L.take i ++ x :: L.drop i).length = L.length + 1 := by simp; omega
   rw [e]
   exact this
 ·refine grownBy_below ⟨?_, ?_, ?_, ?_, ?_⟩ _
  all_goals
   have a := grownBy_sets w.heap.size (encL [x]) (i * 2) (w.alloc (.cells (encL (L.take i) ++ Z).toArray 113)).drew
   have b := grownBy_sets w.heap.size (encL (L.drop i)) ((i + 1) * 2) (((w.alloc (.cells (encL (L.take i) ++ Z).toArray 113)).drew.setCells w.heap.size (i * 2) (encL [x])).drew)
   have d := grownBy_trans (grownBy_trans a (grownBy_drew _ _)) b
   have hb := below_alloc w (.cells (encL (L.take i) ++ Z).toArray 113)
  ·exact d.os.trans hb.os
  ·exact d.tape.trans hb.tape
  ·exact d.output.trans hb.output
  ·exact Nat.le_trans hb.size d.size
  ·intro k hk
   exact (d.block k (Nat.lt_of_lt_of_le hk hb.size) (fun e => by injection e with e; omega)).trans (hb.block k hk)
theorem ins_grow (G c lo i vb vc : Nat) (L : List En) (x : En) (w : World) (hi : i < L.length) (hroom : L.length = c) (hN : L.length ≤ 1000000) (hlo : lo ≤ w.heap.size) (h : ERow w G c L) (hv : w.heap[vb]? = some (.cells #[.string x.1, .int .i64 x.2] 113 (0, 0))) (hne : vb ≠ G) :
  Calls Tryz.prog 203 #[.slice (some ⟨G, 0, none⟩) L.length c, .int .i64 i, .slice (some ⟨vb, 0, none⟩) 1 vc] w (InsE w lo (some G) L.length (L.take i ++ x :: L.drop i)) := by
 obtain ⟨i0, hi0, hz0, hz1, hz2⟩ := info_parts info37
 have hGw := h.lt
 have hvw : vb < w.heap.size := (Array.getElem?_eq_some_iff.1 hv).1
 have htl : (encL (L.take i)).length = i * 2 := by rw [encL_length, List.length_take, Nat.min_eq_left (Nat.le_of_lt hi)]
 have hdl : (encL (L.drop i)).length = (L.length - i) * 2 := by rw [encL_length, List.length_drop]
 have hkk : (L.length : Int) + 1 - (i : Int) = ((L.length + 1 - i : Nat) : Int) := by omega
 have hold : (Builtin.firstCells i0.size i (.slice (some ⟨G, 0, none⟩) i c)).run Tryz.prog w.drew = .ok (encL (L.take i)).toArray w.drew := by
  rw [hz1]
  exact run_firstCells_some w.drew 2 i ⟨G, 0, none⟩ i c (encL (L.take i)) htl (fun j v hj => by
   rw [Addr.add_lit, Nat.zero_add]
   rw [← encL_take] at hj
   rw [List.getElem?_take] at hj
   split at hj
   ·exact h.cells hj
   ·cases hj)
 have hGcap : grownCap w (L.length + 1) c 113 = grownCap w (L.length + 1) c 113 := rfl
 have hrz : ∀ ty, (Builtin.append_ #[84, 3] ty #[.slice (some ⟨G, 0, none⟩) i c, .int .i64 ((L.length : Int) + 1 - (i : Int))]).run Tryz.prog w =
   .ok (.slice (some ⟨w.heap.size, 0, none⟩) (L.length + 1) (grownCap w (L.length + 1) c 113)) (w.drew.alloc (.cells ((encL (L.take i)).toArray ++ Builtin.zeroCells Zv.cells (L.length + 1 - i) ++ Builtin.zeroCells Zv.cells (grownCap w (L.length + 1) c 113 - (L.length + 1))) 113)) := fun ty => by
  have hik : i + (L.length + 1 - i) = L.length + 1 := by omega
  have h := Lib.run_append_grow_zeros w 84 3 ty 113 i0 _ .i64 .i64 Tryz.underlying84 Tryz.underlying3 hi0 hz0 (some ⟨G, 0, none⟩) i c (encL (L.take i)) hold (L.length + 1 - i) (by omega) (by omega) (by omega) (by omega) (by rw [hz2]; omega) (by rw [hz2, hik]; exact growslice_fits (by omega) (by omega))
  rw [hik] at h
  rw [hkk]
  exact h
 have hGn : L.length + 1 ≤ grownCap w (L.length + 1) c 113 := grownCap_ge w _ _ _
 have hG63 := grownCap_le_maxLen w (L.length + 1) c 113 (by unfold maxLen; omega)
 generalize grownCap w (L.length + 1) c 113 = C at *
 obtain ⟨Z, hZ⟩ : ∃ Z : List Value, Z = (Builtin.zeroCells Zv.cells (L.length + 1 - i) ++ Builtin.zeroCells Zv.cells (C - (L.length + 1))).toList := ⟨_, rfl⟩
 have hrow : (encL (L.take i)).toArray ++ Builtin.zeroCells Zv.cells (L.length + 1 - i) ++ Builtin.zeroCells Zv.cells (C - (L.length + 1)) = (encL (L.take i) ++ Z).toArray := by
  rw [hZ]; simp
 have hZl : (encL (L.take i) ++ Z).length = C * 2 := by
  rw [hZ, List.length_append, htl]
  simp only [Array.length_toList, Array.size_append, zeroCells_size]
  omega
 rw [hrow] at hrz
 have HF := Lib.hid (insE_grow (w := w) (o := some G) (x := x) (Nat.le_of_lt hi) hlo hZl hGn hG63)
 clear hrow hZ hold
 generalize hR : (encL (L.take i) ++ Z).toArray = ROW at *
 have hRs : ROW.size = C * 2 := by rw [← hR]; simpa using hZl
 obtain ⟨W1, hW1⟩ : ∃ W1, W1 = w.drew.alloc (.cells ROW 113) := ⟨_, rfl⟩
 rw [← hW1] at hrz
 have hN1 : ∀ j, j < C * 2 → (W1.cell? ⟨w.heap.size, j, none⟩).isSome = true := fun j hj => by
  rw [hW1, World.cell?_alloc_at (w := w.drew) ROW _ w.heap.size j rfl, Array.getElem?_eq_getElem (by omega)]; rfl
 have hNf : ∀ j, W1.frozen? ⟨w.heap.size, j, none⟩ = false := fun j => by rw [hW1]; exact World.frozen?_alloc_at (w := w.drew) ROW _ w.heap.size j rfl
 have hOb : ∀ j v, w.cell? ⟨G, j, none⟩ = some v → W1.cell? ⟨G, j, none⟩ = some v := fun j v h => by rw [hW1, World.cell?_alloc_past (w := w.drew) _ G j hGw]; exact h
 have hOv : ∀ j v, w.cell? ⟨vb, j, none⟩ = some v → W1.cell? ⟨vb, j, none⟩ = some v := fun j v h => by rw [hW1, World.cell?_alloc_past (w := w.drew) _ vb j hvw]; exact h
 have hcpA : ∀ (W : World), (∀ x, W.cell? x = W1.cell? x) → (∀ x, W.frozen? x = W1.frozen? x) → ∀ ty dc, (Builtin.copy_ #[84, 84] ty #[.slice (some ⟨w.heap.size, i * 2, none⟩) (L.length + 1 - i) dc, .slice (some ⟨vb, 0, none⟩) 1 vc]).run Tryz.prog W = .ok (goInt ((1 : Nat) : Int)) (W.setCells w.heap.size (i * 2) (encL [x])) := fun W hWc hWf ty dc =>
  run_copy2 W 84 84 ty w.heap.size (i * 2) _ dc ⟨vb, 0, none⟩ 1 vc 1 (encL [x]) Tryz.underlying84 (by simp only [Nat.min_def]; split <;> omega) rfl
   (fun j v hj => by
    have := cells_of_box hv j v hj
    rw [Addr.add_lit] at this ⊢
    rw [hWc]; exact hOv _ v this)
   (fun j hj => by rw [hWc]; exact hN1 _ (by rw [encL_length] at hj; simp at hj; omega)) (fun j hj => by rw [hWf]; exact hNf _) (encL_one _)
 have hGN : G ≠ w.heap.size := by omega
 have hcpB : ∀ (W : World), (∀ y, W.cell? y = (W1.setCells w.heap.size (i * 2) (encL [x])).cell? y) → (∀ y, W.frozen? y = (W1.setCells w.heap.size (i * 2) (encL [x])).frozen? y) → ∀ ty dc sc, (Builtin.copy_ #[84, 84] ty #[.slice (some ⟨w.heap.size, (i + 1) * 2, none⟩) (L.length - i) dc, .slice (some ⟨G, i * 2, none⟩) (L.length - i) sc]).run Tryz.prog W = .ok (goInt ((L.length - i : Nat) : Int)) (W.setCells w.heap.size ((i + 1) * 2) (encL (L.drop i))) := fun W hWc hWf ty dc sc =>
  run_copy2 W 84 84 ty w.heap.size ((i + 1) * 2) _ dc ⟨G, i * 2, none⟩ _ sc (L.length - i) (encL (L.drop i)) Tryz.underlying84 (by simp) hdl
   (fun j v hj => by
    rw [Addr.add_lit, hWc, World.cell?_setCells_out _ _ _ _ _ (fun hb _ => absurd hb hGN)]
    exact hOb _ v (h.cells (by rw [← encL_drop, List.getElem?_drop] at hj; exact hj)))
   (fun j hj => by rw [hWc]; exact isSome_setCells w.heap.size (encL [x]) (i * 2) W1 (fun t ht => hN1 _ (by rw [encL_length] at ht; simp at ht; omega)) ((i + 1) * 2 + j) (hN1 _ (by rw [hdl] at hj; omega)))
   (fun j hj => by rw [hWf, World.frozen?_setCells]; exact hNf _) (encL_one _)
 subst hW1
 have hE1 : ∀ y, ((w.alloc (.cells ROW 113)).drew).cell? y = (w.drew.alloc (.cells ROW 113)).cell? y := fun y => rfl
 have hE2 : ∀ y, ((w.alloc (.cells ROW 113)).drew).frozen? y = (w.drew.alloc (.cells ROW 113)).frozen? y := fun y => rfl
 have hF1 : ∀ y, (((w.alloc (.cells ROW 113)).drew.setCells w.heap.size (i * 2) (encL [x])).drew).cell? y = ((w.drew.alloc (.cells ROW 113)).setCells w.heap.size (i * 2) (encL [x])).cell? y := fun y => rfl
 have hF2 : ∀ y, (((w.alloc (.cells ROW 113)).drew.setCells w.heap.size (i * 2) (encL [x])).drew).frozen? y = ((w.drew.alloc (.cells ROW 113)).setCells w.heap.size (i * 2) (encL [x])).frozen? y := fun y => rfl
 generalize hn : L.length = n at *
 generalize L.take i ++ x :: L.drop i = K at *
 generalize encL [x] = cx at *
 generalize encL (L.drop i) = cd at *
 have hz2' : ¬ ((i : Int) = (n : Int)) := by omega
 have hz3 : ((i : Int) == (n : Int)) = false := by simpa using hz2'
 have hz4 : (c : Int) < (n : Int) + 1 := by omega
 have hw1 : IntKind.i64.wrap ((i : Int) + 1) = (i : Int) + 1 := by rw [IntKind.wrap_i64]; omega
 have hb1 : (0 : Int) ≤ (i : Int) + 1 := by omega
 have hin : i ≤ n := by omega
 have htn : ((i : Int) + 1).toNat = i + 1 := by omega
 have hb3 : (i : Int) ≤ (n : Int) := by omega
 have hG63' : C ≤ 9223372036854775807 := hG63
 have hGi : ¬ (C = i) := by omega
 have hGim : ¬ (C = i + 1) := by omega
 have hci : ¬ (c = i) := by omega
 have hic : i ≤ c := by omega
 have HN := Lib.hid hn
 have HC := Lib.hid hroom
 clear hn hroom h hv hdl htl hkk hGcap hZl hRs hR hN1 hNf hOb hOv hz0 hG63
 go_enter Tryz.func203, Tryz.ntmps203
 go_wp2_with (first
  | (at_builtin; refine Lib.wpList_append_run _ rfl _ _ _ _ rfl _ _ rfl rfl _ _ (hrz _) ?_)
  | (refine wpList_copy_run _ rfl (.tmp 43) (.tmp 44) 84 84 rfl _ _ rfl rfl (hcpA _ hE1 hE2 _ _) ?_))
 go_region_law (refine step_copy_run rfl _ _ 84 84 rfl (.slice (some ⟨w.heap.size, (i + 1) * 2, none⟩) (n - i) (C - (i + 1))) (.slice (some ⟨G, i * 2, none⟩) (n - i) (c - i)) (by simp [Act.eval, Act.put]) (by simp [Act.eval, Act.put]) (hcpB _ hF1 hF2 3 (C - (i + 1)) (c - i)) ?_)
 all_goals
  go_wp2_with fail
  go_ret
  exact HF.out
theorem ins_any (c lo i vb vc : Nat) (o : Option Nat) (L : List En) (x : En) (w : World) (hi : i ≤ L.length) (hN : L.length ≤ 1000000) (hlo : lo ≤ w.heap.size) (h : Sl w lo o c L) (hv : w.heap[vb]? = some (.cells #[.string x.1, .int .i64 x.2] 113 (0, 0))) (hne : o ≠ some vb) :
  Calls Tryz.prog 203 #[.slice (Ao o) L.length c, .int .i64 i, .slice (some ⟨vb, 0, none⟩) 1 vc] w (InsE w lo o L.length (L.take i ++ x :: L.drop i)) := by
 have hc : L.length ≤ c ∧ c ≤ maxLen := by
  cases o with
  | none => obtain ⟨rfl, rfl⟩ := h; exact ⟨Nat.le_refl _, by unfold maxLen; omega⟩
  | some G => exact ⟨h.2.1, h.2.2.1⟩
 by_cases he : i = L.length
 ·rw [hx_of he]
  subst he
  exact ins_end c lo vb vc o L x w hN hlo h hc.2 hc.1 hv
 ·cases o with
  | none => obtain ⟨rfl, rfl⟩ := h; simp at hi he; omega
  | some G =>
   have hG : vb ≠ G := fun e => hne (by rw [e])
   by_cases hr : L.length + 1 ≤ c
   ·exact ins_room G c lo i vb vc L x w (by omega) hr hN h.1 h.2 hv hG
   ·exact ins_grow G c lo i vb vc L x w (by omega) (by omega) hN hlo h.2 hv hG
end Go.Proofs.YtpmpbmjjlccbbaaGreat.dn
