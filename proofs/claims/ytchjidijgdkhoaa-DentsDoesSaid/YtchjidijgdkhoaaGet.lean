/- 'Get', 'Len', 'Next' of a directory. -/
import Derived.Test.YtchjidijgdkhoaaPlace
namespace Go.Proofs.Ytchjidijgdkhoaa
open Go.RowKit Go.Shelf
set_option linter.unusedVariables false

def getV (s : ByteArray) (L : List En) : Value := match lget s L with | some v => .tuple #[.int .i64 v, .int .i64 0] | none => .tuple #[.int .i64 0, .int .i64 2]
theorem there_yes {s : ByteArray} {L : List En} (hs : Sorted L) (h : thereB s L = true) : ∃ x, L[pos s L]? = some x ∧ x.1 = s ∧ lget s L = some x.2 := by
  unfold thereB at h
  have h2 := lget_pos (s := s) hs
  cases hx : L[pos s L]? with
  | none => rw [hx] at h; cases h
  | some x =>
    rw [hx] at h h2
    have h3 : x.1 = s := by simpa using h
    exact ⟨x, rfl, h3, by simpa [h3] using h2⟩
theorem there_no {s : ByteArray} {L : List En} (hs : Sorted L) (h : thereB s L = false) : lget s L = none ∧ ∀ x, L[pos s L]? = some x → x.1 ≠ s := by
  unfold thereB at h
  have h2 := lget_pos (s := s) hs
  cases hx : L[pos s L]? with
  | none => rw [hx] at h2; exact ⟨h2, fun x e => by cases e⟩
  | some x =>
    rw [hx] at h h2
    have h3 : x.1 ≠ s := by simpa using h
    exact ⟨by simpa [h3] using h2, fun y e => by injection e with e; subst e; exact h3⟩

set_option maxHeartbeats 1000000 in
theorem get_any (D lo c : Nat) (o : Option Nat) (L : List En) (s : ByteArray) (w : World) (hs : Sorted L) (hN : L.length ≤ 1000000) (h : Du w D lo o c L) :
    Calls Try.prog 14 #[Pq D, .string s] w (RetV w (getV s L)) := by
  have HP := Lib.hid (place_any D lo c o L s w hs hN h)
  have HH := Lib.hid h
  unfold PlaceE at HP
  unfold RetV
  cases hb : thereB s L
  · have HV := Lib.hid (show getV s L = .tuple #[.int .i64 0, .int .i64 2] by unfold getV; rw [(there_no hs hb).1])
    rw [hb] at HP
    generalize pos s L = k at *
    generalize getV s L = r at *
    clear hs hb h
    go_enter Try.func14, Try.ntmps14
    go_wp2_with fail
    refine HP.out.mono ?_
    rintro e w2 ⟨rfl, hb2⟩
    go_wp2_with fail
    go_ret2
    exact ⟨by rw [HV.out]; rfl, hb2⟩
  · obtain ⟨x, hx, hn, hl⟩ := there_yes hs hb
    have HV := Lib.hid (show getV s L = .tuple #[.int .i64 x.2, .int .i64 0] by unfold getV; rw [hl])
    rw [hb] at HP
    have hk := (List.getElem?_eq_some_iff.1 hx).1
    have HX := Lib.hid (fun W (hb : Below w.heap.size w W) => (h.below hb).at_ hx)
    have HD := Lib.hid (fun W (hb : Below w.heap.size w W) => (h.below hb).d0)
    generalize pos s L = k at *
    generalize getV s L = r at *
    generalize L.length = n at *
    obtain ⟨xs, xv⟩ := x
    dsimp only at *
    clear hs hb h hx hn hl
    go_enter Try.func14, Try.ntmps14
    go_wp2_with fail
    refine HP.out.mono ?_
    rintro e w2 ⟨rfl, hb2⟩
    obtain ⟨G, rfl, f0, f1⟩ := HX.out w2 hb2
    have d0 := HD.out w2 hb2
    clear HP HX HD
    go_wp2_with fail
    go_ret2
    exact ⟨by rw [HV.out]; rfl, hb2⟩

theorem dlen_any (D lo c : Nat) (o : Option Nat) (L : List En) (w : World) (h : Du w D lo o c L) :
    Calls Try.prog 18 #[Pq D] w (fun e w' => e = .returned (.int .i64 L.length) ∧ w' = w) := by
  have d0 := h.d0
  generalize L.length = n at *
  clear h
  go_enter Try.func18, Try.ntmps18
  go_wp2_with fail
  go_ret
  exact ⟨rfl, rfl⟩

theorem three_boxes {w w2 : World} {v0 v1 v2 v3 : Value} {t0 t1 t2 : TypeId} (hb : Below (((w.alloc (.cells #[v0] t0)).alloc (.cells #[v1] t1)).alloc (.cells #[v2, v3] t2)).heap.size (((w.alloc (.cells #[v0] t0)).alloc (.cells #[v1] t1)).alloc (.cells #[v2, v3] t2)) w2) :
    w2.cell? ⟨w.heap.size, 0, none⟩ = some v0 ∧ w2.cell? ⟨w.heap.size + 1, 0, none⟩ = some v1 ∧ w2.cell? ⟨w.heap.size + 1 + 1, 0, none⟩ = some v2 ∧ w2.cell? ⟨w.heap.size + 1 + 1, 1, none⟩ = some v3 ∧ w2.frozen? ⟨w.heap.size + 1 + 1, 0, none⟩ = false ∧ w2.frozen? ⟨w.heap.size + 1 + 1, 1, none⟩ = false := by
  have hz : ∀ (W : World) (o : Obj), (W.alloc o).heap.size = W.heap.size + 1 := fun W o => World.size_alloc W o
  have n2 : ∀ (W : World), (W.alloc (.cells #[v2, v3] t2)).cell? ⟨W.heap.size, 0, none⟩ = some v2 ∧ (W.alloc (.cells #[v2, v3] t2)).cell? ⟨W.heap.size, 1, none⟩ = some v3 ∧ (W.alloc (.cells #[v2, v3] t2)).frozen? ⟨W.heap.size, 0, none⟩ = false ∧ (W.alloc (.cells #[v2, v3] t2)).frozen? ⟨W.heap.size, 1, none⟩ = false := fun W => by simp
  have n1 : ∀ (W : World), (W.alloc (.cells #[v1] t1)).cell? ⟨W.heap.size, 0, none⟩ = some v1 := fun W => by simp
  have n0 : ∀ (W : World), (W.alloc (.cells #[v0] t0)).cell? ⟨W.heap.size, 0, none⟩ = some v0 := fun W => by simp
  obtain ⟨m0, m1, m2, m3⟩ := n2 ((w.alloc (.cells #[v0] t0)).alloc (.cells #[v1] t1))
  simp only [hz] at m0 m1 m2 m3 hb
  have l1 := n1 (w.alloc (.cells #[v0] t0))
  rw [hz] at l1
  have far : ∀ (W : World) (o : Obj) (B : Nat), B < W.heap.size → (W.alloc o).cell? ⟨B, 0, none⟩ = W.cell? ⟨B, 0, none⟩ := fun W o B h => (below_alloc W o).cell (p := ⟨B, 0, none⟩) h
  refine ⟨(hb.cell (p := ⟨w.heap.size, 0, none⟩) (by show w.heap.size < _; omega)).trans ?_, (hb.cell (p := ⟨w.heap.size + 1, 0, none⟩) (by show w.heap.size + 1 < _; omega)).trans ?_, (hb.cell (p := ⟨w.heap.size + 1 + 1, 0, none⟩) (by show w.heap.size + 1 + 1 < _; omega)).trans m0, (hb.cell (p := ⟨w.heap.size + 1 + 1, 1, none⟩) (by show w.heap.size + 1 + 1 < _; omega)).trans m1, (hb.frozen (p := ⟨w.heap.size + 1 + 1, 0, none⟩) (by show w.heap.size + 1 + 1 < _; omega)).trans m2, (hb.frozen (p := ⟨w.heap.size + 1 + 1, 1, none⟩) (by show w.heap.size + 1 + 1 < _; omega)).trans m3⟩
  · rw [far _ _ _ (by rw [hz, hz]; omega), far _ _ _ (by rw [hz]; omega)]; exact n0 w
  · rw [far _ _ _ (by rw [hz, hz]; omega)]; exact l1

def nextV (s : ByteArray) (L : List En) : Value := match lnext s L with | some x => .tuple #[Ev x, .bool true] | none => .tuple #[Ev (⟨#[]⟩, 0), .bool false]
set_option maxHeartbeats 2000000 in
theorem next_any (D lo c : Nat) (o : Option Nat) (L : List En) (s : ByteArray) (w : World) (hs : Sorted L) (hN : L.length ≤ 1000000) (h : Du w D lo o c L) :
    Calls Try.prog 16 #[Pq D, .string s] w (RetV w (nextV s L)) := by
  have HC := Lib.hid (fun ob => find30 D lo c o L s w ob hs hN h)
  have HB := Lib.hid (fun ob => show Below w.heap.size w (((w.alloc (.cells #[Pq D] 24)).alloc (.cells #[.string s] 9)).alloc ob) from (((Below.refl _ _).alloc (Nat.le_refl _) _).alloc (by simp) _).alloc (by simp <;> omega) _)
  have hz := nps_le s L
  have d0 := h.d0
  have hD := h.lt
  have HH := Lib.hid h
  have HV := Lib.hid (show nextV s L = match L[nps s L]? with | some x => .tuple #[Ev x, .bool true] | none => .tuple #[Ev (⟨#[]⟩, 0), .bool false] by unfold nextV; rw [lnext_nps])
  have HX := Lib.hid (fun (hk : nps s L < L.length) => (⟨L[nps s L], List.getElem?_eq_getElem hk⟩ : ∃ x, L[nps s L]? = some x))
  unfold RetV
  generalize hn : L.length = n at *
  generalize hk : nps s L = k at *
  generalize hr : nextV s L = r at *
  have HN2 := Lib.hid hn
  have d3 := fun ob => ((HB.out ob).cell (p := ⟨D, 0, none⟩) hD).trans d0
  clear h hn hk hr hs
  go_enter Try.func16, Try.ntmps16
  go_wp2_with fail
  refine (HC.out _).mono ?_
  rintro e w2 ⟨rfl, hb2⟩
  have hz2 := hb2.size
  obtain ⟨b0, b1, b2, b3, b4, b5⟩ := three_boxes hb2
  have HDu := Lib.hid ((HH.out.below (HB.out _)).below hb2)
  have c0 := HDu.out.d0
  rw [HN2.out] at c0
  have HBB := Lib.hid (below_step (HB.out _) hb2)
  by_cases hlt : k < n
  · obtain ⟨x, hx⟩ := HX.out hlt
    obtain ⟨G, rfl, g0, g1⟩ := HDu.out.at_ hx
    have HR := Lib.hid (HV.out.trans (by rw [hx]) : r = .tuple #[Ev x, .bool true])
    obtain ⟨xs, xv⟩ := x
    dsimp only at *
    have hltz : ((k : Int) == (n : Int)) = false := by rw [beq_eq_false_iff_ne]; omega
    clear HV HX hx HC hb2 d0 d3 HB
    go_wp2_with fail
    refine bodyPost_ret (v := .tuple #[Ev (xs, xv), .bool true]) (by simp [results, Try.results16, go_sem, b2, b3]) rfl ⟨by rw [HR.out], ?_⟩
    exact (HBB.out.setCell (by simp <;> omega) _).setCell (by simp <;> omega) _
  · have hkn : k = n := by omega
    have HR := Lib.hid (HV.out.trans (by rw [List.getElem?_eq_none (by rw [HN2.out]; omega)]) : r = .tuple #[Ev (⟨#[]⟩, 0), .bool false])
    subst hkn
    clear HV HX HC hb2 d0 d3 HB hlt
    go_wp2_with fail
    refine bodyPost_ret (v := .tuple #[Ev (⟨#[]⟩, 0), .bool false]) (by simp [results, Try.results16, go_sem, b2, b3]) rfl ⟨by rw [HR.out], ?_⟩
    exact (HBB.out.setCell (by simp <;> omega) _).setCell (by simp <;> omega) _
end Go.Proofs.Ytchjidijgdkhoaa
