/- 'Set' of a directory: what becomes of the row. -/
import Derived.Test.YtchjidijgdkhoaaSet
namespace Go.Proofs.Ytchjidijgdkhoaa
open Go.RowKit Go.Shelf
set_option linter.unusedVariables false

set_option maxHeartbeats 1000000 in
theorem set_name (D lo c : Nat) (o : Option Nat) (L : List En) (s : ByteArray) (v : Int) (w : World) (hm : s.size ≤ 9223372036854775807) (h : Du w D lo o c L) (he : nerr s.data.toList ≠ 0) :
    Calls Try.prog 10 #[Pq D, .string s, .int .i64 v] w (StepE w D lo o (.int .i64 (nerr s.data.toList)) L) := by
  have HN := Lib.hid (name_any s w hm)
  unfold NameE at HN
  have HF := Lib.hid (fun w' hb => stepE_same (v := .int .i64 (nerr s.data.toList)) (w' := w') h hb)
  generalize nerr s.data.toList = r at *
  have hr : (r != 0) = true := by simpa using he
  have hr2 : (r == 0) = false := by simpa using he
  clear h he
  go_enter Try.func10, Try.ntmps10
  go_wp2_with fail
  refine HN.out.mono ?_
  rintro e w2 ⟨rfl, hb2⟩
  go_wp2_with fail
  go_ret
  exact HF.out _ hb2

theorem Du.frozen {w : World} {D lo c G : Nat} {o : Option Nat} {L : List En} (h : Du w D lo o c L) (ho : o = some G) (k : Nat) : w.frozen? ⟨G, k, none⟩ = false := by subst ho; exact h.row.2.2.frozen k
set_option maxHeartbeats 1000000 in
theorem set_dot (D lo c : Nat) (o : Option Nat) (L : List En) (s : ByteArray) (v : Int) (w : World) (hm : s.size ≤ 9223372036854775807) (h : Du w D lo o c L) (he : nerr s.data.toList = 0) (hd : dotB s = true ∨ v < 1) :
    Calls Try.prog 10 #[Pq D, .string s, .int .i64 v] w (StepE w D lo o (.int .i64 22) L) := by
  have HN := Lib.hid (name_any s w hm)
  unfold NameE at HN
  rw [he] at HN
  have HF := Lib.hid (fun w' hb => stepE_same (v := .int .i64 22) (w' := w') h hb)
  unfold dotB at hd
  have hq1 : ∃ a, (s.toList == [46]) = a := ⟨_, rfl⟩
  have hq2 : ∃ a, (s.toList == [46, 46]) = a := ⟨_, rfl⟩
  obtain ⟨q1, h1⟩ := hq1
  obtain ⟨q2, h2⟩ := hq2
  rw [h1, h2] at hd
  clear h he
  have hd' : q1 = true ∨ (q1 = false ∧ q2 = true) ∨ (q1 = false ∧ q2 = false ∧ v < 1) := by
    cases q1 <;> cases q2 <;> simp at hd ⊢ <;> exact hd
  clear hd
  rcases hd' with rfl | ⟨rfl, rfl⟩ | ⟨rfl, rfl, hv⟩
  all_goals
    go_enter Try.func10, Try.ntmps10
    go_wp2_with fail
    refine HN.out.mono ?_
    rintro e w2 ⟨rfl, hb2⟩
    go_wp2_with fail
    go_ret
    exact HF.out _ hb2

theorem Du.old {w w2 : World} {D lo c : Nat} {o : Option Nat} {L : List En} {s : ByteArray} {x : En} {v : Int} {G : Nat} (h : Du w2 D lo (some G) c L) (hx : L[pos s L]? = some x) (hs : x.1 = s) (hb : Below w.heap.size w w2) (hD : D < w.heap.size) (ho : o = some G) :
    StepE w D lo o (.int .i64 0) (lset s v L) (.returned (.int .i64 0)) (w2.setCell ⟨G, pos s L * 2 + 1, none⟩ (.int .i64 v)) := by
  subst ho
  rw [lset_old hx hs]
  have hr := h.row.2.2.setNum hx v
  rw [hs] at hr
  refine ⟨rfl, some G, c, ⟨?_, by simpa using h.f0, h.row.1, h.row.2.1, hr⟩, fun G e => .inl e, ?_⟩
  · rw [World.cell?_setCell_other _ _ _ _ (fun e => h.row.2.1 (by have := congrArg Addr.block e; simpa using this.symm)), List.length_set]; exact h.d0
  · exact (Fr.below hb).trans (Fr.grown (grownBy_set w2 G _ _)) (fun k e => .inl e)

set_option maxHeartbeats 2000000 in
theorem set_old (D lo c : Nat) (o : Option Nat) (L : List En) (s : ByteArray) (v : Int) (w : World) (hm : s.size ≤ 9223372036854775807) (h : Du w D lo o c L) (hs : Sorted L) (hN : L.length ≤ 1000000) (he : nerr s.data.toList = 0) (hd : dotB s = false) (hv : ¬ v < 1) (ht : thereB s L = true) :
    Calls Try.prog 10 #[Pq D, .string s, .int .i64 v] w (StepE w D lo o (.int .i64 0) (lset s v L)) := by
  have HNA := Lib.hid (name_any s w hm)
  unfold NameE at HNA
  rw [he] at HNA
  have HP := Lib.hid (fun W (hb : Below w.heap.size w W) => place_any D lo c o L s W hs hN (h.below hb))
  unfold PlaceE at HP
  rw [ht] at HP
  obtain ⟨x, hx, hxs, hl⟩ := there_yes hs ht
  have hk := (List.getElem?_eq_some_iff.1 hx).1
  have HX := Lib.hid (fun W (hb : Below w.heap.size w W) => (h.below hb).at_ hx)
  have HD := Lib.hid (fun W (hb : Below w.heap.size w W) => (h.below hb))
  have HF := Lib.hid (fun W G (hb : Below w.heap.size w W) (ho : o = some G) => Du.old (w := w) (v := v) (o := o) (by rw [← ho]; exact h.below hb) hx hxs hb h.lt ho)
  have hq : (s.toList == [46]) = false ∧ (s.toList == [46, 46]) = false := by simpa [dotB] using hd
  obtain ⟨h1, h2⟩ := hq
  have HFZ := Lib.hid (fun W (hb : Below w.heap.size w W) G (ho : o = some G) k => (h.below hb).frozen ho k)
  have HD0 := Lib.hid (fun W (hb : Below w.heap.size w W) => (h.below hb).d0)
  generalize pos s L = k at *
  generalize lset s v L = K at *
  generalize L.length = n at *
  clear h hs he hd ht hx hxs hl
  go_enter Try.func10, Try.ntmps10
  go_wp2_with fail
  refine HNA.out.mono ?_
  rintro e w2 ⟨rfl, hb2⟩
  have HP2 := Lib.hid (HP.out _ hb2)
  have HB2 := Lib.hid hb2
  clear hb2 HP HNA
  go_wp2_with fail
  refine HP2.out.mono ?_
  rintro e w3 ⟨rfl, hb3⟩
  have hb4 := below_step HB2.out hb3
  obtain ⟨G, ho, f0, f1⟩ := HX.out w3 hb4
  have d0 := HD0.out w3 hb4
  have z0 := HFZ.out w3 hb4 G ho (k * 2 + 1)
  have HR := Lib.hid (HF.out w3 G hb4 ho)
  rw [ho] at d0
  clear HP2 hb3 hb4 HX HD HFZ HD0 HF f0
  go_wp2_with fail
  go_ret
  exact HR.out
end Go.Proofs.Ytchjidijgdkhoaa
