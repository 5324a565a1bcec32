/- 'Set' of a directory: a name that isn't there; all of it. -/
import Derived.Test.YtchjidijgdkhoaaSet2
namespace Go.Proofs.Ytchjidijgdkhoaa
open Go.RowKit Go.Shelf
set_option linter.unusedVariables false

theorem Du.sl {w : World} {D lo c : Nat} {o : Option Nat} {L : List En} (h : Du w D lo o c L) : Sl w lo o c L := by
  cases o with
  | none => exact h.row
  | some G => exact ⟨h.row.1, h.row.2.2⟩
theorem lset_len {s : ByteArray} {v : Int} {L : List En} (h : ∀ x, L[pos s L]? = some x → x.1 ≠ s) : (lset s v L).length = L.length + 1 := by
  rw [lset_new h]; simp; have := pos_le s L; omega
/-- Behind the insertion, and the store of the new slice. -/
theorem Du.stored {w W w4 : World} {D lo c : Nat} {o : Option Nat} {L K : List En} {n : Nat} {e : Ending} {vv : Value} (h : Du w D lo o c L) (hb : Below w.heap.size w W) (hK : K.length = n + 1) (hi : InsE W lo o n K e w4) :
    w4.cell? ⟨D, 0, none⟩ = some (.slice (Ao o) L.length c) ∧ w4.frozen? ⟨D, 0, none⟩ = false ∧ ∃ G c', e = .returned (.slice (some ⟨G, 0, none⟩) (n + 1) c') ∧
      StepE w D lo o vv K (.returned vv) (w4.setCell ⟨D, 0, none⟩ (.slice (some ⟨G, 0, none⟩) (n + 1) c')) := by
  obtain ⟨G, c', he, hr, hlo, hat, hg⟩ := hi
  have hD := h.lt
  have hDW : D < W.heap.size := Nat.lt_of_lt_of_le hD hb.size
  have hne : some D ≠ o := fun e => (h.glt D e.symm).2.2 rfl
  have hblk : w4.heap[D]? = w.heap[D]? := (hg.block D hDW hne).trans (hb.block D hD)
  have c0 := (World.cell?_of_block (a := ⟨D, 0, none⟩) hblk).trans h.d0
  have c1 := (World.frozen?_of_block (a := ⟨D, 0, none⟩) hblk).trans h.f0
  have hDG : D ≠ G := by
    rcases hat with e | e
    · exact (h.glt G e).2.2
    · omega
  refine ⟨c0, c1, G, c', he, rfl, some G, c', ⟨?_, by simpa using c1, hlo, hDG, hr.of_block (Below.heap_setCell _ _ _ _ (fun e => hDG (by simpa using e.symm)))⟩, fun G' e => ?_, ?_⟩
  · rw [World.cell?_setCell_same _ _ _ c0, hK]; rfl
  · injection e with e; subst e; exact hat.imp id (fun e => Nat.le_trans hb.size e)
  · exact ((Fr.below hb).trans (Fr.grown (Q := D) hg) (fun k e => .inl e)).trans (Fr.setQ w4 D o _) (fun k e => .inl e)

set_option maxHeartbeats 2000000 in
theorem set_new (D lo c : Nat) (o : Option Nat) (L : List En) (s : ByteArray) (v : Int) (w : World) (hm : s.size ≤ 9223372036854775807) (h : Du w D lo o c L) (hlo : lo ≤ w.heap.size) (hs : Sorted L) (hN : L.length ≤ 900000) (he : nerr s.data.toList = 0) (hd : dotB s = false) (hv : ¬ v < 1) (ht : thereB s L = false) :
    Calls Try.prog 10 #[Pq D, .string s, .int .i64 v] w (StepE w D lo o (.int .i64 0) (lset s v L)) := by
  have HNA := Lib.hid (name_any s w hm)
  unfold NameE at HNA
  rw [he] at HNA
  have HP := Lib.hid (fun W (hb : Below w.heap.size w W) => place_any D lo c o L s W hs (by omega) (h.below hb))
  unfold PlaceE at HP
  rw [ht] at HP
  obtain ⟨hl, hno⟩ := there_no hs ht
  have HD0 := Lib.hid (fun W (hb : Below w.heap.size w W) => (h.below hb).d0)
  have HI := Lib.hid (fun W (hb : Below w.heap.size w W) => ins_any c lo (pos s L) W.heap.size 1 o L (s, v) (W.alloc (.cells #[.string s, .int .i64 v] 37)) (pos_le s L) (by omega) (by simp; have := hb.size; omega)
    ((h.below (below_step hb (below_alloc W _))).sl) (heap_alloc_new W _) (fun e => by have := (h.glt _ e).1; have := hb.size; omega))
  rw [← lset_new hno] at HI
  have HST := Lib.hid (fun W w4 e (hb : Below w.heap.size w W) hi => Du.stored (W := W) (w4 := w4) (e := e) (n := L.length) (vv := .int .i64 0) h hb (lset_len (v := v) hno) hi)
  have hq : (s.toList == [46]) = false ∧ (s.toList == [46, 46]) = false := by simpa [dotB] using hd
  obtain ⟨h1, h2⟩ := hq
  generalize pos s L = k at *
  generalize lset s v L = K at *
  generalize L.length = n at *
  clear h hs he hd ht hl hno
  go_enter Try.func10, Try.ntmps10
  go_wp2_with fail
  refine HNA.out.mono ?_
  rintro e w2 ⟨rfl, hb2⟩
  have HP2 := Lib.hid (HP.out _ hb2)
  have HB2 := Lib.hid hb2
  clear hb2 HP HNA
  go_wp2_with fail
  refine HP2.out.mono ?_
  rintro e w3 ⟨rfl, hb3⟩
  have hb4 := below_step HB2.out hb3
  have d0 := HD0.out w3 hb4
  have HI3 := Lib.hid (HI.out w3 hb4)
  have HST3 := Lib.hid (fun w4 e hi => HST.out (w3.alloc (.cells #[.string s, .int .i64 v] 37)) w4 e (below_step hb4 (below_alloc w3 _)) hi)
  clear HP2 hb3 hb4 HD0 HI HST
  go_wp2_with fail
  refine HI3.out.mono ?_
  intro e w4 hi
  obtain ⟨c0, c1, G, c', rfl, hst⟩ := HST3.out w4 e hi
  have HR := Lib.hid hst
  clear hi hst HI3 HST3 d0
  go_wp2_with fail
  go_ret
  exact HR.out

/-- 'Set', whatever the name and the number. -/
theorem set_any (D lo c : Nat) (o : Option Nat) (L : List En) (s : ByteArray) (v : Int) (w : World) (hm : s.size ≤ 9223372036854775807) (h : Du w D lo o c L) (hlo : lo ≤ w.heap.size) (hs : Sorted L) (hN : L.length ≤ 900000) :
    Calls Try.prog 10 #[Pq D, .string s, .int .i64 v] w (StepE w D lo o (.int .i64 (serr s v)) (lsetE s v L)) := by
  unfold lsetE serr
  by_cases he : nerr s.data.toList = 0
  · rw [if_neg (by simpa using he)]
    by_cases hd : dotB s = true ∨ v < 1
    · rw [if_pos hd, if_neg (by decide)]
      exact set_dot D lo c o L s v w hm h he hd
    · rw [if_neg hd, if_pos rfl]
      have hd1 : dotB s = false := by simpa using fun e => hd (.inl e)
      have hv : ¬ v < 1 := fun e => hd (.inr e)
      cases ht : thereB s L
      · exact set_new D lo c o L s v w hm h hlo hs hN he hd1 hv ht
      · exact set_old D lo c o L s v w hm h hs (by omega) he hd1 hv ht
  · rw [if_pos (by simpa using he), if_neg he]
    exact set_name D lo c o L s v w hm h he
end Go.Proofs.Ytchjidijgdkhoaa
