/- 'place', 'Get', 'Len' of a directory. -/
import Derived.Test.YtchjidijgdkhoaaFind
namespace Go.Proofs.Ytchjidijgdkhoaa
open Go.RowKit Go.Shelf
set_option linter.unusedVariables false

theorem e33 : Enters Try.prog 33 := enters_of Try.func33 (by kernel_rfl) rfl
theorem e30 : Enters Try.prog 30 := enters_of Try.func30 (by kernel_rfl) rfl
def thereB (s : ByteArray) (L : List En) : Bool := match L[pos s L]? with | some x => decide (x.1 = s) | none => false
def PlaceE (w : World) (s : ByteArray) (L : List En) (e : Ending) (w' : World) : Prop := e = .returned (.tuple #[.int .i64 (pos s L), .bool (thereB s L)]) ∧ Below w.heap.size w w'

theorem find33 (D lo c : Nat) (o : Option Nat) (L : List En) (s : ByteArray) (w : World) (hs : Sorted L) (hN : L.length ≤ 1000000) (h : Du w D lo o c L) :
    Calls Try.prog 29 #[.int .i64 L.length, .func (.func 33) #[] #[.pointer (some ⟨w.heap.size, 0, none⟩), .pointer (some ⟨w.heap.size + 1, 0, none⟩)]] ((w.alloc (.cells #[Pq D] 24)).alloc (.cells #[.string s] 9))
      (RetI ((w.alloc (.cells #[Pq D] 24)).alloc (.cells #[.string s] 9)) (pos s L)) := by
  have hb : Below w.heap.size w ((w.alloc (.cells #[Pq D] 24)).alloc (.cells #[.string s] 9)) := ((Below.refl _ _).alloc (Nat.le_refl _) _).alloc (by simp) _
  refine search_any 33 L.length (pos s L) _ (fun i => decide (pos s L ≤ i)) _ e33 hN (pos_le _ _) (fun W hW i hi => ?_) (fun i hi => decide_eq_false (by omega)) (fun i hi _ => decide_eq_true hi)
  have hx : L[i]? = some L[i] := List.getElem?_eq_getElem hi
  have := asks33 w.heap.size (w.heap.size + 1) D lo c i o L s L[i] W hN ((hW.cell (p := ⟨w.heap.size, 0, none⟩) (by simp; omega)).trans (by simp)) ((hW.cell (p := ⟨w.heap.size + 1, 0, none⟩) (by simp)).trans (by simp)) ((h.below hb).below hW) hx
  have e : (!lessB L[i].1 s) = decide (pos s L ≤ i) := by
    by_cases hp : pos s L ≤ i
    · rw [decide_eq_true hp, pos_ge hs hp hx]; rfl
    · rw [decide_eq_false hp, pos_lt (by omega) hx]; rfl
  rw [e] at this
  exact this
theorem find30 (D lo c : Nat) (o : Option Nat) (L : List En) (s : ByteArray) (w : World) (ob : Obj) (hs : Sorted L) (hN : L.length ≤ 1000000) (h : Du w D lo o c L) :
    Calls Try.prog 29 #[.int .i64 L.length, .func (.func 30) #[] #[.pointer (some ⟨w.heap.size + 1, 0, none⟩), .pointer (some ⟨w.heap.size, 0, none⟩)]] (((w.alloc (.cells #[Pq D] 24)).alloc (.cells #[.string s] 9)).alloc ob)
      (RetI (((w.alloc (.cells #[Pq D] 24)).alloc (.cells #[.string s] 9)).alloc ob) (nps s L)) := by
  have hb : Below w.heap.size w (((w.alloc (.cells #[Pq D] 24)).alloc (.cells #[.string s] 9)).alloc ob) := (((Below.refl _ _).alloc (Nat.le_refl _) _).alloc (by simp) _).alloc (by simp <;> omega) _
  have hz := below_alloc ((w.alloc (.cells #[Pq D] 24)).alloc (.cells #[.string s] 9)) ob
  refine search_any 30 L.length (nps s L) _ (fun i => decide (nps s L ≤ i)) _ e30 hN (nps_le _ _) (fun W hW i hi => ?_) (fun i hi => decide_eq_false (by omega)) (fun i hi _ => decide_eq_true hi)
  have hx : L[i]? = some L[i] := List.getElem?_eq_getElem hi
  have := asks30 w.heap.size (w.heap.size + 1) D lo c i o L s L[i] W hN ((hW.cell (p := ⟨w.heap.size, 0, none⟩) (by simp; omega)).trans ((hz.cell (p := ⟨w.heap.size, 0, none⟩) (by simp; omega)).trans (by simp))) ((hW.cell (p := ⟨w.heap.size + 1, 0, none⟩) (by simp)).trans ((hz.cell (p := ⟨w.heap.size + 1, 0, none⟩) (by simp)).trans (by simp))) ((h.below hb).below hW) hx
  have e : (lessB s L[i].1) = decide (nps s L ≤ i) := by
    by_cases hp : nps s L ≤ i
    · rw [decide_eq_true hp, nps_ge hs hp hx]
    · rw [decide_eq_false hp, nps_lt (by omega) hx]
  rw [e] at this
  exact this

set_option maxHeartbeats 2000000 in
theorem place_any (D lo c : Nat) (o : Option Nat) (L : List En) (s : ByteArray) (w : World) (hs : Sorted L) (hN : L.length ≤ 1000000) (h : Du w D lo o c L) :
    Calls Try.prog 24 #[Pq D, .string s] w (PlaceE w s L) := by
  have HC := Lib.hid (find33 D lo c o L s w hs hN h)
  have hb : Below w.heap.size w ((w.alloc (.cells #[Pq D] 24)).alloc (.cells #[.string s] 9)) := ((Below.refl _ _).alloc (Nat.le_refl _) _).alloc (by simp) _
  have hD := h.lt
  have d0 := h.d0
  have HH := Lib.hid h
  have HB := Lib.hid hb
  have hcap := h.cap
  have hkl := pos_le s L
  have HT : Hid (thereB s L = match L[pos s L]? with | some x => decide (x.1 = s) | none => false) := rfl
  have HX := Lib.hid (fun (hk : pos s L < L.length) => (⟨L[pos s L], List.getElem?_eq_getElem hk⟩ : ∃ x, L[pos s L]? = some x))
  unfold PlaceE
  generalize hn : L.length = n at *
  generalize hk : pos s L = k at *
  generalize hr : thereB s L = r at *
  have HN2 := Lib.hid hn
  have HK2 := Lib.hid hk
  clear h hb hn hk hr hs
  go_enter Try.func24, Try.ntmps24
  go_wp2_with fail
  refine HC.out.mono ?_
  rintro e w2 ⟨rfl, hb2⟩
  have b0 := (hb2.cell (p := ⟨w.heap.size, 0, none⟩) (by simp; omega)).trans (show _ = some (Pq D) by simp)
  have b1 := (hb2.cell (p := ⟨w.heap.size + 1, 0, none⟩) (by simp)).trans (show _ = some (.string s) by simp)
  have HDu := Lib.hid ((HH.out.below HB.out).below hb2)
  have c0 := HDu.out.d0
  rw [HN2.out] at c0
  have HBB := Lib.hid (below_step HB.out hb2)
  by_cases hlt : k < n
  · obtain ⟨x, hx⟩ := HX.out hlt
    obtain ⟨G, rfl, g0, g1⟩ := HDu.out.at_ hx
    have HR := Lib.hid (HT.out.trans (by rw [hx]))
    obtain ⟨xs, xv⟩ := x
    dsimp only at *
    rw [← beq_names] at HR
    have HRR := HR
    obtain ⟨q, hq⟩ : ∃ q, (xs.toList == s.toList) = q := ⟨_, rfl⟩
    have hrq : r = q := HR.out.trans hq
    subst hrq
    have hltz : decide ((k : Int) < (n : Int)) = true := by simpa using hlt
    clear HT HX hx g1 HC hb2 HR HRR d0
    go_wp2_with fail
    go_quiet (fail)
    go_wp2_with fail
    go_ret2
    exact ⟨rfl, below_drewN HBB.out _⟩
  · have hkn : k = n := by omega
    have HR := Lib.hid (HT.out.trans (by rw [List.getElem?_eq_none (by rw [HN2.out]; omega)]) : r = false)
    subst hkn
    have hltz : decide ((k : Int) < (k : Int)) = false := by simp
    obtain rfl : r = false := HR.out
    clear HT HX HC hb2 d0 hlt HR
    go_wp2_with fail
    go_quiet (fail)
    go_wp2_with fail
    go_ret2
    exact ⟨rfl, below_drewN HBB.out _⟩
end Go.Proofs.Ytchjidijgdkhoaa
