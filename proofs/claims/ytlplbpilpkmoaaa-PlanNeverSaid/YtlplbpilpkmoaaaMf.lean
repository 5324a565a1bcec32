/- 'Ready', 'Waiting', 'Stuck', 'Pick'; 'only', 'each'. -/
import Derived.Test.YtlplbpilpkmoaaaMe
import Derived.Laws.OwnMore
namespace Go.Proofs.Ytlplbpilpkmoaaa.sc
open Go.RowKit Go.Shelf
set_option linter.unusedVariables false
set_option linter.unusedSimpArgs false

theorem IntsE.lift {w w1 : World} {L : List Nat} {e : Ending} {w' : World} (hb : Below w.heap.size w w1) (h : IntsE w1 L e w') : ∃ A c, e = .returned (.slice A L.length c) ∧ w'.ownsRow w.heap.size 3 1 (.slice A L.length c) L.length (L.map Iv) ∧ Below w.heap.size w w' := by
  obtain ⟨v, rfl, ho, hb2⟩ := h
  obtain ⟨A, c, rfl⟩ := own_slice ho
  refine ⟨A, c, rfl, ⟨ho.1, ?_⟩, below_step hb hb2⟩
  rcases ho.2 with h1 | ⟨g, cap, cur, h1, h2, h3⟩
  · exact .inl h1
  · exact .inr ⟨g, cap, cur, h1, Nat.le_trans hb.size h2, h3⟩
theorem own_at {w : World} {b n c : Nat} {A : Option Addr} {L : List Nat} (h : w.ownsRow b 3 1 (.slice A n c) n (L.map Iv)) (j : Nat) (hj : j < n) : ∃ gg, A = some ⟨gg, 0, none⟩ ∧ w.cell? ⟨gg, j, none⟩ = some (Iv (L.getD j 0)) := by
  have hl : L.length = n := by have := h.1; simpa using this
  rcases h.2 with ⟨h1, h2⟩ | ⟨gg, cap, cur, h1, _⟩
  · omega
  · injection h1 with h1 h2 h3
    subst h1; subst h3
    refine ⟨gg, rfl, ?_⟩
    rw [h.cellAt j (by omega), List.getElem?_map, List.getElem?_eq_getElem (show j < L.length by omega)]
    simp [List.getD, List.getElem?_eq_getElem (show j < L.length by omega)]
section
variable {w0 w : World} {P B M : Nat} {tg : Nat → Tag} {f : Int → Option Value} {s : Sd}
theorem ready_any (h : SbX w0 w P B M tg f s) : Calls Try.prog 32 #[Pq P] w (IntsE w (s.at_ 0)) := by
  have HC := Lib.hid (in_any h 0)
  rw [show (((0 : Nat) : Int)) = 0 from rfl] at HC
  generalize s.at_ 0 = L at *
  clear h
  go_enter Try.func32, Try.ntmps32
  go_wp2_with fail
  refine HC.out.mono ?_
  rintro e w2 ⟨v, rfl, ho, hb⟩
  go_wp2_with fail
  go_ret
  exact ⟨_, rfl, ho, hb⟩
theorem waiting_any (h : SbX w0 w P B M tg f s) : Calls Try.prog 23 #[Pq P] w (IntsE w (s.at_ 1)) := by
  have HC := Lib.hid (in_any h 1)
  rw [show (((1 : Nat) : Int)) = 1 from rfl] at HC
  generalize s.at_ 1 = L at *
  clear h
  go_enter Try.func23, Try.ntmps23
  go_wp2_with fail
  refine HC.out.mono ?_
  rintro e w2 ⟨v, rfl, ho, hb⟩
  go_wp2_with fail
  go_ret
  exact ⟨_, rfl, ho, hb⟩
theorem at_le (s : Sd) (what : Nat) : (s.at_ what).length ≤ s.n := atK_le s what s.n
set_option maxHeartbeats 1000000 in
theorem stuck_any (h : SbX w0 w P B M tg f s) : Calls Try.prog 22 #[Pq P] w (RetB w s.stuck) := by
  have HR := Lib.hid (ready_any h)
  have HW := Lib.hid (fun W (hb : Below w.heap.size w W) => waiting_any (h.below hb))
  have HS := Lib.hid (show s.stuck = (decide ((s.at_ 0).length = 0) && decide (0 < (s.at_ 1).length)) from rfl)
  have l0 := at_le s 0
  have l1 := at_le s 1
  have l2 := h.n64
  generalize s.at_ 0 = L at *
  generalize s.at_ 1 = K at *
  generalize s.n = n at *
  generalize s.stuck = r at *
  clear h
  go_enter Try.func22, Try.ntmps22
  go_wp2_with fail
  refine HR.out.mono ?_
  rintro e w2 hE
  obtain ⟨A, c, rfl, ho, hb⟩ := hE.lift (Below.refl _ _)
  clear hE ho
  have HB := Lib.hid hb
  by_cases e : L.length = 0
  · have h0 : ((L.length : Int) == 0) = true := by simp [e]
    have HE := Lib.hid e
    generalize L.length = a at *
    clear e hb
    go_wp2_with fail
    refine (HW.out _ HB.out).mono ?_
    rintro e w3 hE
    obtain ⟨A1, c1, rfl, ho1, hb1⟩ := hE.lift HB.out
    have HK := Lib.hid (show r = decide (0 < K.length) by rw [HS.out]; simp [HE.out])
    have HG := Lib.hid (show decide ((0 : Int) < (K.length : Int)) = decide (0 < K.length) by simp)
    generalize K.length = k at *
    clear hE ho1 HS
    go_wp2_with fail
    go_ret
    exact ⟨by rw [HK.out]; simp, hb1⟩
  · have h0 : ((L.length : Int) == 0) = false := beq_eq_false_iff_ne.2 (by omega)
    have HE := Lib.hid (show r = false by rw [HS.out]; simp [e])
    generalize L.length = a at *
    clear e hb HS
    go_wp2_with fail
    go_ret
    exact ⟨by rw [HE.out]; rfl, HB.out⟩

def PickE (w : World) (o : Option Nat) (e : Ending) (w' : World) : Prop := e = .returned (.tuple #[.int .i64 ((o.getD 0 : Nat) : Int), .bool o.isSome]) ∧ Below w.heap.size w w'
theorem pick_none {s : Sd} {n : Int} (h : (s.at_ 0).length = 0) : s.pick n = none := by unfold Sd.pick; rw [if_pos h]
theorem pick_some {s : Sd} {n m : Nat} (h : (s.at_ 0).length = m) (h0 : m ≠ 0) : s.pick (n : Int) = some ((s.at_ 0).getD (n % m) 0) := by
  unfold Sd.pick
  rw [if_neg (by omega), h, show ((n : Int) % (m : Int)) = ((n % m : Nat) : Int) from (Int.natCast_emod n m).symm]
  rfl
set_option maxHeartbeats 1000000 in
theorem pick_any (h : SbX w0 w P B M tg f s) (n : Nat) (hn : n ≤ 1000000) : Calls Try.prog 21 #[Pq P, .int .i64 (n : Int)] w (PickE w (s.pick n)) := by
  have HR := Lib.hid (ready_any h)
  have l0 := at_le s 0
  have l2 := h.n64
  have HP0 := Lib.hid (fun h0 => pick_none (s := s) (n := n) h0)
  have HP1 := Lib.hid (fun m h1 h2 => pick_some (s := s) (n := n) (m := m) h1 h2)
  generalize s.at_ 0 = L at *
  generalize s.pick n = r at *
  generalize s.n = q at *
  clear h
  go_enter Try.func21, Try.ntmps21
  go_wp2_with fail
  refine HR.out.mono ?_
  rintro e w2 hE
  obtain ⟨A, c, rfl, ho, hb⟩ := hE.lift (Below.refl _ _)
  clear hE
  have HB := Lib.hid hb
  obtain ⟨m, hm⟩ : ∃ m, L.length = m := ⟨_, rfl⟩
  by_cases e : m = 0
  · have HE := Lib.hid (HP0.out (hm.trans e))
    have h0 : ((m : Int) == 0) = true := by simp [e]
    rw [hm]
    clear e hb HP0 HP1 ho hm
    go_wp2_with fail
    go_ret2
    exact ⟨by rw [HE.out]; rfl, HB.out⟩
  · have HE := Lib.hid (HP1.out m hm e)
    have h0 : ((m : Int) == 0) = false := beq_eq_false_iff_ne.2 (by omega)
    have hlt : n % m < m := Nat.mod_lt _ (by omega)
    have hr : (n : Int).tmod (m : Int) = ((n % m : Nat) : Int) := by rw [Int.tmod_eq_emod_of_nonneg (by omega)]; exact (Int.natCast_emod n m).symm
    obtain ⟨d, hd⟩ : ∃ d, n % m = d := ⟨_, rfl⟩
    rw [hm] at ho
    obtain ⟨gg, rfl, hx⟩ := own_at ho d (by omega)
    rw [hd] at hr hlt HE
    rw [hm]
    have hmz : (m : Int) ≠ 0 := by omega
    generalize L.getD d 0 = x at *
    unfold Iv at hx
    clear e hb HP0 HP1 ho hm hd
    go_wp2_with fail
    go_ret2
    exact ⟨by rw [HE.out]; rfl, HB.out⟩
end

end Go.Proofs.Ytlplbpilpkmoaaa.sc
