/- 'same': two rows of entries held against each other. -/
import Derived.Test.YtchjidijgdkhoaaEq
namespace Go.Proofs.Ytchjidijgdkhoaa
open Go.RowKit Go.Shelf
set_option linter.unusedVariables false

/-- A slice of entries that reads as a list, below block B. -/
def Reads (w : World) (B : Nat) (A : Option Addr) (L : List En) : Prop := ∀ i x, L[i]? = some x → ∃ G, A = some ⟨G, 0, none⟩ ∧ G < B ∧ w.cell? ⟨G, i * 2, none⟩ = some (.string x.1) ∧ w.cell? ⟨G, i * 2 + 1, none⟩ = some (.int .i64 x.2)
theorem Reads.below {w w' : World} {B : Nat} {A : Option Addr} {L : List En} (h : Reads w B A L) (hb : Below B w w') : Reads w' B A L := fun i x hx => by
  obtain ⟨G, e, hG, h0, h1⟩ := h i x hx
  exact ⟨G, e, hG, (hb.cell (p := ⟨G, i * 2, none⟩) hG).trans h0, (hb.cell (p := ⟨G, i * 2 + 1, none⟩) hG).trans h1⟩
theorem Reads.of_sl {w : World} {lo c : Nat} {o : Option Nat} {L : List En} (h : Sl w lo o c L) : Reads w w.heap.size (Ao o) L := fun i x hx => by
  cases o with
  | none => obtain ⟨rfl, -⟩ := h; simp at hx
  | some G => exact ⟨G, rfl, h.2.lt, (h.2.at_ hx).1, (h.2.at_ hx).2⟩

set_option maxHeartbeats 4000000 in
theorem same_any (A B : Option Addr) (n m c d : Nat) (L K : List En) (w : World) (hn : n = L.length) (hm : m = K.length) (hN : n ≤ 1000000) (hM : m ≤ 1000000) (h1 : Reads w w.heap.size A L) (h2 : Reads w w.heap.size B K) :
    Calls Try.prog 19 #[.slice A n c, .slice B m d] w (RetB w (decide (L = K))) := by
  have HL := Lib.hid hn
  have HM := Lib.hid hm
  have HR1 := Lib.hid h1
  have HR2 := Lib.hid h2
  by_cases hnm : n = m
  · subst hnm
    obtain ⟨r, hr⟩ : ∃ r, decide (L = K) = r := ⟨_, rfl⟩
    have HD := Lib.hid hr
    rw [hr]
    clear hn hm h1 h2 hr hM
    go_enter Try.func19, Try.ntmps19
    go_wp2_with fail
    go_loopg [13] n (fun g s wr => ∃ k : Nat, g + k = n ∧ s = .int .i64 k ∧ Hid (L.take k = K.take k) ∧ Hid (Below w.heap.size w wr))
    case atStart => exact ⟨0, by omega, rfl, Lib.hid (by simp), Lib.hid (Below.refl _ _)⟩
    case round =>
      obtain ⟨k, hgk, rfl, HT, HB⟩ := hrel
      by_cases hkn : k < n
      · have hx : L[k]? = some (L[k]'(by rw [← HL.out]; exact hkn)) := List.getElem?_eq_getElem _
        have hy : K[k]? = some (K[k]'(by rw [← HM.out]; exact hkn)) := List.getElem?_eq_getElem _
        have HX := Lib.hid hx
        have HY := Lib.hid hy
        obtain ⟨G, rfl, hG, f0, f1⟩ := (HR1.out.below HB.out) k _ hx
        obtain ⟨E, rfl, hE, g0, g1⟩ := (HR2.out.below HB.out) k _ hy
        generalize L[k]'(by rw [← HL.out]; exact hkn) = x at *
        generalize K[k]'(by rw [← HM.out]; exact hkn) = y at *
        clear hx hy
        have hgd := guard37
        by_cases hxy : x = y
        · have hne : ∀ W, (binOp .neq 37 (Ev x) (Ev y)).run Try.prog W = .ok (.bool false) W := fun W => by rw [run_neq37, decide_eq_true hxy]; rfl
          have HT2 := Lib.hid (show L.take (k + 1) = K.take (k + 1) by rw [List.take_add_one, List.take_add_one, HT.out, HX.out, HY.out, hxy])
          obtain ⟨xs, xv⟩ := x
          obtain ⟨ys, yv⟩ := y
          dsimp only [Ev] at f0 f1 g0 g1 hne
          clear hxy
          go_wp2_with fail
          go_quiet (fail)
          go_wp2_with fail
          go_roundg (gk - 1)
          case measure => omega
          case rel => exact ⟨k + 1, by omega, by go_num, HT2, Lib.hid (below_drewN HB.out _)⟩
        · have hne : ∀ W, (binOp .neq 37 (Ev x) (Ev y)).run Try.prog W = .ok (.bool true) W := fun W => by rw [run_neq37, decide_eq_false hxy]; rfl
          have HR := Lib.hid (show r = false from HD.out.symm.trans (decide_eq_false fun e => hxy (by have h := HX.out; rw [e, HY.out] at h; injection h with h; exact h.symm)))
          obtain ⟨xs, xv⟩ := x
          obtain ⟨ys, yv⟩ := y
          dsimp only [Ev] at f0 f1 g0 g1 hne
          clear hxy
          go_wp2_with fail
          go_quiet (fail)
          go_wp2_with fail
          try rw [Exit.noGoto_ret]
          go_ret
          exact ⟨by rw [HR.out]; first | done | rfl, below_drewN HB.out _⟩
      · have HR := Lib.hid (show r = true from HD.out.symm.trans (decide_eq_true (by
          have h := HT.out
          rwa [List.take_of_length_le (by rw [← HL.out]; omega), List.take_of_length_le (by rw [← HM.out]; omega)] at h)))
        have hjn : ¬ ((k : Int) < (n : Int)) := by omega
        clear hkn
        go_wp2_with fail
        go_ret
        exact ⟨by rw [HR.out]; first | done | rfl, HB.out⟩
  · have HR := Lib.hid (show decide (L = K) = false from decide_eq_false fun e => hnm (by rw [hn, hm, e]))
    have hb : ((n : Int) != (m : Int)) = true := by rw [bne_iff_ne]; omega
    generalize decide (L = K) = r at *
    clear hnm hn hm h1 h2
    go_enter Try.func19, Try.ntmps19
    go_wp2_with fail
    go_ret
    exact ⟨by rw [HR.out]; first | done | rfl, Below.refl _ _⟩
end Go.Proofs.Ytchjidijgdkhoaa
