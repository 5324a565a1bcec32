/- The '==' of calls, and rows of calls held against each other. -/
import Derived.Test.YtoomdgjppfmdlaaCj
import Derived.Laws.StructEq
namespace Go.Proofs.Ytoomdgjppfmdlaa
open Go.RowKit
set_option linter.unusedVariables false
set_option linter.unusedSimpArgs false

def ceq (x y : C) : Bool := x.op == y.op && (x.fd == y.fd && (x.fl == y.fl && (x.n == y.n && (x.off == y.off && (x.a == y.a && x.b == y.b)))))
theorem ceq_iff (x y : C) : ceq x y = true ↔ x = y := by
  unfold ceq
  simp only [Bool.and_eq_true, beq_iff_eq]
  constructor
  · rintro ⟨h1, h2, h3, h4, h5, h6, h7⟩; exact C.ext' h1 h2 h3 h4 h5 h6 h7
  · rintro rfl; simp
theorem run_equal32 (x y : C) (w : World) : (Op.equalIn 10000 32 (CV x) (CV y)).run Try.prog w = .ok (ceq x y) w := by
  have hS : Try.prog.underlying 32 = some (.struct (Try.prog.fieldsOf 32)) := by kernel_rfl
  have hp : Try.prog.stoodInHeld 32 = false := by kernel_rfl
  have u3 := Try.underlying3
  have u2 := Try.underlying2
  have u9 := Try.underlying9
  have a3 := Try.isAgg3
  have z3 := Try.sizeOf3
  have a2 := Try.isAgg2
  have z2 := Try.sizeOf2
  have a9 := Try.isAgg9
  have z9 := Try.sizeOf9
  rw [show (10000 : Nat) = 9999 + 1 from rfl, run_equalIn_agg w 9999 32 _ _ hS hp]
  simp only [Program.fieldsOf, Try.underlying32]
  go_simp
  unfold ceq
  repeat' split
  all_goals simp_all
theorem run_neq32 (x y : C) (w : World) : (binOp .neq 32 (CV x) (CV y)).run Try.prog w = .ok (.bool (!ceq x y)) w := by
  rw [run_neq_struct, run_equal32]; rfl
theorem run_eql32 (x y : C) (w : World) : (binOp .eql 32 (CV x) (CV y)).run Try.prog w = .ok (.bool (ceq x y)) w := by
  rw [run_eql_struct, run_equal32]; rfl
theorem guard32 (op : BinOp) (a b : Operand) (xs ys : Array Value) (w : World) : (eqGuard op 32 a b (.agg xs) (.agg ys)).run Try.prog w = .ok () w := run_eqGuard_agg w op 32 a b xs ys (by kernel_rfl)

/-- Two rows are the same. -/
def leq : List C → List C → Bool
  | [], [] => true
  | x :: L, y :: K => ceq x y && leq L K
  | _, _ => false
theorem leq_iff : ∀ (L K : List C), leq L K = true ↔ L = K
  | [], [] => by simp [leq]
  | [], _ :: _ => by simp [leq]
  | _ :: _, [] => by simp [leq]
  | x :: L, y :: K => by
    rw [leq, Bool.and_eq_true, ceq_iff, leq_iff L K, List.cons.injEq]
theorem leq_self (L : List C) : leq L L = true := (leq_iff L L).2 rfl
theorem leq_ne {L K : List C} (h : L ≠ K) : leq L K = false := by
  cases e : leq L K with
  | false => rfl
  | true => exact absurd ((leq_iff L K).1 e) h

set_option maxHeartbeats 4000000 in
theorem same_any (A B : Option Addr) (n m c d X Y : Nat) (L K : List C) (w : World) (hn : n = L.length) (hm : m = K.length) (hN : n ≤ 1000000) (hM : m ≤ 1000000) (hX : X ≤ w.heap.size) (hY : Y ≤ w.heap.size) (h1 : Cls w X A L) (h2 : Cls w Y B K) :
    Calls Try.prog 12 #[.slice A n c, .slice B m d] w (RetB w (leq L K)) := by
  have HL := Lib.hid hn
  have HM := Lib.hid hm
  have HR1 := Lib.hid (h1.more hX)
  have HR2 := Lib.hid (h2.more hY)
  by_cases hnm : n = m
  · subst hnm
    obtain ⟨r, hr⟩ : ∃ r, leq L K = r := ⟨_, rfl⟩
    have HD := Lib.hid hr
    rw [hr]
    clear hn hm h1 h2 hr hM hX hY
    go_enter Try.func12, Try.ntmps12
    go_wp2_with fail
    go_loopg [13] n (fun g s wr => ∃ k : Nat, g + k = n ∧ s = .int .i64 k ∧ Hid (L.take k = K.take k) ∧ Hid (Below w.heap.size w wr))
    case atStart => exact ⟨0, by omega, rfl, Lib.hid (by simp), Lib.hid (Below.refl _ _)⟩
    case round =>
      obtain ⟨k, hgk, rfl, HT, HB⟩ := hrel
      by_cases hkn : k < n
      · have hx : L[k]? = some (L[k]'(by rw [← HL.out]; exact hkn)) := List.getElem?_eq_getElem _
        have hy : K[k]? = some (K[k]'(by rw [← HM.out]; exact hkn)) := List.getElem?_eq_getElem _
        have HX := Lib.hid hx
        have HY := Lib.hid hy
        obtain ⟨G, o1, rfl, hG, f0, f1, f2, f3, f4, f5, f6⟩ := (HR1.out.below HB.out).at_ (i := k) (by rw [← HL.out]; exact hkn)
        obtain ⟨E, o2, rfl, hE, g0, g1, g2, g3, g4, g5, g6⟩ := (HR2.out.below HB.out).at_ (i := k) (by rw [← HM.out]; exact hkn)
        generalize L[k]'(by rw [← HL.out]; exact hkn) = x at *
        generalize K[k]'(by rw [← HM.out]; exact hkn) = y at *
        clear hx hy
        have hgd := guard32
        by_cases hxy : x = y
        · have hne : ∀ W, (binOp .neq 32 (CV x) (CV y)).run Try.prog W = .ok (.bool false) W := fun W => by rw [run_neq32, (ceq_iff x y).2 hxy]; rfl
          have HT2 := Lib.hid (show L.take (k + 1) = K.take (k + 1) by rw [List.take_add_one, List.take_add_one, HT.out, HX.out, HY.out, hxy])
          obtain ⟨x0, x1, x2, x3, x4, x5, x6⟩ := x
          obtain ⟨y0, y1, y2, y3, y4, y5, y6⟩ := y
          dsimp only [CV] at f0 f1 f2 f3 f4 f5 f6 g0 g1 g2 g3 g4 g5 g6 hne
          clear hxy
          go_wp2_with fail
          go_quiet (fail)
          go_wp2_with fail
          go_roundg (gk - 1)
          case measure => omega
          case rel => exact ⟨k + 1, by omega, by go_num, HT2, Lib.hid (below_drewN HB.out _)⟩
        · have hcq : ceq x y = false := by
            cases e : ceq x y with
            | false => rfl
            | true => exact absurd ((ceq_iff x y).1 e) hxy
          have hne : ∀ W, (binOp .neq 32 (CV x) (CV y)).run Try.prog W = .ok (.bool true) W := fun W => by rw [run_neq32, hcq]; rfl
          have HR := Lib.hid (show r = false from HD.out.symm.trans (leq_ne fun e => hxy (by have h := HX.out; rw [e, HY.out] at h; injection h with h; exact h.symm)))
          obtain ⟨x0, x1, x2, x3, x4, x5, x6⟩ := x
          obtain ⟨y0, y1, y2, y3, y4, y5, y6⟩ := y
          dsimp only [CV] at f0 f1 f2 f3 f4 f5 f6 g0 g1 g2 g3 g4 g5 g6 hne
          clear hxy hcq
          go_wp2_with fail
          go_quiet (fail)
          go_wp2_with fail
          try rw [Exit.noGoto_ret]
          go_ret
          exact ⟨by rw [HR.out]; first | done | rfl, below_drewN HB.out _⟩
      · have HR := Lib.hid (show r = true from HD.out.symm.trans ((leq_iff L K).2 (by
          have h := HT.out
          rwa [List.take_of_length_le (by rw [← HL.out]; omega), List.take_of_length_le (by rw [← HM.out]; omega)] at h)))
        have hjn : ¬ ((k : Int) < (n : Int)) := by omega
        clear hkn
        go_wp2_with fail
        go_ret
        exact ⟨by rw [HR.out]; first | done | rfl, HB.out⟩
  · have HR := Lib.hid (show leq L K = false from leq_ne fun e => hnm (by rw [hn, hm, e]))
    rw [HR.out]
    have hb : ((n : Int) == (m : Int)) = false := by simp; omega
    have hb2 : ((n : Int) != (m : Int)) = true := by simp; omega
    clear hn hm h1 h2 hX hY
    go_enter Try.func12, Try.ntmps12
    go_wp2_with fail
    go_ret
    exact ⟨rfl, Below.refl _ _⟩
end Go.Proofs.Ytoomdgjppfmdlaa
