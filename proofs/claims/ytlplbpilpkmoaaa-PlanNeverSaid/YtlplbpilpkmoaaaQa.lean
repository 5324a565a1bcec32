/- Wants in memory; the document's 'Clash'. -/
import Derived.Test.YtlplbpilpkmoaaaRows
import Derived.Test.YtlplbpilpkmoaaaPo
import Derived.WalkKit
import Derived.WalkSpells
import Derived.WalkLawsBesides
import Derived.Lib.Hide
import Derived.Deep.LoopGhost
import Derived.Deep.DeepMust
import Derived.Deep.DeepFit
import Derived.Deep.QuietTactic
import Derived.BigQuiet
import Derived.Below
import Derived.Deep.DeepCutAuto
import Derived.Deep.OwnRows
import Derived.Laws.AppendOwn
import Derived.Deep.MidRow
import Derived.Lib.SliceRun
namespace Go.Proofs.Ytlplbpilpkmoaaa.pl
open Go.RowKit
set_option linter.unusedVariables false
set_option linter.unusedSimpArgs false

def RetB (w : World) (b : Bool) (e : Ending) (w' : World) : Prop := e = .returned (.bool b) ∧ Below w.heap.size w w'
def gw (xs : List Wt) (i : Nat) : Wt := xs.getD i ⟨0, 0, false⟩
theorem gw_get {xs : List Wt} {i : Nat} (hi : i < xs.length) : gw xs i = xs[i] := by simp [gw, List.getD, List.getElem?_eq_getElem hi]
theorem gw_mem {xs : List Wt} {i : Nat} (hi : i < xs.length) : gw xs i ∈ xs := by rw [gw_get hi]; exact List.getElem_mem hi
theorem mem_gw {xs : List Wt} {x : Wt} (h : x ∈ xs) : ∃ i, i < xs.length ∧ gw xs i = x := by
  obtain ⟨i, hi, e⟩ := List.getElem_of_mem h
  exact ⟨i, hi, by rw [gw_get hi, e]⟩
/-- The slice at A reads as xs, below block B. -/
def Wan (w : World) (B : Nat) (A : Option Addr) (xs : List Wt) : Prop := ∀ i, i < xs.length → ∃ b off, A = some ⟨b, off, none⟩ ∧ b < B ∧
  w.cell? ⟨b, off + i * 3, none⟩ = some (.int .i64 (gw xs i).d) ∧ w.cell? ⟨b, off + i * 3 + 1, none⟩ = some (.int .i64 (gw xs i).n) ∧ w.cell? ⟨b, off + i * 3 + 2, none⟩ = some (.bool (gw xs i).w)
theorem Wan.below {w w' : World} {B : Nat} {A : Option Addr} {xs : List Wt} (h : Wan w B A xs) (hb : Below B w w') : Wan w' B A xs := fun i hi => by
  obtain ⟨b, off, e, hB, h0, h1, h2⟩ := h i hi
  exact ⟨b, off, e, hB, (hb.cell (p := ⟨b, off + i * 3, none⟩) hB).trans h0, (hb.cell (p := ⟨b, off + i * 3 + 1, none⟩) hB).trans h1, (hb.cell (p := ⟨b, off + i * 3 + 2, none⟩) hB).trans h2⟩
theorem Wan.le {w : World} {B B' : Nat} {A : Option Addr} {xs : List Wt} (h : Wan w B A xs) (hb : B ≤ B') : Wan w B' A xs := fun i hi => by
  obtain ⟨b, off, e, hB, h0⟩ := h i hi
  exact ⟨b, off, e, Nat.lt_of_lt_of_le hB hb, h0⟩
/-- Do two rows bar each other? -/
def bar1 (x y : Wt) : Bool := decide (x.n = y.n) && (x.w || y.w)
def bars (a b : List Wt) : Bool := a.any fun x => b.any fun y => bar1 x y
theorem bars_iff (a b : List Wt) : bars a b = true ↔ Bars a b := by
  unfold bars Bars bar1
  simp [List.any_eq_true]
theorem bars_yes {a b : List Wt} {i k : Nat} (hi : i < a.length) (hk : k < b.length) (h : bar1 (gw a i) (gw b k) = true) : bars a b = true :=
  List.any_eq_true.2 ⟨_, gw_mem hi, List.any_eq_true.2 ⟨_, gw_mem hk, h⟩⟩
theorem bars_no {a b : List Wt} (h : ∀ i, i < a.length → ∀ k, k < b.length → bar1 (gw a i) (gw b k) = false) : bars a b = false := by
  refine Bool.eq_false_iff.2 fun e => ?_
  obtain ⟨x, hx, e⟩ := List.any_eq_true.1 e
  obtain ⟨y, hy, e⟩ := List.any_eq_true.1 e
  obtain ⟨i, hi, rfl⟩ := mem_gw hx
  obtain ⟨k, hk, rfl⟩ := mem_gw hy
  rw [h i hi k hk] at e; cases e
set_option maxHeartbeats 4000000 in
theorem rclash_any {w : World} {A1 A2 : Option Addr} {a b : List Wt} {c1 c2 : Nat} (h1 : Wan w w.heap.size A1 a) (h2 : Wan w w.heap.size A2 b) (l1 : a.length ≤ 1000000) (l2 : b.length ≤ 1000000) :
    Calls Try.prog 15 #[.slice A1 a.length c1, .slice A2 b.length c2] w (RetB w (bars a b)) := by
  have H1 := Lib.hid h1
  have H2 := Lib.hid h2
  clear h1 h2
  obtain ⟨n, hn⟩ : ∃ n, a.length = n := ⟨_, rfl⟩
  obtain ⟨m, hm⟩ : ∃ m, b.length = m := ⟨_, rfl⟩
  rw [hn] at l1 ⊢
  rw [hm] at l2 ⊢
  have HN := Lib.hid hn
  have HM := Lib.hid hm
  clear hn hm
  unfold RetB
  go_enter Try.func15, Try.ntmps15
  go_wp2_with fail
  go_loopg [5] n (fun gk u5 wx => ∃ i : Nat, u5 = .int .i64 i ∧ gk + i = n ∧ (∃ nq, w.drewN nq = wx) ∧ Hid (∀ x, x < i → ∀ k, k < m → bar1 (gw a x) (gw b k) = false))
  case atStart => exact ⟨0, rfl, by omega, ⟨0, rfl⟩, Lib.hid fun x hx => by omega⟩
  case round =>
    obtain ⟨i, rfl, hg, ⟨nq, rfl⟩, HI⟩ := hrel
    obtain ⟨gJ, hJ⟩ : ∃ g, gk = g := ⟨_, rfl⟩
    by_cases hi : i < n
    · have hi2 : (i : Int) < (n : Int) := by omega
      obtain ⟨g1, o1, rfl, _, x1, x2, x3⟩ := H1.out i (by rw [HN.out]; exact hi)
      have HX := Lib.hid (show ∃ x, gw a i = x from ⟨_, rfl⟩)
      obtain ⟨p, hp⟩ : ∃ p, (gw a i).n = p := ⟨_, rfl⟩
      obtain ⟨q, hq⟩ : ∃ q, (gw a i).w = q := ⟨_, rfl⟩
      rw [hp] at x2
      rw [hq] at x3
      have HP := Lib.hid hp
      have HQ := Lib.hid hq
      clear x1 hp hq
      go_wp2_with fail
      go_loopg [6] m (fun gj u6 wx => ∃ k : Nat, u6 = .int .i64 k ∧ gj + k = m ∧ (∃ nq, w.drewN nq = wx) ∧ Hid (∀ y, y < k → bar1 (gw a i) (gw b y) = false))
      case atStart => exact ⟨0, rfl, by omega, ⟨_, rfl⟩, Lib.hid fun y hy => by omega⟩
      case round =>
        obtain ⟨k, rfl, hgj, ⟨nq2, rfl⟩, HK⟩ := hrel
        by_cases hk : k < m
        · have hk2 : (k : Int) < (m : Int) := by omega
          obtain ⟨g2, o2, rfl, _, y1, y2, y3⟩ := H2.out k (by rw [HM.out]; exact hk)
          obtain ⟨r, hr⟩ : ∃ r, (gw b k).n = r := ⟨_, rfl⟩
          obtain ⟨t, ht⟩ : ∃ t, (gw b k).w = t := ⟨_, rfl⟩
          rw [hr] at y2
          rw [ht] at y3
          have HR := Lib.hid hr
          have HT := Lib.hid ht
          clear y1 hr ht
          have HK9 := Lib.hid (show ∀ y, y < k + 1 → bar1 ⟨0, p, q⟩ ⟨0, r, t⟩ = false → bar1 (gw a i) (gw b y) = false from fun y hy h => by
            by_cases e : y = k
            · subst e; unfold bar1 at h ⊢; rw [HP.out, HQ.out, HR.out, HT.out]; exact h
            · exact HK.out y (by omega))
          have HY := Lib.hid (show bar1 ⟨0, p, q⟩ ⟨0, r, t⟩ = true → bars a b = true from fun h => by
            refine bars_yes (by rw [HN.out]; exact hi) (by rw [HM.out]; exact hk) (i := i) (k := k) ?_
            unfold bar1 at h ⊢; rw [HP.out, HQ.out, HR.out, HT.out]; exact h)
          by_cases he : p = r
          · subst he
            cases q
            · cases t
              · go_wp2_with fail
                go_quiet (fail)
                go_wp2_with fail
                go_roundg (gk - 1)
                case measure => omega
                case rel => exact ⟨k + 1, by go_num, by omega, ⟨_, rfl⟩, Lib.hid fun y hy => HK9.out y hy (by simp [bar1])⟩
              · go_wp2_with fail
                go_quiet (fail)
                go_wp2_with fail
                go_ret
                exact ⟨by rw [HY.out (by simp [bar1])]; rfl, below_drewN (below_drewN (Below.refl _ _) _) _⟩
            · go_wp2_with fail
              go_quiet (fail)
              go_wp2_with fail
              go_ret
              exact ⟨by rw [HY.out (by simp [bar1])]; rfl, below_drewN (below_drewN (Below.refl _ _) _) _⟩
          · go_wp2_with fail
            go_quiet (fail)
            go_wp2_with fail
            go_roundg (gk - 1)
            case measure => omega
            case rel => exact ⟨k + 1, by go_num, by omega, ⟨_, rfl⟩, Lib.hid fun y hy => HK9.out y hy (by simp [bar1, he])⟩
        · have hkm : k = m := by omega
          have HI9 := Lib.hid (show ∀ x, x < i + 1 → ∀ y, y < m → bar1 (gw a x) (gw b y) = false from fun x hx y hy => by
            by_cases e : x = i
            · subst e; exact HK.out y (by omega)
            · exact HI.out x (by omega) y hy)
          clear hkm
          go_wp2_with fail
          go_roundg (gJ - 1)
          case measure => omega
          case rel => exact ⟨i + 1, by go_num, by omega, ⟨_, rfl⟩, HI9⟩
    · have HB := Lib.hid (show bars a b = false from bars_no fun x hx y hy => HI.out x (by rw [HN.out] at hx; omega) y (by rw [HM.out] at hy; exact hy))
      go_wp2_with fail
      go_ret
      exact ⟨by rw [HB.out]; rfl, below_drewN (Below.refl _ _) _⟩
end Go.Proofs.Ytlplbpilpkmoaaa.pl
