/- Words for memory: a slice of strings that reads as a list, and how it is kept. -/
import Derived.Test.YtfbdhpbnmjacmaaPaMath
import Derived.Test.YtfbdhpbnmjacmaaRows
import Derived.WalkKit
import Derived.WalkSpells
import Derived.WalkLawsBesides
import Derived.Lib.Hide
import Derived.Deep.LoopGhost
import Derived.Deep.DeepMust
import Derived.Deep.DeepFit
import Derived.Deep.QuietTactic
import Derived.BigQuiet
namespace Go.Proofs.Ytfbdhpbnmjacmaa.pa
open Go.RowKit


/-- The string value of a list of bytes. -/
abbrev Sv (x : Bs) : Value := .string ⟨x.toArray⟩

theorem addr_block (a : Addr) (n : Nat) : (a.add n).block = a.block := by unfold Addr.add; split <;> rfl
theorem addr_add (a : Addr) (i j : Nat) : (a.add i).add j = a.add (i + j) := by
  unfold Addr.add
  by_cases hi : i = 0 <;> by_cases hj : j = 0 <;> simp [hi, hj, Nat.add_assoc]

/-- In w the slice at A of xs.length strings reads as xs; it lies below block B. -/
def Strs (w : World) (B : Nat) (A : Option Addr) (xs : List Bs) : Prop :=
  0 < xs.length → ∃ ad, A = some ad ∧ ad.block < B ∧ ∀ j x, xs[j]? = some x → w.cell? (ad.add j) = some (Sv x)

theorem Strs.nil (w : World) (B : Nat) (A : Option Addr) : Strs w B A [] := fun h => absurd h (by simp)
theorem Strs.keep {w w' : World} {B : Nat} {A : Option Addr} {xs : List Bs} (h : Strs w B A xs) (hk : ∀ p : Addr, p.block < B → w'.cell? p = w.cell? p) : Strs w' B A xs := fun hn => by
  obtain ⟨ad, e, hb, hc⟩ := h hn
  exact ⟨ad, e, hb, fun j x hx => (hk _ (by rw [addr_block]; exact hb)).trans (hc j x hx)⟩
theorem Strs.below {w w' : World} {B : Nat} {A : Option Addr} {xs : List Bs} (h : Strs w B A xs) (hb : Below B w w') : Strs w' B A xs := h.keep fun _ hp => hb.cell hp
theorem Strs.more {w : World} {B B' : Nat} {A : Option Addr} {xs : List Bs} (h : Strs w B A xs) (hB : B ≤ B') : Strs w B' A xs := fun hn => by
  obtain ⟨ad, e, hb, hc⟩ := h hn
  exact ⟨ad, e, by omega, hc⟩
theorem Strs.get {w : World} {B : Nat} {A : Option Addr} {xs : List Bs} (h : Strs w B A xs) {k : Nat} (hk : k < xs.length) :
    ∃ ad x, A = some ad ∧ ad.block < B ∧ xs[k]? = some x ∧ w.cell? (ad.add k) = some (Sv x) := by
  obtain ⟨ad, e, hb, hc⟩ := h (by omega)
  exact ⟨ad, xs[k], e, hb, List.getElem?_eq_getElem hk, hc k _ (List.getElem?_eq_getElem hk)⟩

/-- What a call hands back that has made a slice of strings: it owns them. -/
def Own (w' : World) (B : Nat) (A : Option Addr) (c : Nat) (xs : List Bs) : Prop := w'.ownsRow B 9 1 (.slice A xs.length c) xs.length (xs.map Sv)
theorem Own.strs {w' : World} {B : Nat} {A : Option Addr} {c : Nat} {xs : List Bs} (h : Own w' B A c xs) : Strs w' w'.heap.size A xs := by
  intro hn
  rcases h.2 with ⟨e, h0⟩ | ⟨g, cap, cur, hv, hb, hg, _⟩
  · omega
  · injection hv with hA
    subst hA
    refine ⟨_, rfl, (Array.getElem?_eq_some_iff.1 hg).1, fun j x hx => ?_⟩
    exact World.ownsRow.cells h (g := g) rfl j (Sv x) (by rw [List.getElem?_map, hx]; rfl)
theorem Own.keep {w w' : World} {B : Nat} {A : Option Addr} {c : Nat} {xs : List Bs} (h : Own w B A c xs) (hb : Below w.heap.size w w') : Own w' B A c xs := by
  unfold Own at h ⊢
  exact h.kept (row := none) ⟨hb.os, hb.tape, hb.output, hb.size, fun k hk _ => hb.block k hk⟩ (by cases hv : (Value.slice A xs.length c).ownBlock <;> simp)

theorem own_base {w : World} {B B' : Nat} {e : TypeId} {size : Nat} {v : Value} {n : Nat} {xs : List Value} (h : w.ownsRow B e size v n xs) (hB : B' ≤ B) : w.ownsRow B' e size v n xs := by
  refine ⟨h.1, ?_⟩
  rcases h.2 with h2 | ⟨g, cap, cur, hv, hb, r⟩
  · exact .inl h2
  · exact .inr ⟨g, cap, cur, hv, by omega, r⟩
theorem Own.base {w : World} {B B' : Nat} {A : Option Addr} {c : Nat} {xs : List Bs} (h : Own w B A c xs) (hB : B' ≤ B) : Own w B' A c xs := own_base h hB
theorem Own.set {w : World} {B : Nat} {A : Option Addr} {c : Nat} {xs : List Bs} (h : Own w B A c xs) {a : Addr} (ha : a.block < B) (u : Value) : Own (w.setCell a u) B A c xs := ownsRow_setCell_below h ha u

/-- 'ownsRow' of strings, its value taken apart. -/
theorem own_form {w : World} {B n : Nat} {v : Value} {xs : List Bs} (h : w.ownsRow B 9 1 v n (xs.map Sv)) : ∃ A c, v = .slice A xs.length c ∧ Own w B A c xs ∧ n = xs.length := by
  have hn : n = xs.length := by have := h.1; simp at this; omega
  subst hn
  rcases h.2 with ⟨e, h0⟩ | ⟨g, cap, cur, hv, _⟩
  · refine ⟨none, 0, by rw [e, h0], ?_, rfl⟩
    unfold Own
    rw [h0, ← e, ← h0]
    exact h
  · refine ⟨_, cap, hv, ?_, rfl⟩
    unfold Own
    rw [← hv]
    exact h

theorem below_drewN {B : Nat} {a w : World} (h : Below B a w) (n : Nat) : Below B a (w.drewN n) := ⟨h.os, h.tape, h.output, h.size, h.block⟩
theorem own_em (v : Value) : v.ownBlock = none ∨ v.ownBlock ≠ none := Classical.em _
theorem drop_take_snoc (l : Bs) (i j : Nat) (hij : i ≤ j) (hj : j < l.length) : (l.drop i).take (j + 1 - i) = (l.drop i).take (j - i) ++ [l[j]] := by
  rw [show j + 1 - i = (j - i) + 1 from by omega, List.take_succ_eq_append_getElem (by rw [List.length_drop]; omega)]
  simp [List.getElem_drop, Nat.add_sub_cancel' hij]

/-- A box of two cells that the call made ahead of a callee: as it was. -/
theorem box_kept {w w1 : World} {v0 v1 : Value} {t : TypeId} {B : Nat} (hB : w.heap.size < B) (hb : Below B (w.alloc (.cells #[v0, v1] t)) w1) :
    w1.cell? ⟨w.heap.size, 0, none⟩ = some v0 ∧ w1.cell? ⟨w.heap.size, 1, none⟩ = some v1 ∧ w1.frozen? ⟨w.heap.size, 0, none⟩ = false ∧ w1.frozen? ⟨w.heap.size, 1, none⟩ = false ∧ w.heap.size + 1 ≤ w1.heap.size := by
  refine ⟨?_, ?_, ?_, ?_, ?_⟩
  · rw [hb.cell (p := ⟨w.heap.size, 0, none⟩) hB]; simp
  · rw [hb.cell (p := ⟨w.heap.size, 1, none⟩) hB]; simp
  · rw [hb.frozen (p := ⟨w.heap.size, 0, none⟩) hB]; simp
  · rw [hb.frozen (p := ⟨w.heap.size, 1, none⟩) hB]; simp
  · have := hb.size; simpa using this

set_option maxRecDepth 100000 in
theorem info9 : (Try.prog.info? 9).map (fun i => (i.zero, i.size, i.bytes)) = some (some (.string ByteArray.empty), 1, 16) := by kernel_rfl
set_option maxRecDepth 100000 in
theorem info5 : (Try.prog.info? 5).map (fun i => (i.zero, i.size, i.bytes)) = some (some (.int .u8 0), 1, 1) := by kernel_rfl
end Go.Proofs.Ytfbdhpbnmjacmaa.pa
