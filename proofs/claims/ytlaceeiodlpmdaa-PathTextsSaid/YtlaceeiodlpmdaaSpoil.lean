/- Words for PathTexts: what 'Last' and 'Join' hand back in one form; a row that is written over; worlds that have turned nothing below. -/
import Derived.Test.YtlaceeiodlpmdaaReg
import Derived.Test.YtlaceeiodlpmdaaBig
import Derived.Test.YtlaceeiodlpmdaaRLast
import Derived.Test.YtlaceeiodlpmdaaRJoin
import Derived.Test.YtlaceeiodlpmdaaOpen
namespace Go.Proofs.Ytlaceeiodlpmdaa
open Go.RowKit

theorem sameIs (xs : List Bs) (d : Bool) : sameB xs xs d d = true := by simp [sameB]

def lNames (xs : List Bs) : List Bs := if lastNo xs then [] else xs.dropLast
def lName (xs : List Bs) : Bs := if lastNo xs then [] else xs.getLastD []
def lErr (xs : List Bs) : Int := if lastNo xs then 16 else 0
def LastU (w : World) (xs : List Bs) (e : Ending) (w' : World) : Prop :=
  ∃ A c, e = .returned (.tuple #[Pv A (lNames xs).length c (!lastNo xs), Sv (lName xs), .int .i64 (lErr xs)]) ∧ Own w' w.heap.size A c (lNames xs) ∧ Below w.heap.size w w'
theorem own_nil (w : World) (B : Nat) : Own w B none 0 [] := ⟨rfl, .inl ⟨rfl, rfl⟩⟩
theorem lastU_no {w w' : World} {xs : List Bs} {e : Ending} (h : lastNo xs = true) (hE : LastNo w e w') : LastU w xs e w' :=
  ⟨none, 0, by rw [hE.1]; simp [lNames, lName, lErr, h], by simp only [lNames, h, if_true]; exact own_nil _ _, hE.2⟩
theorem lastNo_snoc (ys : List Bs) (x : Bs) : lastNo (ys ++ [x]) = dotB x := by simp [lastNo]
theorem lastU_yes {w w' : World} {ys : List Bs} {x : Bs} {e : Ending} (h : dotB x = false) (hE : LastYes w ys x e w') : LastU w (ys ++ [x]) e w' := by
  obtain ⟨A, c, he, ho, hb⟩ := hE
  have h' : lastNo (ys ++ [x]) = false := by rw [lastNo_snoc, h]
  exact ⟨A, c, by rw [he]; simp [lNames, lName, lErr, h', List.getLastD_eq_getLast?], by simp only [lNames, h']; simpa using ho, hb⟩
theorem lastU (A : Option Addr) (n c B : Nat) (d : Bool) (xs : List Bs) (w : World) (hn : n = xs.length) (hl : n ≤ 65536) (hc : n ≤ c) (hB : B ≤ w.heap.size) (hx : Strs w B A xs) : Calls Try.prog 19 #[Pv A n c d] w (LastU w xs) := by
  rcases last_any A n c B d xs w hn hl hc hB hx with ⟨h, hE⟩ | ⟨ys, x, rfl, h, hE⟩
  · exact hE.mono fun _ _ he => lastU_no h he
  · exact hE.mono fun _ _ he => lastU_yes h he
theorem rlastU (A : Option Addr) (n c B : Nat) (d : Bool) (xs : List Bs) (w : World) (hn : n = xs.length) (hl : n ≤ 65536) (hc : n ≤ c) (hB : B ≤ w.heap.size) (hx : Strs w B A xs) : Calls Try.prog 20 #[Pv A n c d] w (LastU w xs) := by
  rcases rlast_any A n c B d xs w hn hl hc hB hx with ⟨h, hE⟩ | ⟨ys, x, rfl, h, hE⟩
  · exact hE.mono fun _ _ he => lastU_no h he
  · exact hE.mono fun _ _ he => lastU_yes h he

def jNames (xs ys : List Bs) : List Bs := if 40 < xs.length + ys.length then [] else xs ++ ys
def jDir (xs ys : List Bs) (d d' : Bool) : Bool := if 40 < xs.length + ys.length then false else joinDir ys d d'
def jErr (xs ys : List Bs) : Int := if 40 < xs.length + ys.length then 36 else 0
def JoinU (w : World) (xs ys : List Bs) (d d' : Bool) (e : Ending) (w' : World) : Prop :=
  ∃ A c, e = .returned (.tuple #[Pv A (jNames xs ys).length c (jDir xs ys d d'), .int .i64 (jErr xs ys)]) ∧ Own w' w.heap.size A c (jNames xs ys) ∧ Below w.heap.size w w'
theorem joinU_of {w w' : World} {xs ys : List Bs} {d d' : Bool} {e : Ending} (h : RJoinE w xs ys d d' e w') : JoinU w xs ys d d' e w' := by
  rcases h with ⟨h, hE⟩ | ⟨h, A, c, he, ho, hb⟩
  · exact ⟨none, 0, by rw [hE.1]; simp [jNames, jDir, jErr, h], by simp only [jNames, if_pos h]; exact own_nil _ _, hE.2⟩
  · have h' : ¬ 40 < xs.length + ys.length := by omega
    exact ⟨A, c, by rw [he]; simp [jNames, jDir, jErr, h'], by simp only [jNames, if_neg h']; exact ho, hb⟩
theorem rjoinU (A A' : Option Addr) (n c n' c' : Nat) (d d' : Bool) (xs ys : List Bs) (w : World) (h1 : n ≤ 10000) (h2 : n' ≤ 10000) (hn : n = xs.length) (hn' : n' = ys.length)
    (hx : Strs w w.heap.size A xs) (hy : Strs w w.heap.size A' ys) : Calls Try.prog 22 #[Pv A n c d, Pv A' n' c' d'] w (JoinU w xs ys d d') :=
  (rjoin_any A A' n c n' c' d d' xs ys w h1 h2 hn hn' hx hy).mono fun _ _ h => joinU_of h
theorem joinU (A A' : Option Addr) (n c n' c' B : Nat) (d d' : Bool) (xs ys : List Bs) (w : World) (h1 : n ≤ 10000) (h2 : n' ≤ 10000) (hn : n = xs.length) (hn' : n' = ys.length)
    (hB : B ≤ w.heap.size) (hx : Strs w B A xs) (hy : Strs w B A' ys) : Calls Try.prog 21 #[Pv A n c d, Pv A' n' c' d'] w (JoinU w xs ys d d') := by
  by_cases h : 40 < n + n'
  · exact (join_no A A' n c n' c' d d' w h (by omega) (by omega)).mono fun _ _ hE => joinU_of (.inl ⟨by omega, hE⟩)
  · exact (join_yes A A' n c n' c' B d d' xs ys w (by omega) hn hn' hB hx hy).mono fun _ _ hE => joinU_of (.inr ⟨by omega, hE⟩)

/-- W1 is W0, but for what stands in block g; there n strings stand that may be written. -/
structure Spoil (W0 W1 : World) (A : Option Addr) (n : Nat) : Prop where
  os : W1.os = W0.os
  tape : W1.tape = W0.tape
  output : W1.output = W0.output
  size : W1.heap.size = W0.heap.size
  block : ∀ k, (∀ ad, A = some ad → k ≠ ad.block) → W1.heap[k]? = W0.heap[k]?
  cells : ∀ j, j < n → ∃ g x, A = some ⟨g, 0, none⟩ ∧ W1.cell? ⟨g, j, none⟩ = some (.string x) ∧ W1.frozen? ⟨g, j, none⟩ = false
theorem Spoil.start {w : World} {B : Nat} {A : Option Addr} {c : Nat} {xs : List Bs} (h : Own w B A c xs) : Spoil w w A xs.length := by
  refine ⟨rfl, rfl, rfl, rfl, fun _ _ => rfl, fun j hj => ?_⟩
  rcases h.2 with ⟨e, h0⟩ | ⟨g, cap, cur, hv, hb, hg, hnc, hm, hcs, ht⟩
  · omega
  · injection hv with hA
    subst hA
    have hc := World.ownsRow.cells h (g := g) rfl j (Sv xs[j]) (by rw [List.getElem?_map, List.getElem?_eq_getElem hj]; rfl)
    have e : (⟨g, 0, none⟩ : Addr).add j = ⟨g, j, none⟩ := by unfold Addr.add; split <;> simp_all
    rw [e] at hc
    exact ⟨g, _, rfl, hc, by simp [World.frozen?, hg]⟩
theorem Spoil.step {W0 W1 : World} {g n j : Nat} (h : Spoil W0 W1 (some ⟨g, 0, none⟩) n) (hj : j < n) (y : ByteArray) : Spoil W0 (W1.setCell ⟨g, j, none⟩ (.string y)) (some ⟨g, 0, none⟩) n := by
  refine ⟨h.os, h.tape, h.output, by rw [← h.size]; simp [World.setCell], fun k hk => ?_, fun i hi => ?_⟩
  · have hne := hk _ rfl
    rw [← h.block k hk]
    exact Below.heap_setCell _ _ _ _ hne
  · obtain ⟨g', x, e, hc, hf⟩ := h.cells i hi
    injection e with e
    injection e with e
    subst e
    by_cases hij : i = j
    · subst hij
      exact ⟨g, y, rfl, World.cell?_setCell_same _ _ _ hc, by simpa using hf⟩
    · exact ⟨g, x, rfl, by rw [World.cell?_setCell_other _ _ _ _ (fun e => hij (by have := congrArg Addr.off e; simpa using this.symm))]; exact hc, by simpa using hf⟩
theorem Spoil.below {W0 W1 : World} {A : Option Addr} {n B : Nat} (h : Spoil W0 W1 A n) (hA : ∀ ad, A = some ad → B ≤ ad.block) : Below B W0 W1 :=
  ⟨h.os, h.tape, h.output, Nat.le_of_eq h.size.symm, fun k hk => h.block k fun ad e => by have := hA ad e; omega⟩
theorem Spoil.cell {W0 W1 : World} {A : Option Addr} {n : Nat} (h : Spoil W0 W1 A n) (p : Addr) (hp : ∀ ad, A = some ad → p.block ≠ ad.block) : W1.cell? p = W0.cell? p := World.cell?_of_block (h.block _ hp)
theorem Own.low {w : World} {B : Nat} {A : Option Addr} {c : Nat} {xs : List Bs} (h : Own w B A c xs) : ∀ ad, A = some ad → B ≤ ad.block ∧ ad.block < w.heap.size := by
  intro ad e
  subst e
  rcases h.2 with ⟨e, h0⟩ | ⟨g, cap, cur, hv, hb, hg, _⟩
  · cases e
  · injection hv with hv
    injection hv with hv
    subst hv
    exact ⟨hb, (Array.getElem?_eq_some_iff.1 hg).1⟩
theorem Own.spoil {W0 W1 : World} {A A' : Option Addr} {n c B : Nat} {xs : List Bs} (h : Own W0 B A c xs) (hs : Spoil W0 W1 A' n) (hne : ∀ ad, A' = some ad → ad.block < B) : Own W1 B A c xs := by
  refine ⟨h.1, ?_⟩
  rcases h.2 with h2 | ⟨g, cap, cur, hv, hb, hg, r⟩
  · exact .inl h2
  · exact .inr ⟨g, cap, cur, hv, hb, by rw [hs.block g (fun ad e => by have := hne ad e; omega)]; exact hg, r⟩

/-- A world that came of w and has turned nothing that lay in it: one name for both. -/
structure BelowOf (w : World) where
  W : World
  h : Below w.heap.size w W
instance (w : World) : Inhabited (BelowOf w) := ⟨⟨w, Below.refl _ _⟩⟩
theorem wp_region_below {id : Nat} {Q : Exit → Act → World → Prop} {a : Act} {w : World} {l : List Oper} (hm : Try.prog.follows .mixedOrders = true) (hB : Region.lexB .any l.toArray = true)
    (h : wpQuiet Try.prog l.toArray (fun w' => ∃ p : BelowOf w, w' = p.W) (fun a' => ∀ w', (∃ p : BelowOf w, w' = p.W) → Q .normal a' w') l a) : (Code.region id l.toArray true).wp Try.prog Q a w :=
  wp_region_quiet (C := fun w' => ∃ p : BelowOf w, w' = p.W) hm hB ⟨⟨w.drew, (Below.refl _ _).drew⟩, rfl⟩ (by simpa using h)
theorem calls_below {f : FuncId} {args : Array Value} {w : World} (p : BelowOf w) {v : Value}
    (h : Calls Try.prog f args p.W fun e w' => e = .returned v ∧ Below p.W.heap.size p.W w') : Calls Try.prog f args p.W fun e w'' => e = .returned v ∧ ∃ q : BelowOf w, w'' = q.W :=
  h.mono fun _ w' ⟨he, hb⟩ => ⟨he, ⟨w', below_step p.h hb⟩, rfl⟩
end Go.Proofs.Ytlaceeiodlpmdaa
