/- A store, its four bodies, and the array of them. -/
import Derived.Test.YtpnnonphagddgaaInts
import Derived.StillTailTactics
import Derived.Deep.RegionWith
import Derived.Laws.BitsLemmas
namespace Go.Proofs.Ytpnnonphagddgaa
open Go.RowKit
set_option linter.unusedVariables false
set_option linter.unusedSimpArgs false

theorem i64_and3 (n : Int) : bits .and .i64 n 3 = n % 4 := by
  have h127 : (BitVec.ofInt 64 3).toNat = 2 ^ 2 - 1 := by decide
  have key : (BitVec.ofInt 64 n &&& BitVec.ofInt 64 3).toNat = (n % ((2 ^ 64 : Nat) : Int)).toNat % 2 ^ 2 := by
    rw [BitVec.toNat_and, BitVec.toNat_ofInt, h127, Nat.and_two_pow_sub_one_eq_mod]
  show IntKind.i64.wrap ((BitVec.ofInt 64 n &&& BitVec.ofInt 64 3).toNat : Nat) = n % 4
  rw [key, IntKind.wrap_i64]
  omega
theorem which (n : Int) : ∃ k : Nat, k < 4 ∧ bits .and .i64 n 3 = (k : Int) := ⟨(n % 4).toNat, by omega, by rw [i64_and3]; omega⟩

/-- A world that came of w and has turned nothing that lay in it: one name for both. -/
structure BelowOf (w : World) where
  W : World
  h : Below w.heap.size w W
instance (w : World) : Inhabited (BelowOf w) := ⟨⟨w, Below.refl _ _⟩⟩
theorem wp_region_below {id : Nat} {Q : Exit → Act → World → Prop} {a : Act} {w : World} {l : List Oper} (hm : Try.prog.follows .mixedOrders = true) (hB : Region.lexB .any l.toArray = true)
    (h : wpQuiet Try.prog l.toArray (fun w' => ∃ p : BelowOf w, w' = p.W) (fun a' => ∀ w', (∃ p : BelowOf w, w' = p.W) → Q .normal a' w') l a) : (Code.region id l.toArray true).wp Try.prog Q a w :=
  wp_region_quiet (C := fun w' => ∃ p : BelowOf w, w' = p.W) hm hB ⟨⟨w.drew, (Below.refl _ _).drew⟩, rfl⟩ (by simpa using h)
theorem below_steps {w0 w w' : World} (h : Below w0.heap.size w0 w) (hb : Below w.heap.size w w') : Below w0.heap.size w0 w' := h.trans (hb.mono h.size)
theorem calls_below {f : FuncId} {args : Array Value} {w : World} (p : BelowOf w) {v : Value}
    (h : Calls Try.prog f args p.W fun e w' => e = .returned v ∧ Below p.W.heap.size p.W w') : Calls Try.prog f args p.W fun e w'' => e = .returned v ∧ ∃ q : BelowOf w, w'' = q.W :=
  h.mono fun _ w' ⟨he, hb⟩ => ⟨he, ⟨w', below_steps p.h hb⟩, rfl⟩

structure Four (w wr : World) (g S R : Nat) (B M : Nat → Nat) (b : Nat → AB) : Prop where
  sys : Sys wr S R 4 B M b
  bel : Below w.heap.size w wr
  arr : ∀ k, k < 4 → wr.cell? ⟨g, k, none⟩ = some (Pq (B k))
  glt : g < wr.heap.size
  gF : ¬ FP S 4 B M g
  glo : w.heap.size ≤ g
  lo : ∀ x, FP S 4 B M x → w.heap.size ≤ x
theorem Four.below {w wr w' : World} {g S R : Nat} {B M : Nat → Nat} {b : Nat → AB} (h : Four w wr g S R B M b) (hb : Below wr.heap.size wr w') : Four w w' g S R B M b :=
  ⟨h.sys.below hb, below_steps h.bel hb, fun k hk => (hb.cell (p := ⟨g, k, none⟩) h.glt).trans (h.arr k hk), Nat.lt_of_lt_of_le h.glt hb.size, h.gF, h.glo, h.lo⟩
theorem Four.drew {w wr : World} {g S R : Nat} {B M : Nat → Nat} {b : Nat → AB} (h : Four w wr g S R B M b) : Four w wr.drew g S R B M b := h.below (Below.refl _ _).drew
theorem Four.step {w wr w' : World} {g S R : Nat} {B M : Nat → Nat} {b b' : Nat → AB} (h : Four w wr g S R B M b) (hs : Sys w' S R 4 B M b') (ho : Only (FP S 4 B M) wr w') : Four w w' g S R B M b' :=
  ⟨hs, ho.below h.bel (Nat.le_refl _) h.lo, fun k hk => (World.cell?_of_block (a := ⟨g, k, none⟩) (ho.block g h.glt h.gF)).trans (h.arr k hk), Nat.lt_of_lt_of_le h.glt ho.size, h.gF, h.glo, h.lo⟩
/-- An act of the body that is picked, played. -/
theorem four_play {w wr : World} {g S R : Nat} {B M : Nat → Nat} {b : Nat → AB} (h : Four w wr g S R B M b) {k : Nat} (hk : k < 4) (x : Act5) (hs : Src wr w.heap.size x.A x.len x.cap x.f) :
    Calls Try.prog 30 #[Pq S, Pq (B k), ActV x] wr (fun e w' => e = .returned (.tuple #[]) ∧ ∃ b', Four w w' g S R B M b') :=
  (play_any h.sys hk x h.bel.size h.lo hs).mono fun _ _ ⟨he, b', hs', ho⟩ => ⟨he, _, h.step hs' ho⟩
def B4 (p0 p1 p2 p3 : Nat) : Nat → Nat := updF (updF (updF (updF (fun _ => 0) 0 p0) 1 p1) 2 p2) 3 p3
theorem B4_0 (p0 p1 p2 p3 : Nat) : B4 p0 p1 p2 p3 0 = p0 := by simp [B4, updF]
theorem B4_1 (p0 p1 p2 p3 : Nat) : B4 p0 p1 p2 p3 1 = p1 := by simp [B4, updF]
theorem B4_2 (p0 p1 p2 p3 : Nat) : B4 p0 p1 p2 p3 2 = p2 := by simp [B4, updF]
theorem B4_3 (p0 p1 p2 p3 : Nat) : B4 p0 p1 p2 p3 3 = p3 := by simp [B4, updF]
def E4 : Nat → AB := updF (updF (updF (updF (fun _ => AB.empty) 0 AB.empty) 1 AB.empty) 2 AB.empty) 3 AB.empty
theorem E4_eq : E4 = fun _ => AB.empty := by
  funext x
  simp [E4, updF]
theorem sys_zero {w : World} {S R : Nat} (h : Sys w S R 0 (fun _ => 0) (fun _ => 0) (fun _ => AB.empty)) (B M : Nat → Nat) (b : Nat → AB) : Sys w S R 0 B M b := Sys.congr h fun k hk => absurd hk (Nat.not_lt_zero _)

theorem B4_mem {p0 p1 p2 p3 : Nat} {P : Nat → Prop} (h : P p0 ∧ P p1 ∧ P p2 ∧ P p3) {k : Nat} (hk : k < 4) : P (B4 p0 p1 p2 p3 k) := by
  have : k = 0 ∨ k = 1 ∨ k = 2 ∨ k = 3 := by omega
  rcases this with rfl | rfl | rfl | rfl
  · rw [B4_0]; exact h.1
  · rw [B4_1]; exact h.2.1
  · rw [B4_2]; exact h.2.2.1
  · rw [B4_3]; exact h.2.2.2
theorem four_made {w w6 : World} {S R p0 p1 p2 p3 m0 m1 m2 m3 : Nat} {b : Nat → AB} (hs : Sys w6 S R 4 (B4 p0 p1 p2 p3) (B4 m0 m1 m2 m3) b) (hb : Below w.heap.size w w6) (hS : w.heap.size ≤ S)
    (hp : w.heap.size ≤ p0 ∧ w.heap.size ≤ p1 ∧ w.heap.size ≤ p2 ∧ w.heap.size ≤ p3) (hm : w.heap.size ≤ m0 ∧ w.heap.size ≤ m1 ∧ w.heap.size ≤ m2 ∧ w.heap.size ≤ m3) :
    Four w (w6.alloc (.cells #[Pq p0, Pq p1, Pq p2, Pq p3] 29)) w6.heap.size S R (B4 p0 p1 p2 p3) (B4 m0 m1 m2 m3) b := by
  have hlt : ∀ x, FP S 4 (B4 p0 p1 p2 p3) (B4 m0 m1 m2 m3) x → x < w6.heap.size := by
    rintro x (rfl | ⟨k, hk, h | h⟩)
    · exact hs.ltS
    · rw [h]; exact (hs.bod k hk).ltB
    · rw [h]; exact (hs.bod k hk).ltM
  refine ⟨hs.below (below_one _ _), below_steps hb (below_one _ _), fun k hk => ?_, by simp, fun h => by have := hlt _ h; omega, hb.size, ?_⟩
  · rw [cell_of_row _ _ k _ 29 (0, 0) (heap_alloc_last w6 _)]
    have : k = 0 ∨ k = 1 ∨ k = 2 ∨ k = 3 := by omega
    rcases this with rfl | rfl | rfl | rfl
    · rw [B4_0]; rfl
    · rw [B4_1]; rfl
    · rw [B4_2]; rfl
    · rw [B4_3]; rfl
  · rintro x (rfl | ⟨k, hk, h | h⟩)
    · exact hS
    · rw [h]; exact B4_mem (P := fun y => w.heap.size ≤ y) hp hk
    · rw [h]; exact B4_mem (P := fun y => w.heap.size ≤ y) hm hk

/-- The chunks of the first K bodies, told by Chunks, are what tot says. -/
theorem tot_succ (K : Nat) (b : Nat → AB) : tot (K + 1) b = tot K b + (b K).n := rfl
theorem n_le (b : AB) : b.n ≤ 4096 := by
  unfold AB.n cnt
  exact Nat.le_trans (List.length_filter_le _ _) (by simp)
/-- A body has a chunk for each hole less than its size asks for. -/
theorem chunks_holes {b : AB} (ok : b.Ok) : b.n + (holesL ((b.size + 15) / 16) b.th).length = (b.size + 15) / 16 := by
  have h1 : ∀ c (th : Nat → Bool), cnt c th + (holesL c th).length = c := by
    intro c th
    induction c with
    | zero => rfl
    | succ c ih =>
      cases ht : th c
      · rw [holesL_no ht]
        unfold cnt at *
        rw [List.range_succ, List.filter_append]
        simp [ht] at ih ⊢
        omega
      · rw [holesL_yes ht]
        unfold cnt at *
        rw [List.range_succ, List.filter_append]
        simp [ht] at ih ⊢
        omega
  have h2 : ∀ d c, d ≤ c → (∀ k, b.th k = true → k < d) → cnt c b.th = cnt d b.th := by
    intro d c hdc hd
    induction c with
    | zero => obtain rfl : d = 0 := by omega
              rfl
    | succ c ih =>
      by_cases e : d = c + 1
      · rw [e]
      · rw [← ih (by omega)]
        have hf : b.th c = false := by
          cases ht : b.th c
          · rfl
          · have := hd c ht; omega
        unfold cnt
        rw [List.range_succ, List.filter_append]
        simp [hf]
  have h3 : b.n = cnt ((b.size + 15) / 16) b.th := h2 _ 4096 (by have := ok.size; omega) fun k hk => by have := ok.th k hk; omega
  rw [h3]
  exact h1 _ _
end Go.Proofs.Ytpnnonphagddgaa
