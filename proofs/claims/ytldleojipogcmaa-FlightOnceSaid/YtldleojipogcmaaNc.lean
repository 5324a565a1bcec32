/- A table in memory: its box, its three maps, the rows of who has joined. -/
import Derived.Test.YtldleojipogcmaaNb
namespace Go.Proofs.Ytldleojipogcmaa.fl
open Go.RowKit
set_option linter.unusedVariables false
set_option linter.unusedSimpArgs false

/-- Whose a block is. -/
inductive Tag where
  | no | box | fls | abs | ress
  | row (k : Int)
abbrev U0 : Value := .agg #[]
def abF (ab : Int → Bool) : Int → Option Value := fun a => if ab a then some U0 else none
def resF (r : Int → Option Int) : Int → Option Value := fun a => (r a).map (Value.int .i64)
/-- A flight as the map's entry tells it. -/
def FV (lo : Nat) (w : World) (tg : Nat → Tag) (k : Int) (v : Option Value) : Option (Int × List Int) → Prop
  | none => v = none
  | some (l, xs) => ∃ sv, v = some (.agg #[.int .i64 l, sv]) ∧ OI w lo sv xs ∧ ∀ g, sv.ownBlock = some g → tg g = .row k
theorem FV.keep {lo : Nat} {w w' : World} {tg tg' : Nat → Tag} {k : Int} {v : Option Value} {o : Option (Int × List Int)} (h : FV lo w tg k v o) (hk : ∀ b, tg b = .row k → w'.heap[b]? = w.heap[b]? ∧ tg' b = .row k) : FV lo w' tg' k v o := by
  cases o with
  | none => exact h
  | some p =>
    obtain ⟨l, xs⟩ := p
    obtain ⟨sv, h1, h2, h3⟩ := h
    exact ⟨sv, h1, h2.keep fun g e => (hk g (h3 g e)).1, fun g e => (hk g (h3 g e)).2⟩
/-- A table that the call made behind w0. -/
structure TX (w0 w : World) (P A B C : Nat) (tg : Nat → Tag) (f : Int → Option Value) (s : Fs) : Prop where
  own : ∀ b, tg b ≠ .no → w0.heap.size ≤ b ∧ b < w.heap.size
  bel : Below w0.heap.size w0 w
  tP : tg P = .box
  tA : tg A = .fls
  tB : tg B = .abs
  tC : tg C = .ress
  p0 : w.cell? ⟨P, 0, none⟩ = some (.map (some A))
  p1 : w.cell? ⟨P, 1, none⟩ = some (.map (some B))
  p2 : w.cell? ⟨P, 2, none⟩ = some (.map (some C))
  mA : ∃ n S, n ≤ s.N ∧ MapV w A n S f
  mB : ∃ n S, n ≤ s.N ∧ MapV w B n S (abF s.ab)
  mC : ∃ n S, n ≤ s.K ∧ MapV w C n S (resF s.res)
  row : ∀ k, FV w0.heap.size w tg k (f k) (s.fl k)
  wf : ∀ k l xs, s.fl k = some (l, xs) → Wf k ∧ Wf l ∧ (∀ x ∈ xs, Wf x) ∧ xs.length ≤ s.N
section
variable {w0 w w' : World} {P A B C : Nat} {tg : Nat → Tag} {f : Int → Option Value} {s : Fs}
theorem tne {tg : Nat → Tag} {a b : Nat} {x y : Tag} (h1 : tg a = x) (h2 : tg b = y) (h : x ≠ y) : a ≠ b := fun e => h (by rw [← h1, e, h2])
theorem TX.nPA (h : TX w0 w P A B C tg f s) : P ≠ A := tne h.tP h.tA (by simp)
theorem TX.nPB (h : TX w0 w P A B C tg f s) : P ≠ B := tne h.tP h.tB (by simp)
theorem TX.nPC (h : TX w0 w P A B C tg f s) : P ≠ C := tne h.tP h.tC (by simp)
theorem TX.nAB (h : TX w0 w P A B C tg f s) : A ≠ B := tne h.tA h.tB (by simp)
theorem TX.nAC (h : TX w0 w P A B C tg f s) : A ≠ C := tne h.tA h.tC (by simp)
theorem TX.nBC (h : TX w0 w P A B C tg f s) : B ≠ C := tne h.tB h.tC (by simp)
theorem TX.keep (h : TX w0 w P A B C tg f s) (hb : Below w0.heap.size w0 w') (hs : w.heap.size ≤ w'.heap.size) (hk : ∀ b, tg b ≠ .no → w'.heap[b]? = w.heap[b]?) : TX w0 w' P A B C tg f s := by
  have kP := hk P (by rw [h.tP]; simp)
  have kA := hk A (by rw [h.tA]; simp)
  have kB := hk B (by rw [h.tB]; simp)
  have kC := hk C (by rw [h.tC]; simp)
  exact ⟨fun b h1 => ⟨(h.own b h1).1, Nat.lt_of_lt_of_le (h.own b h1).2 hs⟩, hb, h.tP, h.tA, h.tB, h.tC, (World.cell?_of_block (a := ⟨P, 0, none⟩) kP).trans h.p0, (World.cell?_of_block (a := ⟨P, 1, none⟩) kP).trans h.p1, (World.cell?_of_block (a := ⟨P, 2, none⟩) kP).trans h.p2,
    by obtain ⟨n, S, hn, hm⟩ := h.mA; exact ⟨n, S, hn, hm.of_block kA⟩, by obtain ⟨n, S, hn, hm⟩ := h.mB; exact ⟨n, S, hn, hm.of_block kB⟩, by obtain ⟨n, S, hn, hm⟩ := h.mC; exact ⟨n, S, hn, hm.of_block kC⟩,
    fun k => (h.row k).keep fun b e => ⟨hk b (by rw [e]; simp), e⟩, h.wf⟩
theorem TX.below (h : TX w0 w P A B C tg f s) (hb : Below w.heap.size w w') : TX w0 w' P A B C tg f s :=
  h.keep (below_step h.bel hb) hb.size fun b hb2 => hb.block b (h.own b hb2).2
theorem TX.apart (h : TX w0 w P A B C tg f s) {F : Nat → Prop} (ho : Only F w w') (hF : ∀ b, F b → w0.heap.size ≤ b ∧ tg b = .no) : TX w0 w' P A B C tg f s :=
  h.keep (ho.below h.bel fun b hb => (hF b hb).1) ho.size fun b hb2 => ho.block b (h.own b hb2).2 fun e => hb2 (hF b e).2
theorem TX.lo (h : TX w0 w P A B C tg f s) {b : Nat} (hb : tg b ≠ .no) : w0.heap.size ≤ b := (h.own b hb).1
/-- A step that turns one map alone: C. -/
theorem TX.turnC (h : TX w0 w P A B C tg f s) (ho : w.grownBy w' (some C)) {r : Int → Option Int} {K n S : Nat} (hn : n ≤ K) (hm : MapV w' C n S (resF r)) : TX w0 w' P A B C tg f { s with res := r, K := K } := by
  have hk : ∀ b, tg b ≠ .no → b ≠ C → w'.heap[b]? = w.heap[b]? := fun b h1 h2 => ho.block b (h.own b h1).2 (fun e => h2 (Option.some.inj e))
  have kP := hk P (by rw [h.tP]; simp) h.nPC
  have kA := hk A (by rw [h.tA]; simp) h.nAC
  have kB := hk B (by rw [h.tB]; simp) h.nBC
  exact ⟨fun b h1 => ⟨(h.own b h1).1, Nat.lt_of_lt_of_le (h.own b h1).2 ho.size⟩, (Only.of_grown ho (F := fun b => b = C) (fun k e => (Option.some.inj e).symm)).below h.bel (fun b e => e ▸ h.lo (by rw [h.tC]; simp)), h.tP, h.tA, h.tB, h.tC,
    (World.cell?_of_block (a := ⟨P, 0, none⟩) kP).trans h.p0, (World.cell?_of_block (a := ⟨P, 1, none⟩) kP).trans h.p1, (World.cell?_of_block (a := ⟨P, 2, none⟩) kP).trans h.p2,
    by obtain ⟨n, S, hn, hm⟩ := h.mA; exact ⟨n, S, hn, hm.of_block kA⟩, by obtain ⟨n, S, hn, hm⟩ := h.mB; exact ⟨n, S, hn, hm.of_block kB⟩, ⟨n, S, hn, hm⟩,
    fun k => (h.row k).keep fun b e => ⟨hk b (by rw [e]; simp) (tne e h.tC (by simp)), e⟩, h.wf⟩
/-- .. B. -/
theorem TX.turnB (h : TX w0 w P A B C tg f s) (ho : w.grownBy w' (some B)) {ab : Int → Bool} {n S : Nat} (hn : n ≤ s.N) (hm : MapV w' B n S (abF ab)) : TX w0 w' P A B C tg f { s with ab := ab } := by
  have hk : ∀ b, tg b ≠ .no → b ≠ B → w'.heap[b]? = w.heap[b]? := fun b h1 h2 => ho.block b (h.own b h1).2 (fun e => h2 (Option.some.inj e))
  have kP := hk P (by rw [h.tP]; simp) h.nPB
  have kA := hk A (by rw [h.tA]; simp) h.nAB
  have kC := hk C (by rw [h.tC]; simp) h.nBC.symm
  exact ⟨fun b h1 => ⟨(h.own b h1).1, Nat.lt_of_lt_of_le (h.own b h1).2 ho.size⟩, (Only.of_grown ho (F := fun b => b = B) (fun k e => (Option.some.inj e).symm)).below h.bel (fun b e => e ▸ h.lo (by rw [h.tB]; simp)), h.tP, h.tA, h.tB, h.tC,
    (World.cell?_of_block (a := ⟨P, 0, none⟩) kP).trans h.p0, (World.cell?_of_block (a := ⟨P, 1, none⟩) kP).trans h.p1, (World.cell?_of_block (a := ⟨P, 2, none⟩) kP).trans h.p2,
    by obtain ⟨n, S, hn, hm⟩ := h.mA; exact ⟨n, S, hn, hm.of_block kA⟩, ⟨n, S, hn, hm⟩, by obtain ⟨n, S, hn, hm⟩ := h.mC; exact ⟨n, S, hn, hm.of_block kC⟩,
    fun k => (h.row k).keep fun b e => ⟨hk b (by rw [e]; simp) (tne e h.tB (by simp)), e⟩, h.wf⟩
/-- .. A: a flight is gone. -/
theorem TX.turnA (h : TX w0 w P A B C tg f s) (ho : w.grownBy w' (some A)) {k : Int} {n S : Nat} (hn : n ≤ s.N) (hm : MapV w' A n S (uno f k)) : TX w0 w' P A B C tg (uno f k) { s with fl := upf s.fl k none } := by
  have hk : ∀ b, tg b ≠ .no → b ≠ A → w'.heap[b]? = w.heap[b]? := fun b h1 h2 => ho.block b (h.own b h1).2 (fun e => h2 (Option.some.inj e))
  have kP := hk P (by rw [h.tP]; simp) h.nPA
  have kB := hk B (by rw [h.tB]; simp) h.nAB.symm
  have kC := hk C (by rw [h.tC]; simp) h.nAC.symm
  refine ⟨fun b h1 => ⟨(h.own b h1).1, Nat.lt_of_lt_of_le (h.own b h1).2 ho.size⟩, (Only.of_grown ho (F := fun b => b = A) (fun k e => (Option.some.inj e).symm)).below h.bel (fun b e => e ▸ h.lo (by rw [h.tA]; simp)), h.tP, h.tA, h.tB, h.tC,
    (World.cell?_of_block (a := ⟨P, 0, none⟩) kP).trans h.p0, (World.cell?_of_block (a := ⟨P, 1, none⟩) kP).trans h.p1, (World.cell?_of_block (a := ⟨P, 2, none⟩) kP).trans h.p2,
    ⟨n, S, hn, hm⟩, by obtain ⟨n, S, hn, hm⟩ := h.mB; exact ⟨n, S, hn, hm.of_block kB⟩, by obtain ⟨n, S, hn, hm⟩ := h.mC; exact ⟨n, S, hn, hm.of_block kC⟩,
    fun x => ?_, fun x l xs e => ?_⟩
  · by_cases e : x = k
    · subst e
      show FV _ _ _ _ (uno f x x) (upf s.fl x none x)
      rw [upf_self]
      show uno f x x = none
      simp [uno]
    · show FV _ _ _ _ (uno f k x) (upf s.fl k none x)
      rw [upf_ne e, show uno f k x = f x by simp [uno, e]]
      exact (h.row x).keep fun b e => ⟨hk b (by rw [e]; simp) (tne e h.tA (by simp)), e⟩
  · change upf s.fl k none x = _ at e
    by_cases e2 : x = k
    · subst e2; rw [upf_self] at e; cases e
    · rw [upf_ne e2] at e; exact h.wf x l xs e
end
abbrev No : Nat → Prop := fun _ => False
def Same (X : Nat → Prop) (w w' : World) : Prop := ∀ b, X b → w'.heap[b]? = w.heap[b]?
/-- A table that the call made behind w0; the blocks X are not its. -/
def TY (w0 w : World) (P : Nat) (X : Nat → Prop) (s : Fs) : Prop := ∃ A B C tg f, TX w0 w P A B C tg f s ∧ ∀ b, X b → b < w.heap.size ∧ tg b = .no
section
variable {w0 w w' : World} {P : Nat} {X Y : Nat → Prop} {s : Fs}
theorem TY.bel (h : TY w0 w P X s) : Below w0.heap.size w0 w := by obtain ⟨_, _, _, _, _, h, _⟩ := h; exact h.bel
theorem TY.weaken (h : TY w0 w P X s) (hY : ∀ b, Y b → X b) : TY w0 w P Y s := by obtain ⟨A, B, C, tg, f, h, hx⟩ := h; exact ⟨A, B, C, tg, f, h, fun b hb => hx b (hY b hb)⟩
theorem TY.forget (h : TY w0 w P X s) : TY w0 w P No s := h.weaken fun _ h => h.elim
theorem TY.over (h : TY w0 w P X s) (hb : Below w.heap.size w w') : TY w0 w' P (fun b => X b ∨ (w.heap.size ≤ b ∧ b < w'.heap.size)) s := by
  obtain ⟨A, B, C, tg, f, h, hx⟩ := h
  refine ⟨A, B, C, tg, f, h.below hb, fun b hb2 => ?_⟩
  rcases hb2 with h1 | ⟨h1, h2⟩
  · exact ⟨Nat.lt_of_lt_of_le (hx b h1).1 hb.size, (hx b h1).2⟩
  · refine ⟨h2, Classical.byContradiction fun e => ?_⟩
    have := (h.own b e).2
    omega
theorem TY.below (h : TY w0 w P X s) (hb : Below w.heap.size w w') : TY w0 w' P X s := (h.over hb).weaken fun _ h => .inl h
/-- What is protected may be turned by others. -/
theorem TY.turn (h : TY w0 w P X s) {F : Nat → Prop} (ho : Only F w w') (hF : ∀ b, F b → X b ∧ w0.heap.size ≤ b) : TY w0 w' P X s := by
  obtain ⟨A, B, C, tg, f, h, hx⟩ := h
  exact ⟨A, B, C, tg, f, h.apart ho fun b hb => ⟨(hF b hb).2, (hx b (hF b hb).1).2⟩, fun b hb => ⟨Nat.lt_of_lt_of_le (hx b hb).1 ho.size, (hx b hb).2⟩⟩
theorem TY.lt (h : TY w0 w P X s) {b : Nat} (hb : X b) : b < w.heap.size := by obtain ⟨A, B, C, tg, f, h, hx⟩ := h; exact (hx b hb).1
theorem TY.wf (h : TY w0 w P X s) {k l : Int} {xs : List Int} (e : s.fl k = some (l, xs)) : Wf k ∧ Wf l ∧ (∀ x ∈ xs, Wf x) ∧ xs.length ≤ s.N := by obtain ⟨A, B, C, tg, f, h, hx⟩ := h; exact h.wf k l xs e
end
/-- How a call goes on: what is the table's may turn, what is new may be its, and what was nobody's stays so. -/
structure Kp (tg tg' : Nat → Tag) (w w' : World) : Prop where
  only : Only (fun b => tg b ≠ .no) w w'
  tag : ∀ b, b < w.heap.size → tg' b ≠ .no → tg b ≠ .no
theorem Kp.of_only {tg : Nat → Tag} {w w' : World} (h : Only (fun b => tg b ≠ .no) w w') : Kp tg tg w w' := ⟨h, fun _ _ h => h⟩
theorem TY.step {w0 w w' : World} {P A B C : Nat} {X : Nat → Prop} {tg tg' : Nat → Tag} {f' : Int → Option Value} {r : Fs} (hx : ∀ b, X b → b < w.heap.size ∧ tg b = .no) (h' : TX w0 w' P A B C tg' f' r) (hk : Kp tg tg' w w') : TY w0 w' P X r ∧ Same X w w' :=
  ⟨⟨A, B, C, tg', f', h', fun b hb => ⟨Nat.lt_of_lt_of_le (hx b hb).1 hk.only.size, Classical.byContradiction fun e => hk.tag b (hx b hb).1 e (hx b hb).2⟩⟩, fun b hb => hk.only.block b (hx b hb).1 (by rw [(hx b hb).2]; simp)⟩
end Go.Proofs.Ytldleojipogcmaa.fl
