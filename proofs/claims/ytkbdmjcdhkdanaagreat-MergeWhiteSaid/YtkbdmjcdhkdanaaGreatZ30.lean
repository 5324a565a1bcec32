/- Acts that came in, opened; the row's last step. Several structures of one call side by side, each with blocks of its own: what a call on one leaves of all. 'build': both branches that came of acts, and the document's. -/
import Derived.Test.YtkbdmjcdhkdanaaGreatZ18
import Derived.ProofKit
import Derived.ChangeSlices
import Derived.SliceStrings
import Derived.Deep.Slices
import Derived.Deep.Fields
import Derived.Lib.SmallJoins
import Derived.OpenShut
import Derived.ChangeSame
import Derived.Test.YtkbdmjcdhkdanaaGreatZ29
import Derived.Lib.ConvBytes
import Derived.StillTailTactics
import Derived.Deep.LoopGhost
section
namespace Go.Proofs.YtkbdmjcdhkdanaaGreat.cb
open Go.ChangeShapes Go.WideShapes Go.ChangeAt Go.RowKit
set_option linter.unusedVariables false
set_option linter.unusedSimpArgs false

section
open Go.Deep
variable {H : Type} {enc : TypeId × Value → H} {P : Program} {w : World} {base : Nat} {spare : Nat → Bool} {held : Bool}
theorem open_slice_fields {t e : TypeId} {fs : Array Field} {fuel : Nat} {cs : List Value} {x : DataW H × List MemPlace} (ht : P.underlying t = some (.slice e)) (he : P.underlying e = some (.struct fs))
    (hone : oneCellFields P fs = true) (hC : P.cellsOf e = fs.size) (h : DataW.trod enc P w base spare held fuel t cs = some x) :
    (cs = [.slice none 0 0]) ∨
    ∃ (a : Addr) (len cap m : Nat), cs = [.slice (some a) len cap] ∧ len ≤ cap ∧ cap ≤ maxLen ∧ len ≤ m ∧
      ∀ i, i < m → ∃ (n : Nat), ∀ (j : Nat) (f : Field), fs[j]? = some f → ∃ (v : Value) (y : DataW H × List MemPlace), w.cell? (a.add (i * fs.size + j)) = some v ∧ DataW.trod enc P w base spare held n f.type [v] = some y := by
  rcases open_slice ht h with h0 | ⟨a, len, cap, m, n, D, Pl, hcs, hb, hl, hm, hmm, hx, hi⟩
  · exact .inl h0.1
  · refine .inr ⟨a, len, cap, m, hcs, hl, hm, by rw [hmm]; split <;> omega, fun i him => ?_⟩
    obtain ⟨cs', hc, ht'⟩ := hi i him
    rw [hC] at hc
    obtain ⟨ys, n', hn', hy, hlen, hyl, hf⟩ := DataW.trod_struct he ht'
    obtain ⟨_, hcl, hat⟩ := World.cells?_some hc
    refine ⟨n', fun j f hj => ?_⟩
    obtain ⟨ho, hk⟩ := hone_of hone j f hj
    have hjl : j < fs.size := (Array.getElem?_eq_some_iff.1 hj).1
    have hcell := hat j hjl
    have hv : cs'[j]? = some (cs'[j]'(by omega)) := List.getElem?_eq_getElem (by omega)
    have h1 := hf j f hj
    rw [ho, hk] at h1
    have hone' : (cs'.drop j).take 1 = [cs'[j]'(by omega)] := by
      rw [List.drop_eq_getElem_cons (by omega)]
      rfl
    rw [hone'] at h1
    have hys : ys[j]? = some (ys[j]'(by omega)) := List.getElem?_eq_getElem (by omega)
    refine ⟨_, _, ?_, h1.trans hys⟩
    rw [← Go.Deep.add_add, hcell, hv]
end

structure Act7 where
  low : Bool
  kind : Int
  d : Int
  t : Int
  n : Int
  a : ByteArray
  b : ByteArray
instance : Inhabited Act7 := ⟨⟨false, 0, 0, 0, 0, ⟨#[]⟩, ⟨#[]⟩⟩⟩
/-- In w the slice of n acts at A reads as F. -/
def Acts (w : World) (B : Nat) (A : Option Addr) (n : Nat) (F : Nat → Act7) : Prop := ∀ i, i < n → ∃ b off, A = some ⟨b, off, none⟩ ∧ b < B ∧
  w.cell? ⟨b, off + i * 7, none⟩ = some (.bool (F i).low) ∧
  w.cell? ⟨b, off + i * 7 + 1, none⟩ = some (.int .i64 (F i).kind) ∧
  w.cell? ⟨b, off + i * 7 + 2, none⟩ = some (.int .i64 (F i).d) ∧
  w.cell? ⟨b, off + i * 7 + 3, none⟩ = some (.int .i64 (F i).t) ∧
  w.cell? ⟨b, off + i * 7 + 4, none⟩ = some (.int .i64 (F i).n) ∧
  w.cell? ⟨b, off + i * 7 + 5, none⟩ = some (.string (F i).a) ∧
  w.cell? ⟨b, off + i * 7 + 6, none⟩ = some (.string (F i).b) ∧ (F i).a.size ≤ maxLen ∧ (F i).b.size ≤ maxLen
theorem Acts.below {w w' : World} {B n : Nat} {A : Option Addr} {F : Nat → Act7} (h : Acts w B A n F) (hb : Below B w w') : Acts w' B A n F := fun i hi => by
  obtain ⟨b, off, e, hB, h0, h1, h2, h3, h4, h5, h6, h7, h8⟩ := h i hi
  exact ⟨b, off, e, hB, (hb.cell (p := ⟨b, off + i * 7, none⟩) hB).trans h0, (hb.cell (p := ⟨b, off + i * 7 + 1, none⟩) hB).trans h1, (hb.cell (p := ⟨b, off + i * 7 + 2, none⟩) hB).trans h2, (hb.cell (p := ⟨b, off + i * 7 + 3, none⟩) hB).trans h3, (hb.cell (p := ⟨b, off + i * 7 + 4, none⟩) hB).trans h4, (hb.cell (p := ⟨b, off + i * 7 + 5, none⟩) hB).trans h5, (hb.cell (p := ⟨b, off + i * 7 + 6, none⟩) hB).trans h6, h7, h8⟩
theorem spot_none {w : World} {a : Addr} {v : Value} (h : w.cell? (a.add 0) = some v) : ∃ b off, a = ⟨b, off, none⟩ ∧ b < w.heap.size := by
  obtain ⟨b, off, spot⟩ := a
  have hs : spot = none := by simpa [Addr.add] using World.cell?_spot h
  subst hs
  exact ⟨b, off, rfl, World.block_lt_of_cell? w _ h⟩
set_option maxRecDepth 100000 in
theorem open_acts {H : Type} {enc : TypeId × Value → H} {W : World} {r : Reach} {b0 : Nat} {sp : Nat → Bool} {held : Bool} {v : Value} {d : DataW H} {p : List MemPlace}
    (hv : Value.okWide Tryz.prog W r b0 22 v) (h : DataW.Trod enc Tryz.prog W 0 sp held 22 v d p) :
    ∃ A n c F, v = .slice A n c ∧ (n ≤ c ∧ c ≤ maxLen) ∧ Acts W W.heap.size A n F := by
  obtain ⟨fuel, hf⟩ := h
  have hcells : v.cells.toList = [v] := by
    obtain ⟨A, n, c, rfl⟩ := okWide_slice Tryz.underlying22 hv
    rfl
  rw [hcells] at hf
  rcases open_slice_fields Tryz.underlying22 Tryz.underlying70 (by kernel_rfl) (by kernel_rfl) hf with e | ⟨a, len, cap, m, e, hl, hm, hlm, hi⟩
  · injection e with e
    subst e
    exact ⟨none, 0, 0, fun _ => default, rfl, ⟨Nat.le_refl _, by unfold maxLen; omega⟩, fun i hi => absurd hi (Nat.not_lt_zero _)⟩
  · injection e with e
    subst e
    have hall : ∀ i, ∃ x : Act7, i < len → ∃ b off, (some a : Option Addr) = some ⟨b, off, none⟩ ∧ b < W.heap.size ∧
        W.cell? ⟨b, off + i * 7, none⟩ = some (.bool x.low) ∧
  W.cell? ⟨b, off + i * 7 + 1, none⟩ = some (.int .i64 x.kind) ∧
  W.cell? ⟨b, off + i * 7 + 2, none⟩ = some (.int .i64 x.d) ∧
  W.cell? ⟨b, off + i * 7 + 3, none⟩ = some (.int .i64 x.t) ∧
  W.cell? ⟨b, off + i * 7 + 4, none⟩ = some (.int .i64 x.n) ∧
  W.cell? ⟨b, off + i * 7 + 5, none⟩ = some (.string x.a) ∧
  W.cell? ⟨b, off + i * 7 + 6, none⟩ = some (.string x.b) ∧ x.a.size ≤ maxLen ∧ x.b.size ≤ maxLen := by
      intro i
      by_cases hil : i < len
      · obtain ⟨n0, hj0⟩ := hi 0 (by omega)
        obtain ⟨_, _, c00, _⟩ := hj0 0 _ rfl
        obtain ⟨b, off, rfl, hb⟩ := spot_none (by simpa using c00)
        obtain ⟨n, hj⟩ := hi i (by omega)
        obtain ⟨v0, y0, c0, t0⟩ := hj 0 _ rfl
        obtain ⟨v1, y1, c1, t1⟩ := hj 1 _ rfl
        obtain ⟨v2, y2, c2, t2⟩ := hj 2 _ rfl
        obtain ⟨v3, y3, c3, t3⟩ := hj 3 _ rfl
        obtain ⟨v4, y4, c4, t4⟩ := hj 4 _ rfl
        obtain ⟨v5, y5, c5, t5⟩ := hj 5 _ rfl
        obtain ⟨v6, y6, c6, t6⟩ := hj 6 _ rfl
        obtain ⟨z0, e0, _⟩ := DataW.trod_bool Tryz.underlying4 t0
        obtain ⟨z1, e1, _⟩ := DataW.trod_int Tryz.underlying3 t1
        obtain ⟨z2, e2, _⟩ := DataW.trod_int Tryz.underlying3 t2
        obtain ⟨z3, e3, _⟩ := DataW.trod_int Tryz.underlying3 t3
        obtain ⟨z4, e4, _⟩ := DataW.trod_int Tryz.underlying3 t4
        obtain ⟨z5, e5, _, hz5⟩ := DataW.trod_string Tryz.underlying9 t5
        obtain ⟨z6, e6, _, hz6⟩ := DataW.trod_string Tryz.underlying9 t6
        injection e0 with e0
        subst e0
        injection e1 with e1
        subst e1
        injection e2 with e2
        subst e2
        injection e3 with e3
        subst e3
        injection e4 with e4
        subst e4
        injection e5 with e5
        subst e5
        injection e6 with e6
        subst e6
        rw [Go.WideShapes.add_plain] at c0 c1 c2 c3 c4 c5 c6
        exact ⟨⟨z0, z1, z2, z3, z4, z5, z6⟩, fun _ => ⟨b, off, rfl, hb, by simpa using c0, by simpa [Nat.add_assoc] using c1, by simpa [Nat.add_assoc] using c2, by simpa [Nat.add_assoc] using c3, by simpa [Nat.add_assoc] using c4, by simpa [Nat.add_assoc] using c5, by simpa [Nat.add_assoc] using c6, hz5, hz6⟩⟩
      · exact ⟨default, fun h => absurd h hil⟩
    obtain ⟨F, hF⟩ := Classical.axiomOfChoice hall
    exact ⟨some a, len, cap, F, rfl, ⟨hl, hm⟩, hF⟩

/-- The row's last step: the results read, the arguments read as they did, and below the heap's first end nothing has turned. -/
theorem law_post {H : Type} {enc : TypeId × Value → H} {P : Program} {f : Func} {s : ChangeSpec} {apart fresh handsOn : Bool} {W W' : World} {args : Array Value} {v : Value} {ds gs : List (DataW H)} {before pa pv : List MemPlace}
    (hW : DataW.Whole enc P f.params.toList s.vars apart W args.toList ds gs before)
    (hres : ∀ (b : Nat) (sp : Nat → Bool) (hd : Bool), DataW.TrodAll enc P W' b sp hd f.resultTypes.toList (v.resultList f.resultTypes.size) (s.fn H (ds ++ gs)).results [])
    (hargs : ∀ sp : Nat → Bool, (∀ p ∈ before, sp p.block = true) → DataW.TrodAll enc P W' 0 sp true f.params.toList args.toList (s.fn H (ds ++ gs)).args pa)
    (hvars : ∀ sp : Nat → Bool, (∀ p ∈ before, sp p.block = true) → DataW.TrodVars enc P W' sp s.vars (s.fn H (ds ++ gs)).vars pv)
    (hps : before = pa ++ pv) (hb : Below W.heap.size W W')
    (_hok : ∀ (j : Nat) (t : TypeId) (r : Value), f.resultTypes[j]? = some t → (v.resultList f.resultTypes.size)[j]? = some r → Value.okWide P W' .any 0 t r) :
    s.post enc P f apart fresh handsOn false W args v W' := by
  have hlt : ∀ p ∈ before, p.block < W.heap.size := fun p hp => hW.lt p hp
  have hold : ∀ p ∈ before, (fun b => decide (b < W.heap.size)) p.block = true := fun p hp => by simpa using hlt p hp
  refine ⟨ds, gs, before, [], pa, pv, hW, hres _ _ _, hargs _ hold, hvars _ hold, World.keptBut_mono (fun p hp => ⟨hp, ?_⟩) (hb.frame (· ∈ before)), fun h => by cases h⟩
  rw [hps, List.mem_append] at hp
  exact Or.inr hp

/-- An argument reads as it did, in any later world that is the same below the heap's first end. -/
theorem arg_stays {H : Type} {enc : TypeId × Value → H} {W W' : World} {v : Value} {d : DataW H} {ps before : List MemPlace} {sp : Nat → Bool}
    (h : DataW.Trod enc Tryz.prog W 0 (fun _ => true) true 22 v d ps) (hb : Below W.heap.size W W') (hsub : ∀ x ∈ ps, x ∈ before) (hlt : ∀ x ∈ before, x.block < W.heap.size) (hsp : ∀ x ∈ before, sp x.block = true) (hlaid : laidOutB Tryz.prog = true) :
    DataW.Trod enc Tryz.prog W' 0 sp true 22 v d ps :=
  WideElems.Trod_stays hlaid (by kernel_rfl) (of_decide_eq_true (by kernel_rfl)) h (fun x hx => hb.same (hlt x (hsub x hx))) (fun x hx => hsp x (hsub x hx))
end Go.Proofs.YtkbdmjcdhkdanaaGreat.cb
end
section
namespace Go.Proofs.YtkbdmjcdhkdanaaGreat.cb
open Go.RowKit
open Go.Proofs.YtkbdmjcdhkdanaaGreat.br
open Go.Proofs.YtkbdmjcdhkdanaaGreat.bl (AB Only Pq U8 WR StoC)
set_option linter.unusedVariables false
set_option linter.unusedSimpArgs false

/-- A structure in memory, with the blocks that are its own. -/
abbrev Res := World → (Nat → Prop) → Prop
structure Stab (w0 : World) (r : Res) : Prop where
  own : ∀ (w : World) (O : Nat → Prop), r w O → ∀ b, O b → w0.heap.size ≤ b ∧ b < w.heap.size
  keep : ∀ (w w' : World) (O : Nat → Prop), r w O → Only (fun b => ¬ O b) w w' → r w' O
/-- What a call on a structure leaves: it is r'; only its own blocks were turned; what is its own now was so, or is new. -/
def NxR (w w' : World) (r' : Res) (O : Nat → Prop) : Prop := ∃ O' : Nat → Prop, r' w' O' ∧ (∀ b, O' b → O b ∨ w.heap.size ≤ b) ∧ Only O w w'
/-- The structures L, made behind w0; the blocks X are none's. -/
structure Sys (w0 w : World) (L : List Res) (X : Nat → Prop) : Prop where
  bel : Below w0.heap.size w0 w
  stab : ∀ (i : Nat) (r : Res), L[i]? = some r → Stab w0 r
  tag : ∃ g : Nat → Nat, (∀ (i : Nat) (r : Res), L[i]? = some r → r w (fun b => g b = i + 1)) ∧ (∀ b, w.heap.size ≤ b → g b = 0) ∧ ∀ b, X b → b < w.heap.size ∧ g b = 0
section
variable {w0 w w' : World} {L : List Res} {X Y F : Nat → Prop} {r r' : Res} {i : Nat}
theorem only_below (h : Below w.heap.size w w') : Only F w w' := ⟨h.os, h.tape, h.output, h.size, fun k hk _ => h.block k hk⟩
theorem owk {G : Nat → Prop} (h : Only F w w') (hg : ∀ b, b < w.heap.size → F b → G b) : Only G w w' := ⟨h.os, h.tape, h.output, h.size, fun k hk hn => h.block k hk fun e => hn (hg k hk e)⟩
theorem below_only (hb : Below w0.heap.size w0 w) (h : Only F w w') (hF : ∀ b, F b → w0.heap.size ≤ b) : Below w0.heap.size w0 w' :=
  hb.trans ⟨h.os, h.tape, h.output, h.size, fun k hk => h.block k (Nat.lt_of_lt_of_le hk hb.size) fun e => by have := hF k e; omega⟩
theorem Sys.lt (h : Sys w0 w L X) {b : Nat} (hb : X b) : b < w.heap.size := by obtain ⟨g, _, _, h2⟩ := h.tag; exact (h2 b hb).1
theorem Sys.nil (hb : Below w0.heap.size w0 w) : Sys w0 w [] (fun b => b < w.heap.size) :=
  ⟨hb, fun _ _ h => by simp at h, fun _ => 0, fun _ _ h => by simp at h, fun _ _ => rfl, fun b hb => ⟨hb, rfl⟩⟩
theorem Sys.sub (h : Sys w0 w L X) (hY : ∀ b, Y b → X b) : Sys w0 w L Y := by
  obtain ⟨g, h1, h3, h2⟩ := h.tag
  exact ⟨h.bel, h.stab, g, h1, h3, fun b hb => h2 b (hY b hb)⟩
theorem Sys.forget (h : Sys w0 w L X) : Sys w0 w L No := h.sub fun _ e => e.elim
/-- Blocks that are nobody's are turned; new ones are nobody's. -/
theorem Sys.turn (h : Sys w0 w L X) (ho : Only F w w') (hF : ∀ b, F b → X b ∧ w0.heap.size ≤ b) (hY : ∀ b, Y b → X b ∨ (w.heap.size ≤ b ∧ b < w'.heap.size)) : Sys w0 w' L Y := by
  obtain ⟨g, h1, h3, h2⟩ := h.tag
  refine ⟨below_only h.bel ho fun b hb => (hF b hb).2, h.stab, g, fun i r hi => ?_, fun b hb => h3 b (Nat.le_trans ho.size hb), fun b hb => ?_⟩
  · refine (h.stab i r hi).keep w w' _ (h1 i r hi) (owk ho fun b hb hf e => ?_)
    have := (h2 b (hF b hf).1).2
    omega
  · rcases hY b hb with h4 | ⟨h4, h5⟩
    · exact ⟨Nat.lt_of_lt_of_le (h2 b h4).1 ho.size, (h2 b h4).2⟩
    · exact ⟨h5, h3 b h4⟩
theorem Sys.box (h : Sys w0 w L X) (hb : Below w.heap.size w w') (hY : ∀ b, Y b → X b ∨ (w.heap.size ≤ b ∧ b < w'.heap.size)) : Sys w0 w' L Y :=
  h.turn (F := fun _ => False) (only_below hb) (fun _ e => e.elim) hY
theorem Sys.below (h : Sys w0 w L X) (hb : Below w.heap.size w w') : Sys w0 w' L X := h.box hb fun _ e => .inl e
theorem Sys.ask {p : Prop} (h : Sys w0 w L X) (hi : L[i]? = some r) (hp : ∀ O, r w O → p) : p := by obtain ⟨g, h1, _⟩ := h.tag; exact hp _ (h1 i r hi)
theorem set_get {i j : Nat} {s : Res} (h : (L.set i r')[j]? = some s) : (j = i ∧ s = r') ∨ (j ≠ i ∧ L[j]? = some s) := by
  by_cases e : i = j
  · subst e
    rw [List.getElem?_set] at h
    by_cases hl : i < L.length
    · simp [hl] at h; exact .inl ⟨rfl, h.symm⟩
    · simp [hl] at h
  · rw [List.getElem?_set_ne e] at h
    exact .inr ⟨fun e2 => e e2.symm, h⟩
theorem sys_core {g : Nat → Nat} (h : Sys w0 w L X) (h1 : ∀ (i : Nat) (r : Res), L[i]? = some r → r w (fun b => g b = i + 1)) (h3 : ∀ b, w.heap.size ≤ b → g b = 0) (h2 : ∀ b, X b → b < w.heap.size ∧ g b = 0)
    (hi : L[i]? = some r) (hs : Stab w0 r') (k : NxR w w' r' (fun b => g b = i + 1)) : Sys w0 w' (L.set i r') X ∧ Same X w w' := by
  classical
  obtain ⟨O', k1, k2, k3⟩ := k
  have hown := (h.stab i r hi).own w _ (h1 i r hi)
  have hO' := hs.own w' O' k1
  have hg : ∀ j s, j ≠ i → L[j]? = some s → ∀ b, (if O' b then i + 1 else if b < w.heap.size ∧ g b ≠ i + 1 then g b else 0) = j + 1 ↔ g b = j + 1 := fun j s hj hs b => by
    have ho := (h.stab j s hs).own w _ (h1 j s hs) b
    by_cases e1 : O' b
    · rw [if_pos e1]
      refine ⟨fun e => absurd (Nat.succ.inj e).symm hj, fun e => ?_⟩
      have := (ho e).2
      rcases k2 b e1 with e2 | e2 <;> omega
    · rw [if_neg e1]
      by_cases e2 : b < w.heap.size ∧ g b ≠ i + 1
      · rw [if_pos e2]
      · rw [if_neg e2]
        refine ⟨fun e => by omega, fun e => ?_⟩
        have := (ho e).2
        exact absurd ⟨this, by omega⟩ e2
  refine ⟨⟨below_only h.bel k3 fun b hb => (hown b hb).1, fun j s hj => ?_, fun b => if O' b then i + 1 else if b < w.heap.size ∧ g b ≠ i + 1 then g b else 0, fun j s hj => ?_, fun b hb => ?_, fun b hb => ?_⟩, fun b hb => ?_⟩
  · rcases set_get hj with ⟨_, rfl⟩ | ⟨_, e⟩
    · exact hs
    · exact h.stab j s e
  · rcases set_get hj with ⟨rfl, rfl⟩ | ⟨hne, e⟩
    · have : (fun b => (if O' b then j + 1 else if b < w.heap.size ∧ g b ≠ j + 1 then g b else 0) = j + 1) = O' := by
        funext b
        refine propext ⟨fun e => ?_, fun e => by rw [if_pos e]⟩
        by_cases e1 : O' b
        · exact e1
        · rw [if_neg e1] at e
          by_cases e2 : b < w.heap.size ∧ g b ≠ j + 1
          · rw [if_pos e2] at e; exact absurd e e2.2
          · rw [if_neg e2] at e; omega
      rw [this]; exact k1
    · have : (fun b => (if O' b then i + 1 else if b < w.heap.size ∧ g b ≠ i + 1 then g b else 0) = j + 1) = fun b => g b = j + 1 := funext fun b => propext (hg j s hne e b)
      rw [this]
      refine (h.stab j s e).keep w w' _ (h1 j s e) (owk k3 fun b hb hO e2 => ?_)
      omega
  · have e1 : ¬ O' b := fun e => by have := (hO' b e).2; omega
    show (if O' b then i + 1 else if b < w.heap.size ∧ g b ≠ i + 1 then g b else 0) = 0
    rw [if_neg e1, if_neg (fun e => by have := k3.size; omega)]
  · obtain ⟨h4, h5⟩ := h2 b hb
    refine ⟨Nat.lt_of_lt_of_le h4 k3.size, ?_⟩
    show (if O' b then i + 1 else if b < w.heap.size ∧ g b ≠ i + 1 then g b else 0) = 0
    have e1 : ¬ O' b := fun e => by
      rcases k2 b e with e2 | e2
      · omega
      · omega
    rw [if_neg e1, if_pos ⟨h4, by omega⟩, h5]
  · obtain ⟨h4, h5⟩ := h2 b hb
    exact k3.block b h4 fun e => by omega
/-- A call on one of the structures. -/
theorem Sys.call {f : Nat} {args : Array Value} {v : Value} (h : Sys w0 w L X) (hi : L[i]? = some r) (hs : Stab w0 r')
    (hc : ∀ O, r w O → Calls Tryz.prog f args w (fun e w' => e = .returned v ∧ NxR w w' r' O)) :
    Calls Tryz.prog f args w (fun e w' => e = .returned v ∧ Sys w0 w' (L.set i r') X ∧ Same X w w') := by
  obtain ⟨g, h1, h3, h2⟩ := h.tag
  exact (hc _ (h1 i r hi)).mono fun e w' ⟨he, hx⟩ => ⟨he, sys_core h h1 h3 h2 hi hs hx⟩
theorem Sys.callE {ι : Type} {p : ι → Prop} {v : ι → Value} {q : ι → Res} {f : Nat} {args : Array Value} (h : Sys w0 w L X) (hi : L[i]? = some r) (hs : ∀ z, p z → Stab w0 (q z))
    (hc : ∀ O, r w O → (∀ b, X b → b < w.heap.size ∧ ¬ O b) → Calls Tryz.prog f args w (fun e w' => ∃ z, p z ∧ e = .returned (v z) ∧ NxR w w' (q z) O)) :
    Calls Tryz.prog f args w (fun e w' => ∃ z, p z ∧ e = .returned (v z) ∧ Sys w0 w' (L.set i (q z)) X ∧ Same X w w') := by
  obtain ⟨g, h1, h3, h2⟩ := h.tag
  refine (hc _ (h1 i r hi) fun b hb => ⟨(h2 b hb).1, fun e => ?_⟩).mono fun e w' ⟨z, hz, he, hx⟩ => ⟨z, hz, he, sys_core h h1 h3 h2 hi (hs z hz) hx⟩
  have := (h2 b hb).2
  omega
/-- A structure is told otherwise. -/
theorem Sys.weak (h : Sys w0 w L X) (hi : L[i]? = some r) (hs : Stab w0 r') (hr : ∀ O, r w O → r' w O) : Sys w0 w (L.set i r') X := by
  obtain ⟨g, h1, h3, h2⟩ := h.tag
  refine ⟨h.bel, fun j s hj => ?_, g, fun j s hj => ?_, h3, h2⟩
  · rcases set_get hj with ⟨_, rfl⟩ | ⟨_, e⟩
    · exact hs
    · exact h.stab j s e
  · rcases set_get hj with ⟨rfl, rfl⟩ | ⟨_, e⟩
    · exact hr _ (h1 j r hi)
    · exact h1 j s e
/-- A structure that was made anew. -/
theorem Sys.add {O : Nat → Prop} (h : Sys w0 w L X) (hb : Below w.heap.size w w') (hs : Stab w0 r) (hr : r w' O) (hO : ∀ b, O b → w.heap.size ≤ b) : Sys w0 w' (L ++ [r]) X := by
  classical
  obtain ⟨g, h1, h3, h2⟩ := h.tag
  have hl := (hs.own w' O hr)
  have hg : ∀ j b, j < L.length → ((if O b then L.length + 1 else if g b ≤ L.length then g b else 0) = j + 1 ↔ g b = j + 1) := fun j b hj => by
    by_cases e : O b
    · rw [if_pos e, h3 b (hO b e)]; omega
    · rw [if_neg e]
      by_cases e2 : g b ≤ L.length
      · rw [if_pos e2]
      · rw [if_neg e2]; omega
  have hget : ∀ j s, (L ++ [r])[j]? = some s → (j < L.length ∧ L[j]? = some s) ∨ (j = L.length ∧ s = r) := fun j s hj => by
    rcases Nat.lt_or_ge j L.length with h4 | h4
    · rw [List.getElem?_append_left h4] at hj; exact .inl ⟨h4, hj⟩
    · rw [List.getElem?_append_right h4] at hj
      cases e : j - L.length with
      | zero => rw [e] at hj; simp at hj; exact .inr ⟨by omega, hj.symm⟩
      | succ m => rw [e] at hj; simp at hj
  refine ⟨h.bel.trans (hb.mono h.bel.size), fun j s hj => ?_, fun b => if O b then L.length + 1 else if g b ≤ L.length then g b else 0, fun j s hj => ?_, fun b hb' => ?_, fun b hb' => ?_⟩
  · rcases hget j s hj with ⟨_, e⟩ | ⟨_, rfl⟩
    · exact h.stab j s e
    · exact hs
  · rcases hget j s hj with ⟨h4, e⟩ | ⟨rfl, rfl⟩
    · have : (fun b => (if O b then L.length + 1 else if g b ≤ L.length then g b else 0) = j + 1) = fun b => g b = j + 1 := funext fun b => propext (hg j b h4)
      rw [this]
      exact (h.stab j s e).keep w w' _ (h1 j s e) (only_below hb)
    · have : (fun b => (if O b then L.length + 1 else if g b ≤ L.length then g b else 0) = L.length + 1) = O := by
        funext b
        refine propext ⟨fun e => ?_, fun e => by rw [if_pos e]⟩
        by_cases e1 : O b
        · exact e1
        · rw [if_neg e1] at e
          split at e <;> omega
      rw [this]; exact hr
  · have e1 : ¬ O b := fun e => by have := (hl b e).2; omega
    show (if O b then L.length + 1 else if g b ≤ L.length then g b else 0) = 0
    rw [if_neg e1, h3 b (Nat.le_trans hb.size hb')]
    rfl
  · obtain ⟨h4, h5⟩ := h2 b hb'
    have e1 : ¬ O b := fun e => by have := hO b e; omega
    refine ⟨Nat.lt_of_lt_of_le h4 hb.size, ?_⟩
    show (if O b then L.length + 1 else if g b ≤ L.length then g b else 0) = 0
    rw [if_neg e1, h5]; rfl
end

/-! ### a branch of the code's, a branch of the document's -/
/-- A branch of the code's. -/
def KB (w0 : World) (P : Nat) (S : BS) (room T : Nat) : Res := fun w O =>
  ∃ st qb qo pl tag Tq, CB w P w0.heap.size st qb qo pl tag S room (freeL S) Tq ∧ Tq ≤ 199 + T ∧ br.Good S room ∧ room ≤ 65536 ∧ HB S T ∧ ∀ b, O b ↔ tag b ≠ 0
/-- A branch of the document's. -/
def KD (w0 : World) (D RS : Nat) (S : BS) (room : Nat) : Res := fun w O => ∃ pl tg, DB w D w0.heap.size RS pl tg S room ∧ ∀ b, O b ↔ tg b ≠ 0
section
variable {w0 w w' : World} {P D RS room T : Nat} {S S' : BS} {O X : Nat → Prop} {v : Value} {e : Ending}
theorem KB.stab : Stab w0 (KB w0 P S room T) where
  own := fun w O ⟨st, qb, qo, pl, tag, Tq, h1, _, _, _, _, h6⟩ b hb => ⟨h1.ge ((h6 b).1 hb), h1.lt ((h6 b).1 hb)⟩
  keep := fun w w' O ⟨st, qb, qo, pl, tag, Tq, h1, h2, h3, h4, h5, h6⟩ ho =>
    ⟨st, qb, qo, pl, tag, Tq, h1.only ho (fun b hb => Classical.byContradiction fun e => hb ((h6 b).2 e)), h2, h3, h4, h5, h6⟩
theorem KD.stab : Stab w0 (KD w0 D RS S room) where
  own := fun w O ⟨pl, tg, h1, h6⟩ b hb => ⟨(h1.lt ((h6 b).1 hb)).2, (h1.lt ((h6 b).1 hb)).1⟩
  keep := fun w w' O ⟨pl, tg, h1, h6⟩ ho =>
    ⟨pl, tg, h1.keepSame (fun b hb => ho.block b (h1.lt hb).1 fun e => e ((h6 b).2 hb)), h6⟩
theorem KB.brx (h : KB w0 P S room T w O) (hb : Below w0.heap.size w0 w) : BrX w0 w P (fun b => b < w.heap.size ∧ ¬ O b) S room T := by
  obtain ⟨st, qb, qo, pl, tag, Tq, h1, h2, h3, h4, h5, h6⟩ := h
  exact ⟨st, qb, qo, pl, tag, Tq, h1, h2, h3, h4, h5, hb, fun b hb => ⟨hb.1, Classical.byContradiction fun e => hb.2 ((h6 b).2 e)⟩⟩
theorem KB.good (h : KB w0 P S room T w O) : br.Good S room := by obtain ⟨_, _, _, _, _, _, _, _, h3, _⟩ := h; exact h3
theorem KB.up {T' : Nat} (hT : T ≤ T') (h : KB w0 P S room T w O) : KB w0 P S room T' w O := by
  obtain ⟨st, qb, qo, pl, tag, Tq, h1, h2, h3, h4, h5, h6⟩ := h
  exact ⟨st, qb, qo, pl, tag, Tq, h1, by omega, h3, h4, h5.mono (by omega), h6⟩
theorem KB.next {st qb : Nat} {qo : Option Nat} {pl : Nat → Pl} {tag : Nat → Nat} {Tq : Nat} (h2 : Tq ≤ 199 + T) (h4 : room ≤ 65536) (h6 : ∀ b, O b ↔ tag b ≠ 0)
    (hx : RetG w P w0.heap.size st qb tag v S' room Tq e w') (hG : br.Good S' room) (hH : HB S' ((T : Int) + 1)) : e = .returned v ∧ NxR w w' (KB w0 P S' room (T + 1)) O := by
  obtain ⟨he, qo', pl', tag', T', hT, k1, k2⟩ := hx
  refine ⟨he, fun b => tag' b ≠ 0, ⟨st, qb, qo', pl', tag', T', k1, by omega, hG, h4, by simpa using hH, fun b => Iff.rfl⟩, fun b hb => ?_, owk k2.o fun b _ hb => (h6 b).2 hb⟩
  rcases Nat.lt_or_ge b w.heap.size with h7 | h7
  · exact .inl ((h6 b).2 (by rw [← k2.tg b h7]; exact hb))
  · exact .inr h7
theorem KD.next {pl : Nat → Pd} {tg : Nat → Nat} (h6 : ∀ b, O b ↔ tg b ≠ 0) (hx : RetD w D w0.heap.size RS tg v S' room e w') : e = .returned v ∧ NxR w w' (KD w0 D RS S' room) O := by
  obtain ⟨he, pl', tag', k1, k2⟩ := hx
  refine ⟨he, fun b => tag' b ≠ 0, ⟨pl', tag', k1, fun b => Iff.rfl⟩, fun b hb => ?_, owk k2.o fun b _ hb => (h6 b).2 hb⟩
  rcases Nat.lt_or_ge b w.heap.size with h7 | h7
  · exact .inl ((h6 b).2 (by rw [← k2.tg b h7]; exact hb))
  · exact .inr h7
theorem kb_make (h : KB w0 P S room T w O) (hT : T ≤ 1000) (d : Int) (s : ByteArray) (k : Int) (t : ByteArray) (hm : s.size ≤ 9223372036854775807) (hmt : t.size ≤ 9223372036854775807) :
    Calls Tryz.prog 34 #[Pq P, .int .i64 d, .string s, .int .i64 k, .string t] w (fun e w' => e = .returned (.tuple #[.int .i64 (S.make d s k t).1.1, .int .i64 (S.make d s k t).1.2]) ∧ NxR w w' (KB w0 P (S.make d s k t).2 room (T + 1)) O) := by
  obtain ⟨st, qb, qo, pl, tag, Tq, h1, h2, h3, h4, h5, h6⟩ := h
  exact (make_any h1 h3 (by omega) d s k t hm hmt).mono fun _ _ hx => KB.next (qo := qo) (pl := pl) h2 h4 h6 hx (h3.make d s k t) ((h5.make (by omega) d s k t).mono (by omega))
theorem kd_make (h : KD w0 D RS S room w O) (hG : br.Good S room) (hr : room ≤ 65536) (hb : ∀ k, (S.ino k).holds ≤ 900000) (d : Int) (s : ByteArray) (k : Int) (t : ByteArray) (hm : s.size ≤ 9223372036854775807) (hmt : t.size ≤ 9223372036854775807) :
    Calls Tryz.prog 39 #[Pq D, .int .i64 d, .string s, .int .i64 k, .string t] w (fun e w' => e = .returned (.tuple #[.int .i64 (S.make d s k t).1.1, .int .i64 (S.make d s k t).1.2]) ∧ NxR w w' (KD w0 D RS (S.make d s k t).2 room) O) := by
  obtain ⟨pl, tg, h1, h6⟩ := h
  exact (q_make h1 hG d s k t hm hmt).mono fun _ _ hx => KD.next (pl := pl) h6 hx
theorem kb_link (h : KB w0 P S room T w O) (hT : T ≤ 1000) (d : Int) (s : ByteArray) (i : Int) (hm : s.size ≤ 9223372036854775807) :
    Calls Tryz.prog 40 #[Pq P, .int .i64 d, .string s, .int .i64 i] w (fun e w' => e = .returned (.int .i64 (S.link d s i).1) ∧ NxR w w' (KB w0 P (S.link d s i).2 room (T + 1)) O) := by
  obtain ⟨st, qb, qo, pl, tag, Tq, h1, h2, h3, h4, h5, h6⟩ := h
  exact (link_any h1 h3 d s i hm).mono fun _ _ hx => KB.next (qo := qo) (pl := pl) h2 h4 h6 hx (h3.link d s i) ((h5.link d s i).mono (by omega))
theorem kd_link (h : KD w0 D RS S room w O) (hG : br.Good S room) (hr : room ≤ 65536) (hb : ∀ k, (S.ino k).holds ≤ 900000) (d : Int) (s : ByteArray) (i : Int) (hm : s.size ≤ 9223372036854775807) :
    Calls Tryz.prog 41 #[Pq D, .int .i64 d, .string s, .int .i64 i] w (fun e w' => e = .returned (.int .i64 (S.link d s i).1) ∧ NxR w w' (KD w0 D RS (S.link d s i).2 room) O) := by
  obtain ⟨pl, tg, h1, h6⟩ := h
  exact (q_link h1 hG d s i hm).mono fun _ _ hx => KD.next (pl := pl) h6 hx
theorem kb_unlink (h : KB w0 P S room T w O) (hT : T ≤ 1000) (d : Int) (s : ByteArray) :
    Calls Tryz.prog 35 #[Pq P, .int .i64 d, .string s] w (fun e w' => e = .returned (.int .i64 (S.unlink d s).1) ∧ NxR w w' (KB w0 P (S.unlink d s).2 room (T + 1)) O) := by
  obtain ⟨st, qb, qo, pl, tag, Tq, h1, h2, h3, h4, h5, h6⟩ := h
  exact (unlink_any h1 h3 h4 (by omega) d s).mono fun _ _ hx => KB.next (qo := qo) (pl := pl) h2 h4 h6 (RetG.of hx) (h3.unlink d s) ((h5.unlink (by omega) d s).mono (by omega))
theorem kd_unlink (h : KD w0 D RS S room w O) (hG : br.Good S room) (hr : room ≤ 65536) (hb : ∀ k, (S.ino k).holds ≤ 900000) (d : Int) (s : ByteArray) :
    Calls Tryz.prog 42 #[Pq D, .int .i64 d, .string s] w (fun e w' => e = .returned (.int .i64 (S.unlink d s).1) ∧ NxR w w' (KD w0 D RS (S.unlink d s).2 room) O) := by
  obtain ⟨pl, tg, h1, h6⟩ := h
  exact (q_unlink h1 hG hr hb d s).mono fun _ _ hx => KD.next (pl := pl) h6 hx
theorem kb_rename (h : KB w0 P S room T w O) (hT : T ≤ 1000) (d : Int) (s : ByteArray) (t : Int) (u : ByteArray) (hm : u.size ≤ 9223372036854775807) :
    Calls Tryz.prog 46 #[Pq P, .int .i64 d, .string s, .int .i64 t, .string u] w (fun e w' => e = .returned (.int .i64 (S.rename d s t u).1) ∧ NxR w w' (KB w0 P (S.rename d s t u).2 room (T + 1)) O) := by
  obtain ⟨st, qb, qo, pl, tag, Tq, h1, h2, h3, h4, h5, h6⟩ := h
  exact (rename_any h1 h3 h4 (by omega) d s t u hm).mono fun _ _ hx => KB.next (qo := qo) (pl := pl) h2 h4 h6 hx (h3.rename d s t u) ((h5.rename (by omega) d s t u).mono (by omega))
theorem kd_rename (h : KD w0 D RS S room w O) (hG : br.Good S room) (hr : room ≤ 65536) (hb : ∀ k, (S.ino k).holds ≤ 900000) (d : Int) (s : ByteArray) (t : Int) (u : ByteArray) (hm : u.size ≤ 9223372036854775807) :
    Calls Tryz.prog 47 #[Pq D, .int .i64 d, .string s, .int .i64 t, .string u] w (fun e w' => e = .returned (.int .i64 (S.rename d s t u).1) ∧ NxR w w' (KD w0 D RS (S.rename d s t u).2 room) O) := by
  obtain ⟨pl, tg, h1, h6⟩ := h
  exact (q_rename h1 hG hr hb d s t u hm).mono fun _ _ hx => KD.next (pl := pl) h6 hx
theorem kb_mark (h : KB w0 P S room T w O) (hT : T ≤ 1000) (i m : Int) :
    Calls Tryz.prog 36 #[Pq P, .int .i64 i, .int .i64 m] w (fun e w' => e = .returned (.int .i64 (S.mark i m).1) ∧ NxR w w' (KB w0 P (S.mark i m).2 room (T + 1)) O) := by
  obtain ⟨st, qb, qo, pl, tag, Tq, h1, h2, h3, h4, h5, h6⟩ := h
  exact (mark_any h1 h3 i m).mono fun _ _ hx => KB.next (qo := qo) (pl := pl) h2 h4 h6 hx (h3.mark i m) ((h5.mark i m).mono (by omega))
theorem kd_mark (h : KD w0 D RS S room w O) (hG : br.Good S room) (hr : room ≤ 65536) (hb : ∀ k, (S.ino k).holds ≤ 900000) (i m : Int) :
    Calls Tryz.prog 43 #[Pq D, .int .i64 i, .int .i64 m] w (fun e w' => e = .returned (.int .i64 (S.mark i m).1) ∧ NxR w w' (KD w0 D RS (S.mark i m).2 room) O) := by
  obtain ⟨pl, tg, h1, h6⟩ := h
  exact (q_mark h1 i m).mono fun _ _ hx => KD.next (pl := pl) h6 hx
/-- The place, the error, the branch behind a write. -/
abbrev Wz := Nat × Int × BS
theorem kb_write (h : KB w0 P S room T w O) (hX : ∀ b, X b → b < w.heap.size ∧ ¬ O b) (i off : Int) (A : Option Addr) (len dc : Nat) (f : Nat → UInt8) (hA : ∀ j, j < len → ∃ b o, A = some ⟨b, o, none⟩ ∧ X b ∧ w.cell? ⟨b, o + j, none⟩ = some (U8 (f j))) (hlc : len ≤ dc) (hdc : dc ≤ maxLen) :
    Calls Tryz.prog 44 #[Pq P, .int .i64 i, .int .i64 off, .slice A len dc] w (fun e w' => ∃ z : Wz, WrI S room i off len f z.1 z.2.1 z.2.2 ∧ e = .returned (.tuple #[.int .i64 (z.1 : Int), .int .i64 z.2.1]) ∧ NxR w w' (KB w0 P z.2.2 room (T + 1)) O) := by
  obtain ⟨st, qb, qo, pl, tag, Tq, h1, h2, h3, h4, h5, h6⟩ := h
  refine (write_any h1 h3 h4 i off A len dc f (fun j hj => ?_) hlc hdc).mono fun _ _ ⟨p, err, S', hw, hx⟩ => ⟨(p, err, S'), hw, KB.next (qo := qo) (pl := pl) h2 h4 h6 hx (Good_wr h3 hw) ?_⟩
  · obtain ⟨b, o, e, hb, hc⟩ := hA j hj
    exact ⟨b, o, e, fun hn => (hX b hb).2 ((h6 b).2 hn), (hX b hb).1, hc⟩
  · rcases hw with ⟨_, _, _, rfl⟩ | ⟨_, _, _, _, rfl⟩
    · exact h5.mono (by omega)
    · exact (h5.wrote i off p f).mono (by omega)
theorem kd_write (h : KD w0 D RS S room w O) (hG : br.Good S room) (hr : room ≤ 65536) (hX : ∀ b, X b → b < w.heap.size ∧ ¬ O b) (i off : Int) (A : Option Addr) (len dc : Nat) (f : Nat → UInt8) (hA : ∀ j, j < len → ∃ b o, A = some ⟨b, o, none⟩ ∧ X b ∧ w.cell? ⟨b, o + j, none⟩ = some (U8 (f j))) (hlc : len ≤ dc) (hdc : dc ≤ maxLen)
    {p : Nat} {err : Int} {S' : BS} (hw : WrI S room i off len f p err S') :
    Calls Tryz.prog 45 #[Pq D, .int .i64 i, .int .i64 off, .slice A len dc] w (fun e w' => e = .returned (.tuple #[.int .i64 (p : Int), .int .i64 err]) ∧ NxR w w' (KD w0 D RS S' room) O) := by
  obtain ⟨pl, tg, h1, h6⟩ := h
  refine (q_write h1 hG hr i off A len dc f (fun j hj => by
    obtain ⟨b, o, e, hb, hc⟩ := hA j hj
    exact ⟨b, o, e, Classical.byContradiction fun hn => (hX b hb).2 ((h6 b).2 hn), (hX b hb).1, hc⟩) hlc hdc).mono ?_
  rintro e w' (⟨z1, rfl, rfl⟩ | ⟨z1, p', err', hw', rfl, pl', tg', k1, k2⟩)
  · rcases hw with ⟨y1, rfl, rfl, rfl⟩ | ⟨y1, _⟩
    · exact ⟨rfl, O, ⟨pl, tg, h1, h6⟩, fun b hb => .inl hb, Only.refl _ _⟩
    · exact absurd y1 z1
  · rcases hw with ⟨y1, _⟩ | ⟨y1, y2, _, _, rfl⟩
    · exact absurd z1 y1
    · obtain ⟨rfl, rfl⟩ := WR.eq hw' y2
      exact ⟨rfl, (KD.next (v := .int .i64 0) (pl := pl) h6 ⟨rfl, pl', tg', k1, k2⟩).2⟩
theorem KB.made {P : Nat} (h : BrX w0 w' P (fun b => b < w.heap.size) S room T) : ∃ O, KB w0 P S room T w' O ∧ ∀ b, O b → w.heap.size ≤ b := by
  obtain ⟨st, qb, qo, pl, tag, Tq, h1, h2, h3, h4, h5, _, h7⟩ := h
  exact ⟨fun b => tag b ≠ 0, ⟨st, qb, qo, pl, tag, Tq, h1, h2, h3, h4, h5, fun _ => Iff.rfl⟩, fun b hb => Nat.le_of_not_lt fun e => hb (h7 b e).2⟩
end
end Go.Proofs.YtkbdmjcdhkdanaaGreat.cb
end
section
namespace Go.Proofs.YtkbdmjcdhkdanaaGreat.cb
open Go.RowKit
open Go.Proofs.YtkbdmjcdhkdanaaGreat.br
open Go.Proofs.YtkbdmjcdhkdanaaGreat.bl (AB WR Pq U8)
set_option linter.unusedVariables false
set_option linter.unusedSimpArgs false

def sF (s : ByteArray) : Nat → UInt8 := fun j => s.data.toList.getD j 0
theorem conv_bytes (w : World) (s : ByteArray) (hs : s.size ≤ 1000000) : ∃ c w', (convert 9 53 (.string s)).run Tryz.prog w = .ok (.slice (some ⟨w.heap.size, 0, none⟩) s.size c) w' ∧ s.size ≤ c ∧ c ≤ maxLen ∧ Below w.heap.size w w' ∧ w.heap.size < w'.heap.size ∧ ∀ j, j < s.size → w'.cell? ⟨w.heap.size, 0 + j, none⟩ = some (U8 (sF s j)) := by
  refine ⟨_, _, Lib.run_convert_string_bytes w 9 53 5 s Tryz.underlying9 Tryz.underlying53 Tryz.underlying5, grownCap_ge _ _ _ _, grownCap_le_maxLen _ _ _ _ (by unfold maxLen; omega), ?_, by rw [Lib.bytesWorld_size]; omega, fun j hj => ?_⟩
  · refine ⟨?_, ?_, ?_, by rw [Lib.bytesWorld_size]; omega, fun k hk => Lib.bytesWorld_at_old w 5 s k hk⟩
    · simp [Lib.bytesWorld, World.freeze] <;> rfl
    · simp [Lib.bytesWorld, World.freeze] <;> rfl
    · simp [Lib.bytesWorld, World.freeze] <;> rfl
  · rw [Nat.zero_add]; exact Lib.bytesWorld_cell w 5 s j hj
theorem box7 (w w' : World) (v0 v1 v2 v3 v4 v5 v6 : Value) (t : TypeId) (h : w' = w.alloc (.cells #[v0, v1, v2, v3, v4, v5, v6] t)) :
    w'.cell? ⟨w.heap.size, 0, none⟩ = some v0 ∧ w'.cell? ⟨w.heap.size, 1, none⟩ = some v1 ∧ w'.cell? ⟨w.heap.size, 2, none⟩ = some v2 ∧ w'.cell? ⟨w.heap.size, 3, none⟩ = some v3 ∧ w'.cell? ⟨w.heap.size, 4, none⟩ = some v4 ∧ w'.cell? ⟨w.heap.size, 5, none⟩ = some v5 ∧ w'.cell? ⟨w.heap.size, 6, none⟩ = some v6 ∧ Below w.heap.size w w' ∧ w'.heap.size = w.heap.size + 1 := by
  subst h
  refine ⟨?_, ?_, ?_, ?_, ?_, ?_, ?_, dn.below_alloc _ _, World.size_alloc _ _⟩ <;> simp
/-- The four branches: the code's two, the document's two. -/
structure Pt where
  P1 : Nat
  P2 : Nat
  D1 : Nat
  R1 : Nat
  D2 : Nat
  R2 : Nat
/-- Four branches, of the states U, L (the code's) and U', L' (the document's). -/
def Q4 (w0 w : World) (p : Pt) (U L U' L' : BS) (T1 T2 : Nat) (X : Nat → Prop) : Prop :=
  Sys w0 w [KB w0 p.P1 U 500 T1, KB w0 p.P2 L 500 T2, KD w0 p.D1 p.R1 U' 500, KD w0 p.D2 p.R2 L' 500] X
section
variable {w0 w w' : World} {p : Pt} {U L U' L' U1 L1 S' : BS} {T1 T2 T3 T4 : Nat} {X Y : Nat → Prop} {f : Nat} {args : Array Value} {v : Value}
theorem Q4.bel (h : Q4 w0 w p U L U' L' T1 T2 X) : Below w0.heap.size w0 w := Sys.bel h
theorem Q4.sub (h : Q4 w0 w p U L U' L' T1 T2 X) (hY : ∀ b, Y b → X b) : Q4 w0 w p U L U' L' T1 T2 Y := Sys.sub h hY
theorem Q4.below (h : Q4 w0 w p U L U' L' T1 T2 X) (hb : Below w.heap.size w w') : Q4 w0 w' p U L U' L' T1 T2 X := Sys.below h hb
theorem Q4.box (h : Q4 w0 w p U L U' L' T1 T2 X) (hb : Below w.heap.size w w') (hY : ∀ b, Y b → X b ∨ (w.heap.size ≤ b ∧ b < w'.heap.size)) : Q4 w0 w' p U L U' L' T1 T2 Y := Sys.box h hb hY
theorem Q4.lt (h : Q4 w0 w p U L U' L' T1 T2 X) {b : Nat} (hb : X b) : b < w.heap.size := Sys.lt h hb
theorem Q4.up (h : Q4 w0 w p U L U' L' T1 T2 X) (h1 : T1 ≤ T3) (h2 : T2 ≤ T4) : Q4 w0 w p U L U' L' T3 T4 X :=
  (show Sys w0 w [KB w0 p.P1 U 500 T3, KB w0 p.P2 L 500 T2, KD w0 p.D1 p.R1 U' 500, KD w0 p.D2 p.R2 L' 500] X from Sys.weak h (i := 0) (r := KB w0 p.P1 U 500 T1) rfl KB.stab fun O k => k.up h1).weak (i := 1) (r := KB w0 p.P2 L 500 T2) rfl KB.stab fun O k => k.up h2
theorem Q4.good1 (h : Q4 w0 w p U L U' L' T1 T2 X) : br.Good U 500 := Sys.ask h (i := 0) rfl fun O k => KB.good k
theorem Q4.good2 (h : Q4 w0 w p U L U' L' T1 T2 X) : br.Good L 500 := Sys.ask h (i := 1) rfl fun O k => KB.good k
theorem Q4.hold1 (h : Q4 w0 w p U L U' L' T1 T2 X) (hT : T1 ≤ 1000) : ∀ k, (U.ino k).holds ≤ 900000 := Sys.ask h (i := 0) rfl fun O k => by obtain ⟨_, _, _, _, _, _, _, _, _, _, h5, _⟩ := k; intro k; have := h5 k; omega
theorem Q4.hold2 (h : Q4 w0 w p U L U' L' T1 T2 X) (hT : T2 ≤ 1000) : ∀ k, (L.ino k).holds ≤ 900000 := Sys.ask h (i := 1) rfl fun O k => by obtain ⟨_, _, _, _, _, _, _, _, _, _, h5, _⟩ := k; intro k; have := h5 k; omega
theorem Q4.brx1 (h : Q4 w0 w p U L U' L' T1 T2 X) : BrX w0 w p.P1 No U 500 T1 := Sys.ask h (i := 0) rfl fun O k => (KB.brx k h.bel).forget
theorem Q4.brx2 (h : Q4 w0 w p U L U' L' T1 T2 X) : BrX w0 w p.P2 No L 500 T2 := Sys.ask h (i := 1) rfl fun O k => (KB.brx k h.bel).forget
theorem Q4.code1 (h : Q4 w0 w p U L U' L' T1 T2 X) (hc : ∀ O, (KB w0 p.P1 U 500 T1) w O → Calls Tryz.prog f args w (fun e w' => e = .returned v ∧ NxR w w' (KB w0 p.P1 S' 500 (T1 + 1)) O)) :
    Calls Tryz.prog f args w (fun e w' => e = .returned v ∧ Q4 w0 w' p S' L U' L' (T1 + 1) T2 X ∧ Same X w w') := Sys.call h (i := 0) rfl KB.stab hc
theorem Q4.code2 (h : Q4 w0 w p U L U' L' T1 T2 X) (hc : ∀ O, (KB w0 p.P2 L 500 T2) w O → Calls Tryz.prog f args w (fun e w' => e = .returned v ∧ NxR w w' (KB w0 p.P2 S' 500 (T2 + 1)) O)) :
    Calls Tryz.prog f args w (fun e w' => e = .returned v ∧ Q4 w0 w' p U S' U' L' T1 (T2 + 1) X ∧ Same X w w') := Sys.call h (i := 1) rfl KB.stab hc
theorem Q4.doc1 (h : Q4 w0 w p U L U' L' T1 T2 X) (hc : ∀ O, (KD w0 p.D1 p.R1 U' 500) w O → Calls Tryz.prog f args w (fun e w' => e = .returned v ∧ NxR w w' (KD w0 p.D1 p.R1 S' 500) O)) :
    Calls Tryz.prog f args w (fun e w' => e = .returned v ∧ Q4 w0 w' p U L S' L' T1 T2 X ∧ Same X w w') := Sys.call h (i := 2) rfl KD.stab hc
theorem Q4.doc2 (h : Q4 w0 w p U L U' L' T1 T2 X) (hc : ∀ O, (KD w0 p.D2 p.R2 L' 500) w O → Calls Tryz.prog f args w (fun e w' => e = .returned v ∧ NxR w w' (KD w0 p.D2 p.R2 S' 500) O)) :
    Calls Tryz.prog f args w (fun e w' => e = .returned v ∧ Q4 w0 w' p U L U' S' T1 T2 X ∧ Same X w w') := Sys.call h (i := 3) rfl KD.stab hc
theorem Q4.w1 (h : Q4 w0 w p U L U' L' T1 T2 X) (i off : Int) (A : Option Addr) (len dc : Nat) (f : Nat → UInt8) (hA : ∀ j, j < len → ∃ b o, A = some ⟨b, o, none⟩ ∧ X b ∧ w.cell? ⟨b, o + j, none⟩ = some (U8 (f j))) (hlc : len ≤ dc) (hdc : dc ≤ maxLen) :
    Calls Tryz.prog 44 #[Pq p.P1, .int .i64 i, .int .i64 off, .slice A len dc] w (fun e w' => ∃ z : Wz, WrI U 500 i off len f z.1 z.2.1 z.2.2 ∧ e = .returned (.tuple #[.int .i64 (z.1 : Int), .int .i64 z.2.1]) ∧ Q4 w0 w' p z.2.2 L U' L' (T1 + 1) T2 X ∧ Same X w w') :=
  Sys.callE (q := fun z : Wz => KB w0 p.P1 z.2.2 500 (T1 + 1)) h (i := 0) rfl (fun _ _ => KB.stab) fun O k hX => kb_write k hX i off A len dc f hA hlc hdc
theorem Q4.w2 (h : Q4 w0 w p U L U' L' T1 T2 X) (i off : Int) (A : Option Addr) (len dc : Nat) (f : Nat → UInt8) (hA : ∀ j, j < len → ∃ b o, A = some ⟨b, o, none⟩ ∧ X b ∧ w.cell? ⟨b, o + j, none⟩ = some (U8 (f j))) (hlc : len ≤ dc) (hdc : dc ≤ maxLen) :
    Calls Tryz.prog 44 #[Pq p.P2, .int .i64 i, .int .i64 off, .slice A len dc] w (fun e w' => ∃ z : Wz, WrI L 500 i off len f z.1 z.2.1 z.2.2 ∧ e = .returned (.tuple #[.int .i64 (z.1 : Int), .int .i64 z.2.1]) ∧ Q4 w0 w' p U z.2.2 U' L' T1 (T2 + 1) X ∧ Same X w w') :=
  Sys.callE (q := fun z : Wz => KB w0 p.P2 z.2.2 500 (T2 + 1)) h (i := 1) rfl (fun _ _ => KB.stab) fun O k hX => kb_write k hX i off A len dc f hA hlc hdc
theorem Q4.v1 (h : Q4 w0 w p U L U' L' T1 T2 X) (hG : br.Good U' 500) (i off : Int) (A : Option Addr) (len dc : Nat) (f : Nat → UInt8) (hA : ∀ j, j < len → ∃ b o, A = some ⟨b, o, none⟩ ∧ X b ∧ w.cell? ⟨b, o + j, none⟩ = some (U8 (f j))) (hlc : len ≤ dc) (hdc : dc ≤ maxLen)
    {q : Nat} {err : Int} (hw : WrI U' 500 i off len f q err S') :
    Calls Tryz.prog 45 #[Pq p.D1, .int .i64 i, .int .i64 off, .slice A len dc] w (fun e w' => e = .returned (.tuple #[.int .i64 (q : Int), .int .i64 err]) ∧ Q4 w0 w' p U L S' L' T1 T2 X ∧ Same X w w') :=
  (Sys.callE (ι := Unit) (p := fun _ => True) (v := fun _ => .tuple #[.int .i64 (q : Int), .int .i64 err]) (q := fun _ => KD w0 p.D1 p.R1 S' 500) h (i := 2) rfl (fun _ _ => KD.stab) fun O k hX => (kd_write k hG (by decide) hX i off A len dc f hA hlc hdc hw).mono fun e w' hx => ⟨(), trivial, hx.1, hx.2⟩).mono fun e w' ⟨_, _, hx⟩ => hx
theorem Q4.v2 (h : Q4 w0 w p U L U' L' T1 T2 X) (hG : br.Good L' 500) (i off : Int) (A : Option Addr) (len dc : Nat) (f : Nat → UInt8) (hA : ∀ j, j < len → ∃ b o, A = some ⟨b, o, none⟩ ∧ X b ∧ w.cell? ⟨b, o + j, none⟩ = some (U8 (f j))) (hlc : len ≤ dc) (hdc : dc ≤ maxLen)
    {q : Nat} {err : Int} (hw : WrI L' 500 i off len f q err S') :
    Calls Tryz.prog 45 #[Pq p.D2, .int .i64 i, .int .i64 off, .slice A len dc] w (fun e w' => e = .returned (.tuple #[.int .i64 (q : Int), .int .i64 err]) ∧ Q4 w0 w' p U L U' S' T1 T2 X ∧ Same X w w') :=
  (Sys.callE (ι := Unit) (p := fun _ => True) (v := fun _ => .tuple #[.int .i64 (q : Int), .int .i64 err]) (q := fun _ => KD w0 p.D2 p.R2 S' 500) h (i := 3) rfl (fun _ _ => KD.stab) fun O k hX => (kd_write k hG (by decide) hX i off A len dc f hA hlc hdc hw).mono fun e w' hx => ⟨(), trivial, hx.1, hx.2⟩).mono fun e w' ⟨_, _, hx⟩ => hx
end
/-- What 'build' leaves: the pair in a box. -/
structure Bt (w0 w : World) (G : Nat) (p : Pt) (U L : BS) : Prop where
  q : Q4 w0 w p U L U L 80 80 (fun b => b = G)
  c0 : w.cell? ⟨G, 0, none⟩ = some (Pq p.P1)
  c1 : w.cell? ⟨G, 1, none⟩ = some (Pq p.P2)
  c2 : w.cell? ⟨G, 2, none⟩ = some (Pq p.D1)
  c3 : w.cell? ⟨G, 3, none⟩ = some (Pq p.D2)
def BuildE (w0 : World) (e : Ending) (w' : World) : Prop :=
  (∃ v, e = .returned (.tuple #[v, .bool false]) ∧ Below w0.heap.size w0 w') ∨ ∃ (G : Nat) (p : Pt) (U L : BS), e = .returned (.tuple #[Pq G, .bool true]) ∧ Bt w0 w' G p U L
theorem x_new500 {w0 w : World} (hb : Below w0.heap.size w0 w) : Calls Tryz.prog 30 #[.int .i64 500] w (fun e w' => ∃ P, e = .returned (Pq P) ∧ BrX w0 w' P (fun b => b < w.heap.size) fresh 500 0 ∧ Below w.heap.size w w' ∧ w.heap.size ≤ P) := x_new 500 (by decide) hb
theorem rb_new500 (lo : Nat) (w : World) (hlo : lo ≤ w.heap.size) : Calls Tryz.prog 38 #[.int .i64 500] w (fun e w' => ∃ D RS pl tag, e = .returned (Pq D) ∧ DB w' D lo RS pl tag fresh 500 ∧ Below w.heap.size w w' ∧ ∀ b, tag b ≠ 0 → w.heap.size ≤ b) := rb_new 500 lo w (by decide) hlo
theorem add_code {w0 w w' : World} {L : List Res} {X : Nat → Prop} {P : Nat} (h : Sys w0 w L X) (hn : BrX w0 w' P (fun b => b < w.heap.size) fresh 500 0) (hb : Below w.heap.size w w') : Sys w0 w' (L ++ [KB w0 P fresh 500 0]) X := by
  obtain ⟨O, h1, h2⟩ := KB.made hn
  exact h.add hb KB.stab h1 h2
theorem add_doc {w0 w w' : World} {L : List Res} {X : Nat → Prop} {D RS : Nat} {pl : Nat → Pd} {tag : Nat → Nat} (h : Sys w0 w L X) (hn : DB w' D w0.heap.size RS pl tag fresh 500) (hb : Below w.heap.size w w') (ht : ∀ b, tag b ≠ 0 → w.heap.size ≤ b) : Sys w0 w' (L ++ [KD w0 D RS fresh 500]) X :=
  h.add hb KD.stab ⟨pl, tag, hn, fun b => Iff.rfl⟩ ht
end Go.Proofs.YtkbdmjcdhkdanaaGreat.cb
end
