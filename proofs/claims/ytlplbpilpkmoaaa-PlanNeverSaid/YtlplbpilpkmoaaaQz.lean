/- Arguments that came in, opened; the row's last step. -/
import Derived.Test.YtlplbpilpkmoaaaQy
import Derived.ProofKit
import Derived.ChangeSlices
import Derived.SliceStrings
import Derived.Deep.Slices
import Derived.Deep.Fields
import Derived.Lib.SmallJoins
import Derived.OpenShut
import Derived.ChangeSame
namespace Go.Proofs.Ytlplbpilpkmoaaa.pl
open Go.ChangeShapes Go.WideShapes Go.ChangeAt Go.RowKit
set_option linter.unusedVariables false
set_option linter.unusedSimpArgs false

section
open Go.Deep
variable {H : Type} {enc : TypeId × Value → H} {P : Program} {w : World} {base : Nat} {spare : Nat → Bool} {held : Bool}
theorem open_slice_fields {t e : TypeId} {fs : Array Field} {fuel : Nat} {cs : List Value} {x : DataW H × List MemPlace} (ht : P.underlying t = some (.slice e)) (he : P.underlying e = some (.struct fs))
    (hone : oneCellFields P fs = true) (hC : P.cellsOf e = fs.size) (h : DataW.trod enc P w base spare held fuel t cs = some x) :
    (cs = [.slice none 0 0]) ∨
    ∃ (a : Addr) (len cap m : Nat), cs = [.slice (some a) len cap] ∧ len ≤ cap ∧ cap ≤ maxLen ∧ len ≤ m ∧
      ∀ i, i < m → ∃ (n : Nat), ∀ (j : Nat) (f : Field), fs[j]? = some f → ∃ (v : Value) (y : DataW H × List MemPlace), w.cell? (a.add (i * fs.size + j)) = some v ∧ DataW.trod enc P w base spare held n f.type [v] = some y := by
  rcases open_slice ht h with h0 | ⟨a, len, cap, m, n, D, Pl, hcs, hb, hl, hm, hmm, hx, hi⟩
  · exact .inl h0.1
  · refine .inr ⟨a, len, cap, m, hcs, hl, hm, by rw [hmm]; split <;> omega, fun i him => ?_⟩
    obtain ⟨cs', hc, ht'⟩ := hi i him
    rw [hC] at hc
    obtain ⟨ys, n', hn', hy, hlen, hyl, hf⟩ := DataW.trod_struct he ht'
    obtain ⟨_, hcl, hat⟩ := World.cells?_some hc
    refine ⟨n', fun j f hj => ?_⟩
    obtain ⟨ho, hk⟩ := hone_of hone j f hj
    have hjl : j < fs.size := (Array.getElem?_eq_some_iff.1 hj).1
    have hcell := hat j hjl
    have hv : cs'[j]? = some (cs'[j]'(by omega)) := List.getElem?_eq_getElem (by omega)
    have h1 := hf j f hj
    rw [ho, hk] at h1
    have hone' : (cs'.drop j).take 1 = [cs'[j]'(by omega)] := by
      rw [List.drop_eq_getElem_cons (by omega)]
      rfl
    rw [hone'] at h1
    have hys : ys[j]? = some (ys[j]'(by omega)) := List.getElem?_eq_getElem (by omega)
    refine ⟨_, _, ?_, h1.trans hys⟩
    rw [← Go.Deep.add_add, hcell, hv]
end

theorem spot_none {w : World} {a : Addr} {v : Value} (h : w.cell? (a.add 0) = some v) : ∃ b off, a = ⟨b, off, none⟩ ∧ b < w.heap.size := by
  obtain ⟨b, off, spot⟩ := a
  have hs : spot = none := by simpa [Addr.add] using World.cell?_spot h
  subst hs
  exact ⟨b, off, rfl, World.block_lt_of_cell? w _ h⟩

theorem gw_range (F : Nat → Wt) {n i : Nat} (h : i < n) : gw ((List.range n).map F) i = F i := by rw [gw_get (by simpa using h)]; simp
theorem open_wants {H : Type} {enc : TypeId × Value → H} {W : World} {r : Reach} {b0 : Nat} {sp : Nat → Bool} {held : Bool} {v : Value} {d : DataW H} {p : List MemPlace}
    (hv : Value.okWide Try.prog W r b0 22 v) (h : DataW.Trod enc Try.prog W 0 sp held 22 v d p) :
    ∃ A c l, v = .slice A (List.length l) c ∧ (List.length l ≤ c ∧ c ≤ maxLen) ∧ Wan W W.heap.size A l ∧ ∀ x ∈ l, sc.Wf x.n := by
  obtain ⟨fuel, hf⟩ := h
  have hcells : v.cells.toList = [v] := by
    obtain ⟨A, n, c, rfl⟩ := okWide_slice Try.underlying22 hv
    rfl
  rw [hcells] at hf
  rcases open_slice_fields Try.underlying22 Try.underlying39 (by kernel_rfl) (by kernel_rfl) hf with e | ⟨a, len, cap, m, e, hl, hm, hlm, hi⟩
  · injection e with e
    subst e
    exact ⟨none, 0, [], rfl, ⟨Nat.le_refl _, by unfold maxLen; omega⟩, fun i hi => absurd hi (Nat.not_lt_zero _), fun x hx => by simp at hx⟩
  · injection e with e
    subst e
    have hall : ∀ i, ∃ x : Wt, i < len → (∃ b off, (some a : Option Addr) = some ⟨b, off, none⟩ ∧ b < W.heap.size ∧
        W.cell? ⟨b, off + i * 3, none⟩ = some (.int .i64 x.d) ∧ W.cell? ⟨b, off + i * 3 + 1, none⟩ = some (.int .i64 x.n) ∧ W.cell? ⟨b, off + i * 3 + 2, none⟩ = some (.bool x.w)) ∧ sc.Wf x.n := by
      intro i
      by_cases hil : i < len
      · obtain ⟨n0, hj0⟩ := hi 0 (by omega)
        obtain ⟨_, _, c00, _⟩ := hj0 0 _ rfl
        obtain ⟨b, off, rfl, hb⟩ := spot_none (by simpa using c00)
        obtain ⟨n, hj⟩ := hi i (by omega)
        obtain ⟨v0, y0, c0, t0⟩ := hj 0 _ rfl
        obtain ⟨v1, y1, c1, t1⟩ := hj 1 _ rfl
        obtain ⟨v2, y2, c2, t2⟩ := hj 2 _ rfl
        obtain ⟨z0, e0, _⟩ := DataW.trod_int Try.underlying3 t0
        obtain ⟨z1, e1, _, hw⟩ := DataW.trod_int Try.underlying3 t1
        obtain ⟨z2, e2, _⟩ := DataW.trod_bool Try.underlying4 t2
        injection e0 with e0
        injection e1 with e1
        injection e2 with e2
        subst e0; subst e1; subst e2
        rw [Go.WideShapes.add_plain] at c0 c1 c2
        exact ⟨⟨z0, z1, z2⟩, fun _ => ⟨⟨b, off, rfl, hb, by simpa using c0, by simpa [Nat.add_assoc] using c1, by simpa [Nat.add_assoc] using c2⟩, hw⟩⟩
      · exact ⟨⟨0, 0, false⟩, fun h => absurd h hil⟩
    obtain ⟨F, hF⟩ := Classical.axiomOfChoice hall
    refine ⟨some a, cap, (List.range len).map F, by simp, by simpa using And.intro hl hm, fun i hi => ?_, fun x hx => ?_⟩
    · have hi2 : i < len := by simpa using hi
      rw [gw_range F hi2]
      exact (hF i hi2).1
    · obtain ⟨i, hi, rfl⟩ := List.mem_map.1 hx
      exact (hF i (List.mem_range.1 hi)).2
theorem cells3 : Try.prog.cellsOf 3 = 1 := by kernel_rfl
theorem cells5 : Try.prog.cellsOf 5 = 1 := by kernel_rfl
theorem open_nums {H : Type} {enc : TypeId × Value → H} {W : World} {r : Reach} {b0 : Nat} {sp : Nat → Bool} {held : Bool} {v : Value} {d : DataW H} {p : List MemPlace}
    (hv : Value.okWide Try.prog W r b0 33 v) (h : DataW.Trod enc Try.prog W 0 sp held 33 v d p) :
    ∃ A c l, v = .slice A (List.length l) c ∧ (List.length l ≤ c ∧ c ≤ maxLen) ∧ Ivs W W.heap.size A l ∧ ∀ x ∈ l, sc.Wf x := by
  obtain ⟨fuel, hf⟩ := h
  have hcells : v.cells.toList = [v] := by
    obtain ⟨A, n, c, rfl⟩ := okWide_slice Try.underlying33 hv
    rfl
  rw [hcells] at hf
  rcases open_ints Try.underlying33 Try.underlying3 cells3 hf with ⟨e, _⟩ | ⟨a, len, cap, zs, e, _, hl, hm, hz, _, hc, hwf⟩
  · injection e with e
    subst e
    exact ⟨none, 0, [], rfl, ⟨Nat.le_refl _, by unfold maxLen; omega⟩, fun i hi => absurd hi (Nat.not_lt_zero _), fun x hx => by simp at hx⟩
  · injection e with e
    subst e
    have hlz : len ≤ zs.length := by rw [hz]; split <;> omega
    have hlt : (zs.take len).length = len := by rw [List.length_take]; omega
    refine ⟨some a, cap, zs.take len, by rw [hlt], by rw [hlt]; exact ⟨hl, hm⟩, fun i hi => ?_, fun x hx => hwf x (List.mem_of_mem_take hx)⟩
    rw [hlt] at hi
    obtain ⟨b, off, rfl, hb⟩ := spot_none (hc 0 (by omega))
    have := hc i (by omega)
    rw [Go.WideShapes.add_plain] at this
    refine ⟨b, off, rfl, hb, ?_⟩
    rw [this, List.getD_eq_getElem?_getD, List.getD_eq_getElem?_getD, List.getElem?_take_of_lt hi]
/-- The slice at A reads as the bytes l, below block B. -/
def Byts (w : World) (B : Nat) (A : Option Addr) (l : List Nat) : Prop := ∀ i, i < l.length → ∃ b off, A = some ⟨b, off, none⟩ ∧ b < B ∧ w.cell? ⟨b, off + i, none⟩ = some (.int .u8 (l.getD i 0 : Nat)) ∧ l.getD i 0 < 256
theorem Byts.below {w w' : World} {B : Nat} {A : Option Addr} {l : List Nat} (h : Byts w B A l) (hb : Below B w w') : Byts w' B A l := fun i hi => by
  obtain ⟨b, off, e, hB, h0, h1⟩ := h i hi
  exact ⟨b, off, e, hB, (hb.cell (p := ⟨b, off + i, none⟩) hB).trans h0, h1⟩
theorem open_bytes1 {H : Type} {enc : TypeId × Value → H} {W : World} {base fuel : Nat} {sp : Nat → Bool} {held : Bool} {v : Value} {y : DataW H × List MemPlace}
    (hf : DataW.trod enc Try.prog W base sp held fuel 43 [v] = some y) : ∃ A c l, v = .slice A (List.length l) c ∧ (List.length l ≤ c ∧ c ≤ maxLen) ∧ Byts W W.heap.size A l := by
  rcases open_ints Try.underlying43 Try.underlying5 cells5 hf with ⟨e, _⟩ | ⟨a, len, cap, zs, e, _, hl, hm, hz, _, hc, hwf⟩
  · injection e with e
    subst e
    exact ⟨none, 0, [], rfl, ⟨Nat.le_refl _, by unfold maxLen; omega⟩, fun i hi => absurd hi (Nat.not_lt_zero _)⟩
  · injection e with e
    subst e
    have hlz : len ≤ zs.length := by rw [hz]; split <;> omega
    have hlt : ((zs.take len).map Int.toNat).length = len := by rw [List.length_map, List.length_take]; omega
    refine ⟨some a, cap, (zs.take len).map Int.toNat, by rw [hlt], by rw [hlt]; exact ⟨hl, hm⟩, fun i hi => ?_⟩
    rw [hlt] at hi
    obtain ⟨b, off, rfl, hb⟩ := spot_none (hc 0 (by omega))
    have := hc i (by omega)
    rw [Go.WideShapes.add_plain] at this
    have hg : ((zs.take len).map Int.toNat).getD i 0 = (zs.getD i 0).toNat := by
      rw [List.getD_eq_getElem?_getD, List.getElem?_map, List.getElem?_take_of_lt hi, List.getD_eq_getElem?_getD, List.getElem?_eq_getElem (by omega)]; rfl
    have hw := hwf (zs.getD i 0) (by rw [List.getD_eq_getElem?_getD, List.getElem?_eq_getElem (by omega)]; exact List.getElem_mem _)
    simp only [Lit.wf, Bool.and_eq_true, decide_eq_true_eq] at hw
    have h0 : (0 : Int) ≤ zs.getD i 0 := hw.1
    have h1 : zs.getD i 0 ≤ 255 := hw.2
    refine ⟨b, off, rfl, hb, ?_, by rw [hg]; omega⟩
    rw [hg, this, Int.toNat_of_nonneg h0]
theorem open_bytes {H : Type} {enc : TypeId × Value → H} {W : World} {r : Reach} {b0 : Nat} {sp : Nat → Bool} {held : Bool} {v : Value} {d : DataW H} {p : List MemPlace}
    (hv : Value.okWide Try.prog W r b0 43 v) (h : DataW.Trod enc Try.prog W 0 sp held 43 v d p) : ∃ A c l, v = .slice A (List.length l) c ∧ (List.length l ≤ c ∧ c ≤ maxLen) ∧ Byts W W.heap.size A l := by
  obtain ⟨fuel, hf⟩ := h
  have hcells : v.cells.toList = [v] := by
    obtain ⟨A, n, c, rfl⟩ := okWide_slice Try.underlying43 hv
    rfl
  rw [hcells] at hf
  exact open_bytes1 hf
/-- The slice at A reads as the rows ll of bytes, below block B. -/
def Rows2 (w : World) (B : Nat) (A : Option Addr) (ll : List (List Nat)) : Prop := ∀ i, i < ll.length → ∃ b off, A = some ⟨b, off, none⟩ ∧ b < B ∧ ∃ A' c, w.cell? ⟨b, off + i, none⟩ = some (.slice A' (ll.getD i []).length c) ∧ ((ll.getD i []).length ≤ c ∧ c ≤ maxLen) ∧ Byts w B A' (ll.getD i [])
theorem Rows2.below {w w' : World} {B : Nat} {A : Option Addr} {ll : List (List Nat)} (h : Rows2 w B A ll) (hb : Below B w w') : Rows2 w' B A ll := fun i hi => by
  obtain ⟨b, off, e, hB, A', c, h0, h1, h2⟩ := h i hi
  exact ⟨b, off, e, hB, A', c, (hb.cell (p := ⟨b, off + i, none⟩) hB).trans h0, h1, h2.below hb⟩
theorem cells43 : Try.prog.cellsOf 43 = 1 := by kernel_rfl
theorem open_rows {H : Type} {enc : TypeId × Value → H} {W : World} {r : Reach} {b0 : Nat} {sp : Nat → Bool} {held : Bool} {v : Value} {d : DataW H} {p : List MemPlace}
    (hv : Value.okWide Try.prog W r b0 42 v) (h : DataW.Trod enc Try.prog W 0 sp held 42 v d p) : ∃ A c l, v = .slice A (List.length l) c ∧ (List.length l ≤ c ∧ c ≤ maxLen) ∧ Rows2 W W.heap.size A l := by
  obtain ⟨fuel, hf⟩ := h
  have hcells : v.cells.toList = [v] := by
    obtain ⟨A, n, c, rfl⟩ := okWide_slice Try.underlying42 hv
    rfl
  rw [hcells] at hf
  rcases Go.Deep.open_slice Try.underlying42 hf with ⟨e, _⟩ | ⟨a, len, cap, m, n, D, Pl, e, _, hl, hm, hmm, _, hi⟩
  · injection e with e
    subst e
    exact ⟨none, 0, [], rfl, ⟨Nat.le_refl _, by unfold maxLen; omega⟩, fun i hi => absurd hi (Nat.not_lt_zero _)⟩
  · injection e with e
    subst e
    rw [cells43] at hi
    have hlm : len ≤ m := by rw [hmm]; split <;> omega
    have hall : ∀ i, ∃ x : List Nat, i < len → ∃ b off, (some a : Option Addr) = some ⟨b, off, none⟩ ∧ b < W.heap.size ∧ ∃ A' c, W.cell? ⟨b, off + i, none⟩ = some (.slice A' x.length c) ∧ (x.length ≤ c ∧ c ≤ maxLen) ∧ Byts W W.heap.size A' x := by
      intro i
      by_cases hil : i < len
      · have one : ∀ j, j < len → ∃ u, W.cell? (a.add j) = some u ∧ ∃ y, DataW.trod enc Try.prog W 0 sp held n 43 [u] = some y := fun j hj => by
          obtain ⟨cs', hc, ht'⟩ := hi j (by omega)
          rw [Nat.mul_one] at hc
          obtain ⟨_, hcl, hat⟩ := World.cells?_some hc
          have hcell := hat 0 (by omega)
          match cs', hcl with
          | [u], _ => exact ⟨u, by simpa [Go.Deep.add_add] using hcell, _, ht'⟩
        obtain ⟨u0, c00, _⟩ := one 0 (by omega)
        obtain ⟨b, off, rfl, hb⟩ := spot_none c00
        obtain ⟨u, hu, y, hy⟩ := one i hil
        obtain ⟨A', c, l, rfl, h1, h2⟩ := open_bytes1 hy
        rw [Go.WideShapes.add_plain] at hu
        exact ⟨l, fun _ => ⟨b, off, rfl, hb, A', c, hu, h1, h2⟩⟩
      · exact ⟨[], fun h => absurd h hil⟩
    obtain ⟨F, hF⟩ := Classical.axiomOfChoice hall
    refine ⟨some a, cap, (List.range len).map F, by simp, by simpa using And.intro hl hm, fun i hi => ?_⟩
    have hi2 : i < len := by simpa using hi
    have hg : ((List.range len).map F).getD i [] = F i := by simp [List.getD_eq_getElem?_getD, List.getElem?_range hi2]
    rw [hg]
    exact hF i hi2
theorem cellsC : Try.prog.cellsOf 32 = 7 := by kernel_rfl
theorem array7 {α : Type} {cs : Array α} (h : cs.size = 7) : ∃ c0 c1 c2 c3 c4 c5 c6, cs = #[c0, c1, c2, c3, c4, c5, c6] := by
  obtain ⟨l⟩ := cs
  match l, h with
  | [c0, c1, c2, c3, c4, c5, c6], _ => exact ⟨c0, c1, c2, c3, c4, c5, c6, rfl⟩
theorem open_call {H : Type} {enc : TypeId × Value → H} {W : World} {r : Reach} {b0 : Nat} {sp : Nat → Bool} {held : Bool} {v : Value} {d : DataW H} {p : List MemPlace}
    (hv : Value.okWide Try.prog W r b0 32 v) (h : DataW.Trod enc Try.prog W 0 sp held 32 v d p) : ∃ x : Cx, v = x.v := by
  obtain ⟨cs, rfl, hsz⟩ := okWide_struct Try.underlying32 hv
  obtain ⟨c0, c1, c2, c3, c4, c5, c6, rfl⟩ := array7 (hsz.trans cellsC)
  obtain ⟨fuel, hf⟩ := h
  obtain ⟨xs, n, _, hx, hl, hlen, hfs⟩ := DataW.trod_struct Try.underlying32 hf
  have hlen7 : xs.length = 7 := hlen
  match xs, hlen7 with
  | [y0, y1, y2, y3, y4, y5, y6], _ =>
    obtain ⟨z0, e0, _⟩ := DataW.trod_int Try.underlying3 (hfs 0 _ rfl)
    obtain ⟨z1, e1, _⟩ := DataW.trod_int Try.underlying3 (hfs 1 _ rfl)
    obtain ⟨z2, e2, _⟩ := DataW.trod_int Try.underlying3 (hfs 2 _ rfl)
    obtain ⟨z3, e3, _⟩ := DataW.trod_int Try.underlying2 (hfs 3 _ rfl)
    obtain ⟨z4, e4, _⟩ := DataW.trod_int Try.underlying2 (hfs 4 _ rfl)
    obtain ⟨z5, e5, _, hz5⟩ := DataW.trod_string Try.underlying9 (hfs 5 _ rfl)
    obtain ⟨z6, e6, _, hz6⟩ := DataW.trod_string Try.underlying9 (hfs 6 _ rfl)
    have f0 : c0 = .int .i64 z0 := by injection e0 with e _
    have f1 : c1 = .int .i64 z1 := by injection e1 with e _
    have f2 : c2 = .int .i64 z2 := by injection e2 with e _
    have f3 : c3 = .int .i64 z3 := by injection e3 with e _
    have f4 : c4 = .int .i64 z4 := by injection e4 with e _
    have f5 : c5 = .string z5 := by injection e5 with e _
    have f6 : c6 = .string z6 := by injection e6 with e _
    subst f0 f1 f2 f3 f4 f5 f6
    exact ⟨⟨z0, z1, z2, z3, z4, z5, z6⟩, rfl⟩

/-- The row's last step: the results read, the arguments read as they did, and below the heap's first end nothing has turned. -/
theorem law_post {H : Type} {enc : TypeId × Value → H} {P : Program} {f : Func} {s : ChangeSpec} {apart fresh handsOn : Bool} {W W' : World} {args : Array Value} {v : Value} {ds gs : List (DataW H)} {before pa pv : List MemPlace}
    (hW : DataW.Whole enc P f.params.toList s.vars apart W args.toList ds gs before)
    (hres : ∀ (b : Nat) (sp : Nat → Bool) (hd : Bool), DataW.TrodAll enc P W' b sp hd f.resultTypes.toList (v.resultList f.resultTypes.size) (s.fn H (ds ++ gs)).results [])
    (hargs : ∀ sp : Nat → Bool, (∀ p ∈ before, sp p.block = true) → DataW.TrodAll enc P W' 0 sp true f.params.toList args.toList (s.fn H (ds ++ gs)).args pa)
    (hvars : ∀ sp : Nat → Bool, (∀ p ∈ before, sp p.block = true) → DataW.TrodVars enc P W' sp s.vars (s.fn H (ds ++ gs)).vars pv)
    (hps : before = pa ++ pv) (hb : Below W.heap.size W W')
    (_hok : ∀ (j : Nat) (t : TypeId) (r : Value), f.resultTypes[j]? = some t → (v.resultList f.resultTypes.size)[j]? = some r → Value.okWide P W' .any 0 t r) :
    s.post enc P f apart fresh handsOn false W args v W' := by
  have hlt : ∀ p ∈ before, p.block < W.heap.size := fun p hp => hW.lt p hp
  have hold : ∀ p ∈ before, (fun b => decide (b < W.heap.size)) p.block = true := fun p hp => by simpa using hlt p hp
  refine ⟨ds, gs, before, [], pa, pv, hW, hres _ _ _, hargs _ hold, hvars _ hold, World.keptBut_mono (fun p hp => ⟨hp, ?_⟩) (hb.frame (· ∈ before)), fun h => by cases h⟩
  rw [hps, List.mem_append] at hp
  exact Or.inr hp

/-- An argument reads as it did, in any later world that is the same below the heap's first end. -/
theorem arg_stays {H : Type} {enc : TypeId × Value → H} {W W' : World} {t : TypeId} {v : Value} {d : DataW H} {ps before : List MemPlace} {sp : Nat → Bool} (ht : t = 22 ∨ t = 33 ∨ t = 43 ∨ t = 42 ∨ t = 32)
    (h : DataW.Trod enc Try.prog W 0 (fun _ => true) true t v d ps) (hb : Below W.heap.size W W') (hsub : ∀ x ∈ ps, x ∈ before) (hlt : ∀ x ∈ before, x.block < W.heap.size) (hsp : ∀ x ∈ before, sp x.block = true) (hlaid : laidOutB Try.prog = true) :
    DataW.Trod enc Try.prog W' 0 sp true t v d ps := by
  rcases ht with rfl | rfl | rfl | rfl | rfl
  · exact WideElems.Trod_stays hlaid (by kernel_rfl) (of_decide_eq_true (by kernel_rfl)) h (fun x hx => hb.same (hlt x (hsub x hx))) (fun x hx => hsp x (hsub x hx))
  · exact WideElems.Trod_stays hlaid (by kernel_rfl) (of_decide_eq_true (by kernel_rfl)) h (fun x hx => hb.same (hlt x (hsub x hx))) (fun x hx => hsp x (hsub x hx))
  · exact WideElems.Trod_stays hlaid (by kernel_rfl) (of_decide_eq_true (by kernel_rfl)) h (fun x hx => hb.same (hlt x (hsub x hx))) (fun x hx => hsp x (hsub x hx))
  · exact WideElems.Trod_stays hlaid (by kernel_rfl) (of_decide_eq_true (by kernel_rfl)) h (fun x hx => hb.same (hlt x (hsub x hx))) (fun x hx => hsp x (hsub x hx))
  · exact WideElems.Trod_stays hlaid (by kernel_rfl) (of_decide_eq_true (by kernel_rfl)) h (fun x hx => hb.same (hlt x (hsub x hx))) (fun x hx => hsp x (hsub x hx))
end Go.Proofs.Ytlplbpilpkmoaaa.pl
