/- Acts that came in, opened; the row's last step. The tree's methods on a branch; 'lookUp'. What is renamed is what it was, under its new name; back again all is as it had been. -/
import Derived.Test.YtlnlehoekchdeaaGreatZ25
import Derived.ProofKit
import Derived.ChangeSlices
import Derived.SliceStrings
import Derived.Deep.Slices
import Derived.Deep.Fields
import Derived.Lib.SmallJoins
import Derived.OpenShut
import Derived.ChangeSame
import Derived.StillTailTactics
import Derived.Deep.MidRow
import Derived.Laws.ResultCell
import Derived.Deep.LoopGhost
section
namespace Go.Proofs.YtlnlehoekchdeaaGreat.cb
open Go.ChangeShapes Go.WideShapes Go.ChangeAt Go.RowKit
set_option linter.unusedVariables false
set_option linter.unusedSimpArgs false

section
open Go.Deep
variable {H : Type} {enc : TypeId × Value → H} {P : Program} {w : World} {base : Nat} {spare : Nat → Bool} {held : Bool}
theorem open_slice_fields {t e : TypeId} {fs : Array Field} {fuel : Nat} {cs : List Value} {x : DataW H × List MemPlace} (ht : P.underlying t = some (.slice e)) (he : P.underlying e = some (.struct fs))
    (hone : oneCellFields P fs = true) (hC : P.cellsOf e = fs.size) (h : DataW.trod enc P w base spare held fuel t cs = some x) :
    (cs = [.slice none 0 0]) ∨
    ∃ (a : Addr) (len cap m : Nat), cs = [.slice (some a) len cap] ∧ len ≤ cap ∧ cap ≤ maxLen ∧ len ≤ m ∧
      ∀ i, i < m → ∃ (n : Nat), ∀ (j : Nat) (f : Field), fs[j]? = some f → ∃ (v : Value) (y : DataW H × List MemPlace), w.cell? (a.add (i * fs.size + j)) = some v ∧ DataW.trod enc P w base spare held n f.type [v] = some y := by
  rcases open_slice ht h with h0 | ⟨a, len, cap, m, n, D, Pl, hcs, hb, hl, hm, hmm, hx, hi⟩
  · exact .inl h0.1
  · refine .inr ⟨a, len, cap, m, hcs, hl, hm, by rw [hmm]; split <;> omega, fun i him => ?_⟩
    obtain ⟨cs', hc, ht'⟩ := hi i him
    rw [hC] at hc
    obtain ⟨ys, n', hn', hy, hlen, hyl, hf⟩ := DataW.trod_struct he ht'
    obtain ⟨_, hcl, hat⟩ := World.cells?_some hc
    refine ⟨n', fun j f hj => ?_⟩
    obtain ⟨ho, hk⟩ := hone_of hone j f hj
    have hjl : j < fs.size := (Array.getElem?_eq_some_iff.1 hj).1
    have hcell := hat j hjl
    have hv : cs'[j]? = some (cs'[j]'(by omega)) := List.getElem?_eq_getElem (by omega)
    have h1 := hf j f hj
    rw [ho, hk] at h1
    have hone' : (cs'.drop j).take 1 = [cs'[j]'(by omega)] := by
      rw [List.drop_eq_getElem_cons (by omega)]
      rfl
    rw [hone'] at h1
    have hys : ys[j]? = some (ys[j]'(by omega)) := List.getElem?_eq_getElem (by omega)
    refine ⟨_, _, ?_, h1.trans hys⟩
    rw [← Go.Deep.add_add, hcell, hv]
end

structure Act6 where
  kind : Int
  d : Int
  t : Int
  n : Int
  a : ByteArray
  b : ByteArray
instance : Inhabited Act6 := ⟨⟨0, 0, 0, 0, ⟨#[]⟩, ⟨#[]⟩⟩⟩
/-- In w the slice of n acts at A reads as F. -/
def Acts (w : World) (B : Nat) (A : Option Addr) (n : Nat) (F : Nat → Act6) : Prop := ∀ i, i < n → ∃ b off, A = some ⟨b, off, none⟩ ∧ b < B ∧
  w.cell? ⟨b, off + i * 6, none⟩ = some (.int .i64 (F i).kind) ∧
  w.cell? ⟨b, off + i * 6 + 1, none⟩ = some (.int .i64 (F i).d) ∧
  w.cell? ⟨b, off + i * 6 + 2, none⟩ = some (.int .i64 (F i).t) ∧
  w.cell? ⟨b, off + i * 6 + 3, none⟩ = some (.int .i64 (F i).n) ∧
  w.cell? ⟨b, off + i * 6 + 4, none⟩ = some (.string (F i).a) ∧
  w.cell? ⟨b, off + i * 6 + 5, none⟩ = some (.string (F i).b) ∧ (F i).a.size ≤ maxLen ∧ (F i).b.size ≤ maxLen
theorem Acts.below {w w' : World} {B n : Nat} {A : Option Addr} {F : Nat → Act6} (h : Acts w B A n F) (hb : Below B w w') : Acts w' B A n F := fun i hi => by
  obtain ⟨b, off, e, hB, h0, h1, h2, h3, h4, h5, h7, h8⟩ := h i hi
  exact ⟨b, off, e, hB, (hb.cell (p := ⟨b, off + i * 6, none⟩) hB).trans h0, (hb.cell (p := ⟨b, off + i * 6 + 1, none⟩) hB).trans h1, (hb.cell (p := ⟨b, off + i * 6 + 2, none⟩) hB).trans h2, (hb.cell (p := ⟨b, off + i * 6 + 3, none⟩) hB).trans h3, (hb.cell (p := ⟨b, off + i * 6 + 4, none⟩) hB).trans h4, (hb.cell (p := ⟨b, off + i * 6 + 5, none⟩) hB).trans h5, h7, h8⟩
theorem spot_none {w : World} {a : Addr} {v : Value} (h : w.cell? (a.add 0) = some v) : ∃ b off, a = ⟨b, off, none⟩ ∧ b < w.heap.size := by
  obtain ⟨b, off, spot⟩ := a
  have hs : spot = none := by simpa [Addr.add] using World.cell?_spot h
  subst hs
  exact ⟨b, off, rfl, World.block_lt_of_cell? w _ h⟩
set_option maxRecDepth 100000 in
theorem open_acts {H : Type} {enc : TypeId × Value → H} {W : World} {r : Reach} {b0 : Nat} {sp : Nat → Bool} {held : Bool} {v : Value} {d : DataW H} {p : List MemPlace}
    (hv : Value.okWide Tryz.prog W r b0 22 v) (h : DataW.Trod enc Tryz.prog W 0 sp held 22 v d p) :
    ∃ A n c F, v = .slice A n c ∧ (n ≤ c ∧ c ≤ maxLen) ∧ Acts W W.heap.size A n F := by
  obtain ⟨fuel, hf⟩ := h
  have hcells : v.cells.toList = [v] := by
    obtain ⟨A, n, c, rfl⟩ := okWide_slice Tryz.underlying22 hv
    rfl
  rw [hcells] at hf
  rcases open_slice_fields Tryz.underlying22 Tryz.underlying54 (by kernel_rfl) (by kernel_rfl) hf with e | ⟨a, len, cap, m, e, hl, hm, hlm, hi⟩
  · injection e with e
    subst e
    exact ⟨none, 0, 0, fun _ => default, rfl, ⟨Nat.le_refl _, by unfold maxLen; omega⟩, fun i hi => absurd hi (Nat.not_lt_zero _)⟩
  · injection e with e
    subst e
    have hall : ∀ i, ∃ x : Act6, i < len → ∃ b off, (some a : Option Addr) = some ⟨b, off, none⟩ ∧ b < W.heap.size ∧
        W.cell? ⟨b, off + i * 6, none⟩ = some (.int .i64 x.kind) ∧
  W.cell? ⟨b, off + i * 6 + 1, none⟩ = some (.int .i64 x.d) ∧
  W.cell? ⟨b, off + i * 6 + 2, none⟩ = some (.int .i64 x.t) ∧
  W.cell? ⟨b, off + i * 6 + 3, none⟩ = some (.int .i64 x.n) ∧
  W.cell? ⟨b, off + i * 6 + 4, none⟩ = some (.string x.a) ∧
  W.cell? ⟨b, off + i * 6 + 5, none⟩ = some (.string x.b) ∧ x.a.size ≤ maxLen ∧ x.b.size ≤ maxLen := by
      intro i
      by_cases hil : i < len
      · obtain ⟨n0, hj0⟩ := hi 0 (by omega)
        obtain ⟨_, _, c00, _⟩ := hj0 0 _ rfl
        obtain ⟨b, off, rfl, hb⟩ := spot_none (by simpa using c00)
        obtain ⟨n, hj⟩ := hi i (by omega)
        obtain ⟨v0, y0, c0, t0⟩ := hj 0 _ rfl
        obtain ⟨v1, y1, c1, t1⟩ := hj 1 _ rfl
        obtain ⟨v2, y2, c2, t2⟩ := hj 2 _ rfl
        obtain ⟨v3, y3, c3, t3⟩ := hj 3 _ rfl
        obtain ⟨v4, y4, c4, t4⟩ := hj 4 _ rfl
        obtain ⟨v5, y5, c5, t5⟩ := hj 5 _ rfl
        obtain ⟨z0, e0, _⟩ := DataW.trod_int Tryz.underlying3 t0
        obtain ⟨z1, e1, _⟩ := DataW.trod_int Tryz.underlying3 t1
        obtain ⟨z2, e2, _⟩ := DataW.trod_int Tryz.underlying3 t2
        obtain ⟨z3, e3, _⟩ := DataW.trod_int Tryz.underlying3 t3
        obtain ⟨z4, e4, _, hz4⟩ := DataW.trod_string Tryz.underlying9 t4
        obtain ⟨z5, e5, _, hz5⟩ := DataW.trod_string Tryz.underlying9 t5
        injection e0 with e0
        subst e0
        injection e1 with e1
        subst e1
        injection e2 with e2
        subst e2
        injection e3 with e3
        subst e3
        injection e4 with e4
        subst e4
        injection e5 with e5
        subst e5
        rw [Go.WideShapes.add_plain] at c0 c1 c2 c3 c4 c5
        exact ⟨⟨z0, z1, z2, z3, z4, z5⟩, fun _ => ⟨b, off, rfl, hb, by simpa using c0, by simpa [Nat.add_assoc] using c1, by simpa [Nat.add_assoc] using c2, by simpa [Nat.add_assoc] using c3, by simpa [Nat.add_assoc] using c4, by simpa [Nat.add_assoc] using c5, hz4, hz5⟩⟩
      · exact ⟨default, fun h => absurd h hil⟩
    obtain ⟨F, hF⟩ := Classical.axiomOfChoice hall
    exact ⟨some a, len, cap, F, rfl, ⟨hl, hm⟩, hF⟩

/-- The row's last step: the results read, the arguments read as they did, and below the heap's first end nothing has turned. -/
theorem law_post {H : Type} {enc : TypeId × Value → H} {P : Program} {f : Func} {s : ChangeSpec} {apart fresh handsOn : Bool} {W W' : World} {args : Array Value} {v : Value} {ds gs : List (DataW H)} {before pa pv : List MemPlace}
    (hW : DataW.Whole enc P f.params.toList s.vars apart W args.toList ds gs before)
    (hres : ∀ (b : Nat) (sp : Nat → Bool) (hd : Bool), DataW.TrodAll enc P W' b sp hd f.resultTypes.toList (v.resultList f.resultTypes.size) (s.fn H (ds ++ gs)).results [])
    (hargs : ∀ sp : Nat → Bool, (∀ p ∈ before, sp p.block = true) → DataW.TrodAll enc P W' 0 sp true f.params.toList args.toList (s.fn H (ds ++ gs)).args pa)
    (hvars : ∀ sp : Nat → Bool, (∀ p ∈ before, sp p.block = true) → DataW.TrodVars enc P W' sp s.vars (s.fn H (ds ++ gs)).vars pv)
    (hps : before = pa ++ pv) (hb : Below W.heap.size W W')
    (_hok : ∀ (j : Nat) (t : TypeId) (r : Value), f.resultTypes[j]? = some t → (v.resultList f.resultTypes.size)[j]? = some r → Value.okWide P W' .any 0 t r) :
    s.post enc P f apart fresh handsOn false W args v W' := by
  have hlt : ∀ p ∈ before, p.block < W.heap.size := fun p hp => hW.lt p hp
  have hold : ∀ p ∈ before, (fun b => decide (b < W.heap.size)) p.block = true := fun p hp => by simpa using hlt p hp
  refine ⟨ds, gs, before, [], pa, pv, hW, hres _ _ _, hargs _ hold, hvars _ hold, World.keptBut_mono (fun p hp => ⟨hp, ?_⟩) (hb.frame (· ∈ before)), fun h => by cases h⟩
  rw [hps, List.mem_append] at hp
  exact Or.inr hp

/-- An argument reads as it did, in any later world that is the same below the heap's first end. -/
theorem arg_stays {H : Type} {enc : TypeId × Value → H} {W W' : World} {v : Value} {d : DataW H} {ps before : List MemPlace} {sp : Nat → Bool}
    (h : DataW.Trod enc Tryz.prog W 0 (fun _ => true) true 22 v d ps) (hb : Below W.heap.size W W') (hsub : ∀ x ∈ ps, x ∈ before) (hlt : ∀ x ∈ before, x.block < W.heap.size) (hsp : ∀ x ∈ before, sp x.block = true) (hlaid : laidOutB Tryz.prog = true) :
    DataW.Trod enc Tryz.prog W' 0 sp true 22 v d ps :=
  WideElems.Trod_stays hlaid (by kernel_rfl) (of_decide_eq_true (by kernel_rfl)) h (fun x hx => hb.same (hlt x (hsub x hx))) (fun x hx => hsp x (hsub x hx))
end Go.Proofs.YtlnlehoekchdeaaGreat.cb
end
section
namespace Go.Proofs.YtlnlehoekchdeaaGreat.cb
open Go.RowKit Go.Deep
open Go.Proofs.YtlnlehoekchdeaaGreat.br
open Go.Proofs.YtlnlehoekchdeaaGreat.bl (Pq)
set_option linter.unusedVariables false
set_option linter.unusedSimpArgs false

theorem m_kind (P : Nat) (w : World) : (method 303 27 (Pq P) "Kind").run Tryz.prog w = .ok (17, Pq P) w := by kernel_rfl
theorem m_get (P : Nat) (w : World) : (method 303 27 (Pq P) "Get").run Tryz.prog w = .ok (16, Pq P) w := by kernel_rfl
theorem m_target (P : Nat) (w : World) : (method 303 27 (Pq P) "Target").run Tryz.prog w = .ok (139, Pq P) w := by kernel_rfl
theorem m_parent (P : Nat) (w : World) : (method 303 27 (Pq P) "Parent").run Tryz.prog w = .ok (138, Pq P) w := by kernel_rfl
theorem n_get (P : Nat) (w : World) : (nilAhead 303 27 (Pq P) "Get").run Tryz.prog w = .ok (some false) w := by kernel_rfl
theorem n_kind (P : Nat) (w : World) : (nilAhead 303 27 (Pq P) "Kind").run Tryz.prog w = .ok (some false) w := by kernel_rfl
theorem cell_row {w : World} {B j : Nat} {vs : Array Value} {t : TypeId} {m : Nat × Nat} (h : w.heap[B]? = some (.cells vs t m)) : w.cell? ⟨B, j, none⟩ = vs[j]? := by simp [World.cell?, h]
/-- A return of a struct that lies in a box and of a value. -/
theorem results_row_tmp {fn : Func} {p u : Tmp} {ty : TypeId} (h : fn.results = #[.cell p ty, .tmp u]) (tmps : Array Value) (w : World) (b : Nat) (cs : List Value) (d : TypeDesc)
    (hp : tmps.getD p undef = .pointer (some ⟨b, 0, none⟩)) (hc : w.rangeAt b 0 cs) (hu : Tryz.prog.underlying ty = some d) (hd : d.isRow = true) (hi : (Tryz.prog.info? ty).map (·.size) = some cs.length) :
    (results fn tmps).run Tryz.prog w = .ok (.tuple #[.agg cs.toArray, tmps.getD u undef]) w := by
  rw [results_cell_tmp h, hp]
  simp only [asAddr, Sem.run_pure, Result.andThen_ok, run_loadVar_mid w b 0 ty cs d hc hu hd hi]
theorem range3 {w : World} {b : Nat} {x y z : Value} (h0 : w.cell? ⟨b, 0, none⟩ = some x) (h1 : w.cell? ⟨b, 1, none⟩ = some y) (h2 : w.cell? ⟨b, 2, none⟩ = some z) : w.rangeAt b 0 [x, y, z] := by
  intro j v hv
  rw [Nat.zero_add]
  match j, hv with
  | 0, hv => cases hv; exact h0
  | 1, hv => cases hv; exact h1
  | 2, hv => cases hv; exact h2
  | j + 3, hv => simp at hv
theorem box_set3 {w w3 : World} {B : Nat} (hB : w.heap.size ≤ B) {t : TypeId} {u0 u1 u2 : Value} {m : Nat × Nat} (hr : w3.heap[B]? = some (.cells #[u0, u1, u2] t m)) (hb : Below w.heap.size w w3) (x y z : Value) :
    (((w3.setCell ⟨B, 0, none⟩ x).setCell ⟨B, 1, none⟩ y).setCell ⟨B, 2, none⟩ z).rangeAt B 0 [x, y, z] ∧ Below w.heap.size w (((w3.setCell ⟨B, 0, none⟩ x).setCell ⟨B, 1, none⟩ y).setCell ⟨B, 2, none⟩ z) := by
  have c0 : (w3.cell? ⟨B, 0, none⟩).isSome = true := by rw [cell_row hr]; rfl
  have c1 : (w3.cell? ⟨B, 1, none⟩).isSome = true := by rw [cell_row hr]; rfl
  have c2 : (w3.cell? ⟨B, 2, none⟩).isSome = true := by rw [cell_row hr]; rfl
  have ne : ∀ i j : Nat, i ≠ j → (⟨B, j, none⟩ : Addr) ≠ ⟨B, i, none⟩ := fun i j h e => by injection e with _ e; exact h e.symm
  refine ⟨range3 ?_ ?_ ?_, ((hb.setCell (show _ ≤ (⟨B, 0, none⟩ : Addr).block from hB) x).setCell (show _ ≤ (⟨B, 1, none⟩ : Addr).block from hB) y).setCell (show _ ≤ (⟨B, 2, none⟩ : Addr).block from hB) z⟩
  · rw [World.cell?_setCell_other _ _ _ _ (ne 0 2 (by decide)), World.cell?_setCell_other _ _ _ _ (ne 0 1 (by decide))]
    exact World.cell?_setCell_same' _ _ _ c0
  · rw [World.cell?_setCell_other _ _ _ _ (ne 1 2 (by decide))]
    exact World.cell?_setCell_same' _ _ _ (by rw [World.cell?_setCell_other _ _ _ _ (ne 1 0 (by decide))]; exact c1)
  · exact World.cell?_setCell_same' _ _ _ (by rw [World.cell?_setCell_other _ _ _ _ (ne 2 1 (by decide)), World.cell?_setCell_other _ _ _ _ (ne 2 0 (by decide))]; exact c2)
/-- What 'lookUp' hands back. -/
def lookR (a : Int) (n : ByteArray) (last : Bool) (g : Int × Int) : (Int × ByteArray × Int) × Int :=
  if g.2 = 0 then ((a, n, g.1), 0) else if g.2 = 2 ∧ last = true then ((a, n, 0), 2) else ((0, ⟨#[]⟩, 0), g.2)
def FoundV (r : (Int × ByteArray × Int) × Int) : Value := .tuple #[.agg #[.int .i64 r.1.1, .string r.1.2.1, .int .i64 r.1.2.2], .int .i64 r.2]
set_option maxRecDepth 100000 in
set_option maxHeartbeats 2000000 in
theorem look_any {w : World} {P : Nat} {a : Int} {n : ByteArray} {g : Int × Int} (last : Bool) (hg : ∀ w2, Below w.heap.size w w2 → Calls Tryz.prog 16 #[Pq P, .int .i64 a, .string n] w2 (RetW w2 (.tuple #[.int .i64 g.1, .int .i64 g.2]))) :
    Calls Tryz.prog 70 #[.func (.method "Get") #[.iface 27 (Pq P)] #[], .int .i64 a, .string n, .bool last] w (RetW w (FoundV (lookR a n last g))) := by
  have hm := m_get P
  have HG := Lib.hid (hg _ (dn.below_alloc w (.cells #[.int .i64 0, .string ⟨#[]⟩, .int .i64 0] 32)))
  have HB0 := Lib.hid (dn.below_alloc w (.cells #[.int .i64 0, .string ⟨#[]⟩, .int .i64 0] 32))
  clear hg
  obtain ⟨i, e⟩ := g
  unfold RetW at HG ⊢
  dsimp only at HG
  obtain ⟨r, hr⟩ : ∃ r, lookR a n last (i, e) = r := ⟨_, rfl⟩
  have HR := Lib.hid hr
  rw [hr]
  unfold lookR at hr
  dsimp only at hr
  obtain ⟨B, hB⟩ : ∃ B, w.heap.size = B := ⟨_, rfl⟩
  obtain ⟨w1, hw1⟩ : ∃ w1, w.alloc (.cells #[.int .i64 0, .string ⟨#[]⟩, .int .i64 0] 32) = w1 := ⟨_, rfl⟩
  have hrow : w1.heap[B]? = some (.cells #[.int .i64 0, .string ⟨#[]⟩, .int .i64 0] 32 (0, 0)) := by rw [← hw1, ← hB]; exact heap_alloc_new w _
  have hBl : B < w1.heap.size := by rw [← hw1, ← hB, World.size_alloc]; omega
  rw [hw1] at HG HB0
  by_cases h0 : e = 0
  · subst h0
    rw [if_pos rfl] at hr
    subst hr
    go_enter Tryz.func70, Tryz.ntmps70
    go_wp2_with fail
    refine HG.out.mono ?_
    rintro _ w3 ⟨rfl, hb3⟩
    have hr3 := (hb3.block B hBl).trans hrow
    have HS := Lib.hid (fun x y z => box_set3 (by omega) hr3 (dn.below_step HB0.out hb3) x y z)
    have c0 : w3.cell? ⟨B, 0, none⟩ = some (.int .i64 0) := by rw [cell_row hr3]; rfl
    have c1 : w3.cell? ⟨B, 1, none⟩ = some (.string ⟨#[]⟩) := by rw [cell_row hr3]; rfl
    have c2 : w3.cell? ⟨B, 2, none⟩ = some (.int .i64 0) := by rw [cell_row hr3]; rfl
    have fz : ∀ j, w3.frozen? ⟨B, j, none⟩ = false := fun j => by simp [World.frozen?, hr3]
    have f0 := fz 0
    have f1 := fz 1
    have f2 := fz 2
    clear hr3 fz hb3
    go_wp2_with fail
    obtain ⟨hx, hy⟩ := HS.out _ _ _
    refine bodyPost_ret (results_row_tmp rfl _ _ B _ _ rfl hx Tryz.underlying32 (by rfl) (by rfl)) rfl ?_
    exact ⟨rfl, hy⟩
  rw [if_neg h0] at hr
  have q0 : (e == 0) = false := by simpa using h0
  by_cases h2 : e = 2
  · subst h2
    cases last
    · rw [if_neg (by simp)] at hr
      subst hr
      go_enter Tryz.func70, Tryz.ntmps70
      go_wp2_with fail
      refine HG.out.mono ?_
      rintro _ w3 ⟨rfl, hb3⟩
      have hr3 := (hb3.block B hBl).trans hrow
      have HS := Lib.hid (fun x y z => box_set3 (by omega) hr3 (dn.below_step HB0.out hb3) x y z)
      have c0 : w3.cell? ⟨B, 0, none⟩ = some (.int .i64 0) := by rw [cell_row hr3]; rfl
      have c1 : w3.cell? ⟨B, 1, none⟩ = some (.string ⟨#[]⟩) := by rw [cell_row hr3]; rfl
      have c2 : w3.cell? ⟨B, 2, none⟩ = some (.int .i64 0) := by rw [cell_row hr3]; rfl
      have fz : ∀ j, w3.frozen? ⟨B, j, none⟩ = false := fun j => by simp [World.frozen?, hr3]
      have f0 := fz 0
      have f1 := fz 1
      have f2 := fz 2
      clear hr3 fz hb3
      go_wp2_with fail
      obtain ⟨hx, hy⟩ := HS.out _ _ _
      refine bodyPost_ret (results_row_tmp rfl _ _ B _ _ rfl hx Tryz.underlying32 (by rfl) (by rfl)) rfl ?_
      exact ⟨rfl, hy⟩
    · rw [if_pos (by simp)] at hr
      subst hr
      go_enter Tryz.func70, Tryz.ntmps70
      go_wp2_with fail
      refine HG.out.mono ?_
      rintro _ w3 ⟨rfl, hb3⟩
      have hr3 := (hb3.block B hBl).trans hrow
      have HS := Lib.hid (fun x y z => box_set3 (by omega) hr3 (dn.below_step HB0.out hb3) x y z)
      have c0 : w3.cell? ⟨B, 0, none⟩ = some (.int .i64 0) := by rw [cell_row hr3]; rfl
      have c1 : w3.cell? ⟨B, 1, none⟩ = some (.string ⟨#[]⟩) := by rw [cell_row hr3]; rfl
      have c2 : w3.cell? ⟨B, 2, none⟩ = some (.int .i64 0) := by rw [cell_row hr3]; rfl
      have fz : ∀ j, w3.frozen? ⟨B, j, none⟩ = false := fun j => by simp [World.frozen?, hr3]
      have f0 := fz 0
      have f1 := fz 1
      have f2 := fz 2
      clear hr3 fz hb3
      go_wp2_with fail
      obtain ⟨hx, hy⟩ := HS.out _ _ _
      refine bodyPost_ret (results_row_tmp rfl _ _ B _ _ rfl hx Tryz.underlying32 (by rfl) (by rfl)) rfl ?_
      exact ⟨rfl, hy⟩
  · rw [if_neg (fun h => h2 h.1)] at hr
    subst hr
    have q2 : (e == 2) = false := by simpa using h2
    clear h0 h2
    go_enter Tryz.func70, Tryz.ntmps70
    go_wp2_with fail
    refine HG.out.mono ?_
    rintro _ w3 ⟨rfl, hb3⟩
    have hr3 := (hb3.block B hBl).trans hrow
    have HS := Lib.hid (fun x y z => box_set3 (by omega) hr3 (dn.below_step HB0.out hb3) x y z)
    have c0 : w3.cell? ⟨B, 0, none⟩ = some (.int .i64 0) := by rw [cell_row hr3]; rfl
    have c1 : w3.cell? ⟨B, 1, none⟩ = some (.string ⟨#[]⟩) := by rw [cell_row hr3]; rfl
    have c2 : w3.cell? ⟨B, 2, none⟩ = some (.int .i64 0) := by rw [cell_row hr3]; rfl
    have fz : ∀ j, w3.frozen? ⟨B, j, none⟩ = false := fun j => by simp [World.frozen?, hr3]
    have f0 := fz 0
    have f1 := fz 1
    have f2 := fz 2
    clear hr3 fz hb3
    go_wp2_with fail
    obtain ⟨hx, hy⟩ := HS.out _ _ _
    refine bodyPost_ret (results_row_tmp rfl _ _ B _ _ rfl hx Tryz.underlying32 (by rfl) (by rfl)) rfl ?_
    exact ⟨rfl, hy⟩
end Go.Proofs.YtlnlehoekchdeaaGreat.cb
end
section
namespace Go.Proofs.YtlnlehoekchdeaaGreat.cb
open Go.RowKit
open Go.Proofs.YtlnlehoekchdeaaGreat.br
open Go.Proofs.YtlnlehoekchdeaaGreat.dn (En nerr lget lset ldel dotB Sorted lget_some lget_none ldel_mem ldel_sorted lset_mem lset_sorted)
set_option linter.unusedVariables false
set_option linter.unusedSimpArgs false

theorem BrX.up {w0 w : World} {P room T T' : Nat} {X : Nat → Prop} {S : BS} (h : BrX w0 w P X S room T) (hT : T ≤ T') : BrX w0 w P X S room T' := by
  obtain ⟨st, qb, qo, pl, tag, Tq, h1, h2, h3, h4, h5, h6, h7⟩ := h
  exact ⟨st, qb, qo, pl, tag, Tq, h1, by omega, h3, h4, h5.mono (by omega), h6, h7⟩
theorem nerr_len {s : ByteArray} (h : nerr s.data.toList = 0) : 1 ≤ s.size ∧ s.size ≤ 60 := by
  unfold nerr at h
  have e : s.data.toList.length = s.size := Array.length_toList
  split at h
  · cases h
  · rename_i h0
    split at h
    · cases h
    · have : s.data.toList.length ≠ 0 := fun e0 => h0 (List.eq_nil_of_length_eq_zero e0)
      omega
theorem below_deep {S : BS} {deep : Nat → Nat} (hdp : ∀ k, (S.ino k).kind = 2 → (S.ino k).links ≠ 0 → k ≠ 1 → ∃ p : Nat, (S.ino k).parent = (p : Int) ∧ (S.ino p).kind = 2 ∧ (S.ino p).links ≠ 0 ∧ deep p < deep k) (hr : (S.ino 1).parent = 1) {I : Nat} :
    ∀ n k, (S.ino k).kind = 2 → (S.ino k).links ≠ 0 → S.below (k : Int) I n = true → k = I ∨ deep I < deep k := by
  intro n
  induction n with
  | zero => intro k _ _ h; cases h
  | succ n ih =>
    intro k hk hl h
    rw [below_up] at h
    by_cases e : k = I
    · exact .inl e
    · rw [decide_eq_false (fun e1 => e (by omega)), Bool.false_or] at h
      by_cases e1 : k = 1
      · subst e1
        rw [hr] at h
        exact ih 1 hk hl h
      · obtain ⟨p, hp, hpk, hpl, hlt⟩ := hdp k hk hl e1
        rw [hp] at h
        rcases ih p hpk hpl h with e2 | e2
        · subst e2; exact .inr hlt
        · exact .inr (by omega)
theorem below_moved {S S' : BS} {D T I : Nat} {s u : ByteArray} (d : Moved S S' D T I s u) (hI : 1 ≤ I) : ∀ n (x : Int), S'.below x I n = S.below x I n := by
  intro n
  induction n with
  | zero => intro x; rfl
  | succ n ih =>
    intro x
    unfold BS.below
    by_cases e : x = (I : Int)
    · rw [decide_eq_true e]; rfl
    · rw [decide_eq_false e, Bool.false_or, Bool.false_or]
      have hp : (S'.at x).parent = (S.at x).parent := by
        show (S'.ino x.toNat).parent = (S.ino x.toNat).parent
        rw [d.parent, if_neg (fun e2 => e (by omega))]
      rw [hp, ih]
theorem get_of {S : BS} {D : Nat} {s : ByteArray} {v : Int} (h1 : 1 ≤ D) (h2 : D ≤ 200) (hk : (S.ino D).kind = 2) (hg : lget s (S.ino D).dir = some v) : S.get (D : Int) s = (v, 0) := by
  have hd : S.dirE (D : Int) false = 0 := by
    unfold BS.dirE BS.isI
    rw [at_nat, if_neg (by simp only [decide_eq_false_iff_not, Decidable.not_not]; exact ⟨by omega, by omega, by rw [hk]; decide⟩), if_neg (by rw [hk]; decide), if_neg (fun e => by cases e.1)]
  rw [get_eq hd, hg]
theorem get_no {S : BS} {D : Nat} {s : ByteArray} (h1 : 1 ≤ D) (h2 : D ≤ 200) (hk : (S.ino D).kind = 2) (hg : lget s (S.ino D).dir = none) : S.get (D : Int) s = (0, 2) := by
  have hd : S.dirE (D : Int) false = 0 := by
    unfold BS.dirE BS.isI
    rw [at_nat, if_neg (by simp only [decide_eq_false_iff_not, Decidable.not_not]; exact ⟨by omega, by omega, by rw [hk]; decide⟩), if_neg (by rw [hk]; decide), if_neg (fun e => by cases e.1)]
  rw [get_eq hd, hg]
theorem dirE_yes {S : BS} {D : Nat} (h1 : 1 ≤ D) (h2 : D ≤ 200) (hk : (S.ino D).kind = 2) (hl : (S.ino D).links ≠ 0) : S.dirE (D : Int) true = 0 := by
  unfold BS.dirE BS.isI
  rw [at_nat, if_neg (by simp only [decide_eq_false_iff_not, Decidable.not_not]; exact ⟨by omega, by omega, by rw [hk]; decide⟩), if_neg (by rw [hk]; decide), if_neg (fun e => hl e.2)]
theorem nameE_yes {s : ByteArray} (h : nerr s.data.toList = 0 ∧ dotB s = false) : nameE s = 0 := by
  unfold nameE
  rw [if_neg (fun e => by rw [h.2] at e; cases e.2)]
  exact h.1
/-- What a name that was moved leads to, and that it may be moved back. -/
theorem move_back {S : BS} {room D T I : Nat} (hG : br.Good S room) {s u : ByteArray} (hl : (S.ino D).links ≠ 0) (t1 : 1 ≤ T) (t2 : T ≤ 200) (tk : (S.ino T).kind = 2) (tl : (S.ino T).links ≠ 0)
    (hg : lget s (S.ino D).dir = some (I : Int)) (hu : lget u (S.ino T).dir = none) (hID : I ≠ D) (hIT : I ≠ T) : (S.move D s T u I).get T u = ((I : Int), 0) ∧ (S.move D s T u I).rename T u D s = (0, S) := by
  obtain ⟨hk, ⟨d1, d2⟩, I', hI', i1, i2, i3, i4, i5⟩ := hG.1.lead hg
  obtain rfl : I = I' := by omega
  have d := move_moved (S := S) s u hID hIT
  generalize hS : S.move D s T u I = S2 at *
  have hmem := (lget_some (hG.1.sorted D)).1 hg
  have hDk : (S2.ino D).kind = 2 := by rw [d.kind]; exact hk
  have hTk : (S2.ino T).kind = 2 := by rw [d.kind]; exact tk
  have hDl : (S2.ino D).links ≠ 0 := by rw [d.links]; exact hl
  have hTl : (S2.ino T).links ≠ 0 := by rw [d.links]; exact tl
  have gT : lget u (S2.ino T).dir = some (I : Int) := by rw [d.dir, if_pos rfl]; exact lget_lset (half_sorted hG.1 T)
  have gD : lget s (S2.ino D).dir = none := by
    rw [d.dir]
    by_cases e : D = T
    · subst e
      have hsu : s ≠ u := fun e => by subst e; rw [hg] at hu; cases hu
      rw [if_pos rfl, lget_lset_other (half_sorted hG.1 D) hsu]
      unfold halfD
      rw [if_pos rfl]; exact lget_gone s _
    · rw [if_neg e]
      unfold halfD
      rw [if_pos rfl]; exact lget_gone s _
  have hpar : (S.ino I).kind = 2 → (S.ino I).parent = (D : Int) := fun e => by
    have := hG.1.up D _ hmem (by show (S.ino ((I : Int)).toNat).kind = 2; rw [Int.toNat_natCast]; exact e)
    have h2 : (S.ino ((I : Int)).toNat).parent = (D : Int) := this
    rwa [Int.toNat_natCast] at h2
  have hb : ¬ ((S2.ino I).kind = 2 ∧ S2.below (D : Int) I 300 = true) := by
    rintro ⟨e1, e2⟩
    rw [d.kind] at e1
    rw [below_moved d i1] at e2
    obtain ⟨deep, hdp⟩ := hG.2
    have hr := hG.1.root.2.2
    rcases below_deep hdp hr 300 D hk hl e2 with e3 | e3
    · exact hID e3.symm
    · obtain ⟨p, hp, _, _, hlt⟩ := hdp I e1 (by omega) i3
      have := hpar e1
      obtain rfl : p = D := by omega
      omega
  refine ⟨get_of t1 t2 hTk gT, ?_⟩
  have hne := nameE_yes ⟨(hG.1.good D _ hmem).1, (hG.1.good D _ hmem).2.1⟩
  unfold BS.rename
  rw [get_of t1 t2 hTk gT, if_neg (by rw [dirE_yes t1 t2 hTk hTl]; decide), if_neg (show ¬ ((0 : Int) ≠ 0) by decide), if_neg (by rw [dirE_yes d1 d2 hDk hDl]; decide), if_neg (by rw [hne]; decide)]
  dsimp only
  rw [at_nat S2 I, at_nat S2 D, if_neg hb, gD]
  dsimp only
  rw [moved_back hG.1 hg hu d (move_moved (S := S2) u s hIT hID) hpar]
theorem moves_of {S : BS} {room : Nat} (hG : br.Good S room) {d t : Int} {s u : ByteArray} (h : (S.rename d s t u).1 = 0) :
    ∃ i : Int, S.get d s = (i, 0) ∧ (S.rename d s t u).2.get t u = (i, 0) ∧
      ((S.get t u = (i, 0) ∧ (S.rename d s t u).2 = S) ∨ (∃ old, S.get t u = (old, 0) ∧ old ≠ i ∧ ((S.rename d s t u).2.get d s).2 = 2) ∨ ((S.get t u).2 ≠ 0 ∧ (S.rename d s t u).2.rename t u d s = (0, S))) := by
  by_cases e1 : S.dirE d true = 0
  case neg => exfalso; unfold BS.rename at h; rw [if_pos e1] at h; exact e1 h
  by_cases e2 : (S.get d s).2 = 0
  case neg => exfalso; unfold BS.rename at h; rw [if_neg (by simpa using e1), if_pos e2] at h; exact e2 h
  by_cases e3 : S.dirE t true = 0
  case neg => exfalso; unfold BS.rename at h; rw [if_neg (by simpa using e1), if_neg (by simpa using e2), if_pos e3] at h; exact e3 h
  by_cases e4 : nameE u = 0
  case neg => exfalso; unfold BS.rename at h; rw [if_neg (by simpa using e1), if_neg (by simpa using e2), if_neg (by simpa using e3), if_pos e4] at h; exact e4 h
  obtain ⟨D, rfl, h1, h2, hk, hg⟩ := get_ok e2
  obtain ⟨T, rfl, t1, t2, tk, tl⟩ := dirE_ok e3
  obtain ⟨D', hD', _, _, _, hl⟩ := dirE_ok e1
  obtain rfl : D = D' := by omega
  have tl := tl rfl
  have hl := hl rfl
  have hs := nameE_ok e4
  have hget : S.get (D : Int) s = ((S.get (D : Int) s).1, 0) := by rw [← e2]
  clear e2
  generalize (S.get (D : Int) s).1 = v at *
  obtain ⟨_, _, I, rfl, i1, i2, i3, i4, i5⟩ := hG.1.lead hg
  have hID : I ≠ D := fun e => by subst e; exact hG.1.own hG.2 hg
  have hR : S.rename (D : Int) s (T : Int) u = (if (S.ino I).kind = 2 ∧ S.below (T : Int) I 300 = true then ((22 : Int), S)
      else match lget u (S.ino T).dir with
        | none => ((0 : Int), S.move D s T u I)
        | some old =>
          if old = (I : Int) then ((0 : Int), S)
          else if (S.at old).kind = 2 ∧ (S.ino I).kind ≠ 2 then ((21 : Int), S)
          else if (S.at old).kind ≠ 2 ∧ (S.ino I).kind = 2 then ((20 : Int), S)
          else if (S.at old).kind = 2 ∧ (S.at old).dir ≠ [] then ((39 : Int), S)
          else ((0 : Int), (S.drop T u old).move D s T u I)) := by
    unfold BS.rename
    rw [hget, if_neg (by simpa using e1), if_neg (show ¬ ((0 : Int) ≠ 0) by decide), if_neg (by simpa using e3), if_neg (by simpa using e4)]
    dsimp only
    rw [at_nat S I, at_nat S T]
    rfl
  by_cases e5 : (S.ino I).kind = 2 ∧ S.below (T : Int) I 300 = true
  · rw [if_pos e5] at hR; rw [hR] at h; cases h
  rw [if_neg e5] at hR
  have hIT : I ≠ T := fun e => by
    subst e
    exact e5 ⟨tk, below_self⟩
  refine ⟨(I : Int), hget, ?_⟩
  cases hT : lget u (S.ino T).dir with
  | none =>
    rw [hT] at hR
    dsimp only at hR
    rw [hR]
    have hm := move_back hG hl t1 t2 tk tl hg hT hID hIT
    refine ⟨hm.1, .inr (.inr ⟨?_, hm.2⟩)⟩
    rw [get_no t1 t2 tk hT]; decide
  | some old =>
    rw [hT] at hR
    dsimp only at hR
    by_cases e6 : old = (I : Int)
    · rw [if_pos e6] at hR
      rw [hR]
      have := get_of t1 t2 tk hT
      rw [e6] at this
      exact ⟨this, .inl ⟨this, rfl⟩⟩
    · rw [if_neg e6] at hR
      by_cases e7 : (S.at old).kind = 2 ∧ (S.ino I).kind ≠ 2
      · rw [if_pos e7] at hR; rw [hR] at h; cases h
      rw [if_neg e7] at hR
      by_cases e8 : (S.at old).kind ≠ 2 ∧ (S.ino I).kind = 2
      · rw [if_pos e8] at hR; rw [hR] at h; cases h
      rw [if_neg e8] at hR
      by_cases e9 : (S.at old).kind = 2 ∧ (S.at old).dir ≠ []
      · rw [if_pos e9] at hR; rw [hR] at h; cases h
      rw [if_neg e9] at hR
      rw [hR]
      have hd : (S.at old).kind = 2 → (S.at old).dir = [] := fun x => by
        by_cases y : (S.at old).dir = []
        · exact y
        · exact absurd ⟨x, y⟩ e9
      obtain ⟨hgood, J, rfl, hJ, dd⟩ := hG.drop hT hd
      rw [at_nat] at hd
      have hdJ : (S.ino J).dir = [] := by
        by_cases e : (S.ino J).kind = 2
        · exact hd e
        · exact hG.1.noDir J e
      have hJD : J ≠ D := fun e => by subst e; rw [hdJ] at hg; cases hg
      have hsu : D = T → s ≠ u := fun e1 e => by subst e1; subst e; rw [hg] at hT; exact e6 (by injection hT with x; exact x.symm)
      have hdirs := dd.dirs hJ hdJ
      have hS1 : (S.drop (T : Int) u J).ino D = { S.ino D with dir := if D = T then ldel u (S.ino T).dir else (S.ino D).dir } := by
        by_cases e : D = T
        · subst e; rw [if_pos rfl]; exact dd.dir
        · rw [if_neg e, dd.oth D e (fun e => hJD e.symm)]
      have dm := move_moved (S := S.drop (T : Int) u J) s u hID hIT
      have hT0 : (S.drop (T : Int) u J).ino T = { S.ino T with dir := ldel u (S.ino T).dir } := dd.dir
      have hso := half_sorted (D := D) (s := s) hgood.1 T
      generalize S.drop (T : Int) u J = S1 at *
      generalize S1.move D s T u I = S2 at *
      have hTk : (S2.ino T).kind = 2 := by rw [dm.kind, hT0]; exact tk
      have hDk : (S2.ino D).kind = 2 := by rw [dm.kind, hS1]; exact hk
      have gT : lget u (S2.ino T).dir = some (I : Int) := by rw [dm.dir, if_pos rfl]; exact lget_lset hso
      have gD : lget s (S2.ino D).dir = none := by
        rw [dm.dir]
        by_cases e : D = T
        · have hn := hsu e
          subst e
          rw [if_pos rfl, lget_lset_other hso hn]
          unfold halfD
          rw [if_pos rfl]; exact lget_gone s _
        · rw [if_neg e]
          unfold halfD
          rw [if_pos rfl]; exact lget_gone s _
      refine ⟨get_of t1 t2 hTk gT, .inr (.inl ⟨(J : Int), get_of t1 t2 tk hT, e6, ?_⟩)⟩
      rw [get_no h1 h2 hDk gD]
end Go.Proofs.YtlnlehoekchdeaaGreat.cb
end
