/- Part 21 of what is known of the program's functions and of the document's words: contracts, and the mathematics beneath them. -/
import Derived.Test.YtpmpbmjjlccbbaaGreatProg
import Derived.Test.YtpmpbmjjlccbbaaGreatZ20
import Derived.ProofKit
import Derived.ChangeSlices
import Derived.SliceStrings
import Derived.Deep.Slices
import Derived.Deep.Fields
import Derived.Lib.SmallJoins
import Derived.OpenShut
import Derived.ChangeSame
import Derived.StillTailTactics
import Derived.Deep.MidRow
import Derived.Laws.ResultCell
import Derived.Deep.LoopGhost
set_option linter.unusedVariables false
set_option linter.unusedSimpArgs false
set_option maxRecDepth 100000
set_option maxHeartbeats 8000000
namespace Go.Proofs.YtpmpbmjjlccbbaaGreat.cb
open Go.ChangeShapes Go.WideShapes Go.ChangeAt Go.RowKit
section
open Go.Deep
variable {H : Type} {enc : TypeId × Value → H} {P : Program} {w : World} {base : Nat} {spare : Nat → Bool} {held : Bool}
theorem open_slice_fields {t e : TypeId} {fs : Array Field} {fuel : Nat} {cs : List Value} {x : DataW H × List MemPlace} (ht : P.underlying t = some (.slice e)) (he : P.underlying e = some (.struct fs))
  (hone : oneCellFields P fs = true) (hC : P.cellsOf e = fs.size) (h : DataW.trod enc P w base spare held fuel t cs = some x) :
  (cs = [.slice none 0 0]) ∨
  ∃ (a : Addr) (len cap m : Nat), cs = [.slice (some a) len cap] ∧ len ≤ cap ∧ cap ≤ maxLen ∧ len ≤ m ∧
   ∀ i, i < m → ∃ (n : Nat), ∀ (j : Nat) (f : Field), fs[j]? = some f → ∃ (v : Value) (y : DataW H × List MemPlace), w.cell? (a.add (i * fs.size + j)) = some v ∧ DataW.trod enc P w base spare held n f.type [v] = some y := by
 rcases open_slice ht h with h0 | ⟨a, len, cap, m, n, D, Pl, hcs, hb, hl, hm, hmm, hx, hi⟩
 ·exact .inl h0.1
 ·refine .inr ⟨a, len, cap, m, hcs, hl, hm, by rw [hmm]; split <;> omega, fun i him => ?_⟩
  obtain ⟨cs', hc, ht'⟩ := hi i him
  rw [hC] at hc
  obtain ⟨ys, n', hn', hy, hlen, hyl, hf⟩ := DataW.trod_struct he ht'
  obtain ⟨_, hcl, hat⟩ := World.cells?_some hc
  refine ⟨n', fun j f hj => ?_⟩
  obtain ⟨ho, hk⟩ := hone_of hone j f hj
  have hjl : j < fs.size := (Array.getElem?_eq_some_iff.1 hj).1
  have hcell := hat j hjl
  have hv : cs'[j]? = some (cs'[j]'(by omega)) := List.getElem?_eq_getElem (by omega)
  have h1 := hf j f hj
  rw [ho, hk] at h1
  have hone' : (cs'.drop j).take 1 = [cs'[j]'(by omega)] := by
   rw [List.drop_eq_getElem_cons (by omega)]
   rfl
  rw [hone'] at h1
  have hys : ys[j]? = some (ys[j]'(by omega)) := List.getElem?_eq_getElem (by omega)
  refine ⟨_, _, ?_, h1.trans hys⟩
  rw [← Go.Deep.add_add, hcell, hv]
end
structure Act6 where
 kind : Int
 d : Int
 t : Int
 n : Int
 a : ByteArray
 b : ByteArray
instance : Inhabited Act6 := ⟨⟨0, 0, 0, 0, ⟨#[]⟩, ⟨#[]⟩⟩⟩
theorem spot_none {w : World} {a : Addr} {v : Value} (h : w.cell? (a.add 0) = some v) : ∃ b off, a = ⟨b, off, none⟩ ∧ b < w.heap.size := by
 obtain ⟨b, off, spot⟩ := a
 have hs : spot = none := by simpa [Addr.add] using World.cell?_spot h
 subst hs
 exact ⟨b, off, rfl, World.block_lt_of_cell? w _ h⟩
theorem law_post {H : Type} {enc : TypeId × Value → H} {P : Program} {f : Func} {s : ChangeSpec} {apart fresh handsOn : Bool} {W W' : World} {args : Array Value} {v : Value} {ds gs : List (DataW H)} {before pa pv : List MemPlace}
  (hW : DataW.Whole enc P f.params.toList s.vars apart W args.toList ds gs before)
  (hres : ∀ (b : Nat) (sp : Nat → Bool) (hd : Bool), DataW.TrodAll enc P W' b sp hd f.resultTypes.toList (v.resultList f.resultTypes.size) (s.fn H (ds ++ gs)).results [])
  (hargs : ∀ sp : Nat → Bool, (∀ p ∈ before, sp p.block = true) → DataW.TrodAll enc P W' 0 sp true f.params.toList args.toList (s.fn H (ds ++ gs)).args pa)
  (hvars : ∀ sp : Nat → Bool, (∀ p ∈ before, sp p.block = true) → DataW.TrodVars enc P W' sp s.vars (s.fn H (ds ++ gs)).vars pv)
  (hps : before = pa ++ pv) (hb : Below W.heap.size W W')
  (_hok : ∀ (j : Nat) (t : TypeId) (r : Value), f.resultTypes[j]? = some t → (v.resultList f.resultTypes.size)[j]? = some r → Value.okWide P W' .any 0 t r) :
  s.post enc P f apart fresh handsOn false W args v W' := by
 have hlt : ∀ p ∈ before, p.block < W.heap.size := fun p hp => hW.lt p hp
 have hold : ∀ p ∈ before, (fun b => decide (b < W.heap.size)) p.block = true := fun p hp => by simpa using hlt p hp
 refine ⟨ds, gs, before, [], pa, pv, hW, hres _ _ _, hargs _ hold, hvars _ hold, World.keptBut_mono (fun p hp => ⟨hp, ?_⟩) (hb.frame (· ∈ before)), fun h => by cases h⟩
 rw [hps, List.mem_append] at hp
 exact Or.inr hp
theorem arg_stays {H : Type} {enc : TypeId × Value → H} {W W' : World} {v : Value} {d : DataW H} {ps before : List MemPlace} {sp : Nat → Bool}
  (h : DataW.Trod enc Tryz.prog W 0 (fun _ => true) true 22 v d ps) (hb : Below W.heap.size W W') (hsub : ∀ x ∈ ps, x ∈ before) (hlt : ∀ x ∈ before, x.block < W.heap.size) (hsp : ∀ x ∈ before, sp x.block = true) (hlaid : laidOutB Tryz.prog = true) :
  DataW.Trod enc Tryz.prog W' 0 sp true 22 v d ps :=
 WideElems.Trod_stays hlaid (by kernel_rfl) (of_decide_eq_true (by kernel_rfl)) h (fun x hx => hb.same (hlt x (hsub x hx))) (fun x hx => hsp x (hsub x hx))
end Go.Proofs.YtpmpbmjjlccbbaaGreat.cb
namespace Go.Proofs.YtpmpbmjjlccbbaaGreat.cb
open Go.RowKit Go.Deep
open br
open bl (Pq)
theorem m_kind (P : Nat) (w : World) : (method 387 26 (Pq P) "Kind").run Tryz.prog w = .ok (132, Pq P) w := by kernel_rfl
theorem m_get (P : Nat) (w : World) : (method 387 26 (Pq P) "Get").run Tryz.prog w = .ok (136, Pq P) w := by kernel_rfl
theorem m_target (P : Nat) (w : World) : (method 387 26 (Pq P) "Target").run Tryz.prog w = .ok (50, Pq P) w := by kernel_rfl
theorem m_parent (P : Nat) (w : World) : (method 387 26 (Pq P) "Parent").run Tryz.prog w = .ok (251, Pq P) w := by kernel_rfl
theorem n_get (P : Nat) (w : World) : (nilAhead 387 26 (Pq P) "Get").run Tryz.prog w = .ok (some false) w := by kernel_rfl
theorem cell_row {w : World} {B j : Nat} {vs : Array Value} {t : TypeId} {m : Nat × Nat} (h : w.heap[B]? = some (.cells vs t m)) : w.cell? ⟨B, j, none⟩ = vs[j]? := by simp [World.cell?, h]
theorem results_row_tmp {fn : Func} {p u : Tmp} {ty : TypeId} (h : fn.results = #[.cell p ty, .tmp u]) (tmps : Array Value) (w : World) (b : Nat) (cs : List Value) (d : TypeDesc)
  (hp : tmps.getD p undef = .pointer (some ⟨b, 0, none⟩)) (hc : w.rangeAt b 0 cs) (hu : Tryz.prog.underlying ty = some d) (hd : d.isRow = true) (hi : (Tryz.prog.info? ty).map (·.size) = some cs.length) :
  (results fn tmps).run Tryz.prog w = .ok (.tuple #[.agg cs.toArray, tmps.getD u undef]) w := by
 rw [results_cell_tmp h, hp]
 simp only [asAddr, Sem.run_pure, Result.andThen_ok, run_loadVar_mid w b 0 ty cs d hc hu hd hi]
theorem range3 {w : World} {b : Nat} {x y z : Value} (h0 : w.cell? ⟨b, 0, none⟩ = some x) (h1 : w.cell? ⟨b, 1, none⟩ = some y) (h2 : w.cell? ⟨b, 2, none⟩ = some z) : w.rangeAt b 0 [x, y, z] := by
 intro j v hv
 rw [Nat.zero_add]
 match j, hv with
 | 0, hv => cases hv; exact h0
 | 1, hv => cases hv; exact h1
 | 2, hv => cases hv; exact h2
 | j + 3, hv => simp at hv
theorem box_set3 {w w3 : World} {B : Nat} (hB : w.heap.size ≤ B) {t : TypeId} {u0 u1 u2 : Value} {m : Nat × Nat} (hr : w3.heap[B]? = some (.cells #[u0, u1, u2] t m)) (hb : Below w.heap.size w w3) (x y z : Value) :
  (((w3.setCell ⟨B, 0, none⟩ x).setCell ⟨B, 1, none⟩ y).setCell ⟨B, 2, none⟩ z).rangeAt B 0 [x, y, z] ∧ Below w.heap.size w (((w3.setCell ⟨B, 0, none⟩ x).setCell ⟨B, 1, none⟩ y).setCell ⟨B, 2, none⟩ z) := by
 have c0 : (w3.cell? ⟨B, 0, none⟩).isSome = true := by rw [cell_row hr]; rfl
 have c1 : (w3.cell? ⟨B, 1, none⟩).isSome = true := by rw [cell_row hr]; rfl
 have c2 : (w3.cell? ⟨B, 2, none⟩).isSome = true := by rw [cell_row hr]; rfl
 have ne : ∀ i j : Nat, i ≠ j → (⟨B, j, none⟩ : Addr) ≠ ⟨B, i, none⟩ := fun i j h e => by injection e with _ e; exact h e.symm
 refine ⟨range3 ?_ ?_ ?_, ((hb.setCell (show _ ≤ (⟨B, 0, none⟩ : Addr).block from hB) x).setCell (show _ ≤ (⟨B, 1, none⟩ : Addr).block from hB) y).setCell (show _ ≤ (⟨B, 2, none⟩ : Addr).block from hB) z⟩
 ·rw [World.cell?_setCell_other _ _ _ _ (ne 0 2 (by decide)), World.cell?_setCell_other _ _ _ _ (ne 0 1 (by decide))]
  exact World.cell?_setCell_same' _ _ _ c0
 ·rw [World.cell?_setCell_other _ _ _ _ (ne 1 2 (by decide))]
  exact World.cell?_setCell_same' _ _ _ (by rw [World.cell?_setCell_other _ _ _ _ (ne 1 0 (by decide))]; exact c1)
 ·exact World.cell?_setCell_same' _ _ _ (by rw [World.cell?_setCell_other _ _ _ _ (ne 2 1 (by decide)), World.cell?_setCell_other _ _ _ _ (ne 2 0 (by decide))]; exact c2)
def lookR (a : Int) (n : ByteArray) (last : Bool) (g : Int × Int) : (Int × ByteArray × Int) × Int :=
 if g.2 = 0 then ((a, n, g.1), 0) else if g.2 = 2 ∧ last = true then ((a, n, 0), 2) else ((0, ⟨#[]⟩, 0), g.2)
def FoundV (r : (Int × ByteArray × Int) × Int) : Value := .tuple #[.agg #[.int .i64 r.1.1, .string r.1.2.1, .int .i64 r.1.2.2], .int .i64 r.2]
theorem look_any {w : World} {P : Nat} {a : Int} {n : ByteArray} {g : Int × Int} (last : Bool) (hg : ∀ w2, Below w.heap.size w w2 → Calls Tryz.prog 136 #[Pq P, .int .i64 a, .string n] w2 (RetW w2 (.tuple #[.int .i64 g.1, .int .i64 g.2]))) :
  Calls Tryz.prog 207 #[.func (.method "Get") #[.iface 26 (Pq P)] #[], .int .i64 a, .string n, .bool last] w (RetW w (FoundV (lookR a n last g))) := by
 have hm := m_get P
 have HG := Lib.hid (hg _ (dn.below_alloc w (.cells #[.int .i64 0, .string ⟨#[]⟩, .int .i64 0] 212)))
 have HB0 := Lib.hid (dn.below_alloc w (.cells #[.int .i64 0, .string ⟨#[]⟩, .int .i64 0] 212))
 clear hg
 obtain ⟨i, e⟩ := g
 unfold RetW at HG ⊢
 dsimp only at HG
 obtain ⟨r, hr⟩ : ∃ r, lookR a n last (i, e) = r := ⟨_, rfl⟩
 have HR := Lib.hid hr
 rw [hr]
 unfold lookR at hr
 dsimp only at hr
 obtain ⟨B, hB⟩ : ∃ B, w.heap.size = B := ⟨_, rfl⟩
 obtain ⟨w1, hw1⟩ : ∃ w1, w.alloc (.cells #[.int .i64 0, .string ⟨#[]⟩, .int .i64 0] 212) = w1 := ⟨_, rfl⟩
 have hrow : w1.heap[B]? = some (.cells #[.int .i64 0, .string ⟨#[]⟩, .int .i64 0] 212 (0, 0)) := by rw [← hw1, ← hB]; exact heap_alloc_new w _
 have hBl : B < w1.heap.size := by rw [← hw1, ← hB, World.size_alloc]; omega
 rw [hw1] at HG HB0
 by_cases h0 : e = 0
 ·subst h0
  rw [if_pos rfl] at hr
  subst hr
  go_enter Tryz.func207, Tryz.ntmps207
  go_wp2_with fail
  refine HG.out.mono ?_
  rintro _ w3 ⟨rfl, hb3⟩
  have hr3 := (hb3.block B hBl).trans hrow
  have HS := Lib.hid (fun x y z => box_set3 (by omega) hr3 (dn.below_step HB0.out hb3) x y z)
  have c0 : w3.cell? ⟨B, 0, none⟩ = some (.int .i64 0) := by rw [cell_row hr3]; rfl
  have c1 : w3.cell? ⟨B, 1, none⟩ = some (.string ⟨#[]⟩) := by rw [cell_row hr3]; rfl
  have c2 : w3.cell? ⟨B, 2, none⟩ = some (.int .i64 0) := by rw [cell_row hr3]; rfl
  have fz : ∀ j, w3.frozen? ⟨B, j, none⟩ = false := fun j => by simp [World.frozen?, hr3]
  have f0 := fz 0
  have f1 := fz 1
  have f2 := fz 2
  clear hr3 fz hb3
  go_wp2_with fail
  obtain ⟨hx, hy⟩ := HS.out _ _ _
  refine bodyPost_ret (results_row_tmp rfl _ _ B _ _ rfl hx Tryz.underlying212 (by rfl) (by rfl)) rfl ?_
  exact ⟨rfl, hy⟩
 rw [if_neg h0] at hr
 have q0 : (e == 0) = false := by simpa using h0
 by_cases h2 : e = 2
 ·subst h2
  cases last
  ·rw [if_neg (by simp)] at hr
   subst hr
   go_enter Tryz.func207, Tryz.ntmps207
   go_wp2_with fail
   refine HG.out.mono ?_
   rintro _ w3 ⟨rfl, hb3⟩
   have hr3 := (hb3.block B hBl).trans hrow
   have HS := Lib.hid (fun x y z => box_set3 (by omega) hr3 (dn.below_step HB0.out hb3) x y z)
   have c0 : w3.cell? ⟨B, 0, none⟩ = some (.int .i64 0) := by rw [cell_row hr3]; rfl
   have c1 : w3.cell? ⟨B, 1, none⟩ = some (.string ⟨#[]⟩) := by rw [cell_row hr3]; rfl
   have c2 : w3.cell? ⟨B, 2, none⟩ = some (.int .i64 0) := by rw [cell_row hr3]; rfl
   have fz : ∀ j, w3.frozen? ⟨B, j, none⟩ = false := fun j => by simp [World.frozen?, hr3]
   have f0 := fz 0
   have f1 := fz 1
   have f2 := fz 2
   clear hr3 fz hb3
   go_wp2_with fail
   obtain ⟨hx, hy⟩ := HS.out _ _ _
   refine bodyPost_ret (results_row_tmp rfl _ _ B _ _ rfl hx Tryz.underlying212 (by rfl) (by rfl)) rfl ?_
   exact ⟨rfl, hy⟩
  ·rw [if_pos (by simp)] at hr
   subst hr
   go_enter Tryz.func207, Tryz.ntmps207
   go_wp2_with fail
   refine HG.out.mono ?_
   rintro _ w3 ⟨rfl, hb3⟩
   have hr3 := (hb3.block B hBl).trans hrow
   have HS := Lib.hid (fun x y z => box_set3 (by omega) hr3 (dn.below_step HB0.out hb3) x y z)
   have c0 : w3.cell? ⟨B, 0, none⟩ = some (.int .i64 0) := by rw [cell_row hr3]; rfl
   have c1 : w3.cell? ⟨B, 1, none⟩ = some (.string ⟨#[]⟩) := by rw [cell_row hr3]; rfl
   have c2 : w3.cell? ⟨B, 2, none⟩ = some (.int .i64 0) := by rw [cell_row hr3]; rfl
   have fz : ∀ j, w3.frozen? ⟨B, j, none⟩ = false := fun j => by simp [World.frozen?, hr3]
   have f0 := fz 0
   have f1 := fz 1
   have f2 := fz 2
   clear hr3 fz hb3
   go_wp2_with fail
   obtain ⟨hx, hy⟩ := HS.out _ _ _
   refine bodyPost_ret (results_row_tmp rfl _ _ B _ _ rfl hx Tryz.underlying212 (by rfl) (by rfl)) rfl ?_
   exact ⟨rfl, hy⟩
 ·rw [if_neg (fun h => h2 h.1)] at hr
  subst hr
  have q2 : (e == 2) = false := by simpa using h2
  clear h0 h2
  go_enter Tryz.func207, Tryz.ntmps207
  go_wp2_with fail
  refine HG.out.mono ?_
  rintro _ w3 ⟨rfl, hb3⟩
  have hr3 := (hb3.block B hBl).trans hrow
  have HS := Lib.hid (fun x y z => box_set3 (by omega) hr3 (dn.below_step HB0.out hb3) x y z)
  have c0 : w3.cell? ⟨B, 0, none⟩ = some (.int .i64 0) := by rw [cell_row hr3]; rfl
  have c1 : w3.cell? ⟨B, 1, none⟩ = some (.string ⟨#[]⟩) := by rw [cell_row hr3]; rfl
  have c2 : w3.cell? ⟨B, 2, none⟩ = some (.int .i64 0) := by rw [cell_row hr3]; rfl
  have fz : ∀ j, w3.frozen? ⟨B, j, none⟩ = false := fun j => by simp [World.frozen?, hr3]
  have f0 := fz 0
  have f1 := fz 1
  have f2 := fz 2
  clear hr3 fz hb3
  go_wp2_with fail
  obtain ⟨hx, hy⟩ := HS.out _ _ _
  refine bodyPost_ret (results_row_tmp rfl _ _ B _ _ rfl hx Tryz.underlying212 (by rfl) (by rfl)) rfl ?_
  exact ⟨rfl, hy⟩
end Go.Proofs.YtpmpbmjjlccbbaaGreat.cb
