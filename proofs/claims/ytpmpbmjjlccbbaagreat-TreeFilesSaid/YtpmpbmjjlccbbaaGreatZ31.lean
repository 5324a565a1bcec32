/- Part 31 of what is known of the program's functions and of the document's words: contracts, and the mathematics beneath them. -/
import Derived.Test.YtpmpbmjjlccbbaaGreatProg
import Derived.Test.YtpmpbmjjlccbbaaGreatZ30
import Derived.ProofKit
import Derived.ChangeSlices
import Derived.SliceStrings
import Derived.Deep.Slices
import Derived.Deep.Fields
import Derived.Lib.SmallJoins
import Derived.OpenShut
import Derived.ChangeSame
import Derived.Test.YtpmpbmjjlccbbaaGreatZ22
import Derived.Below
import Derived.Deep.MidRow
import Derived.Deep.RegionHeld3
import Derived.Deep.RegionWith
import Derived.Deep.QuietTactic
import Derived.BigQuiet
import Derived.Laws.ResultCell
import Derived.Lib.Hide
import Derived.IntWalk
set_option linter.unusedVariables false
set_option linter.unusedSimpArgs false
set_option maxRecDepth 100000
set_option maxHeartbeats 8000000
namespace Go.Proofs.YtpmpbmjjlccbbaaGreat.ds
open Go.ChangeShapes Go.WideShapes Go.ChangeAt Go.RowKit
open pa (Bs Sv Strs Own own_form info9 own_base)
abbrev No : Nat → Prop := fun _ => False
def Same (X : Nat → Prop) (w w' : World) : Prop := ∀ b, X b → w'.heap[b]? = w.heap[b]?
def TY (w0 w : World) (P : Nat) (X : Nat → Prop) (T : Tb) : Prop := ∃ tg, TbX w0 w P tg T ∧ ∀ b, X b → b < w.heap.size ∧ tg b = 0
section
variable {w0 w w' : World} {P : Nat} {X Y : Nat → Prop} {T : Tb}
theorem TY.over (h : TY w0 w P X T) (hb : Below w.heap.size w w') : TY w0 w' P (fun b => X b ∨ (w.heap.size ≤ b ∧ b < w'.heap.size)) T := by
 obtain ⟨tg, h, hx⟩ := h
 refine ⟨tg, h.below hb, fun b hb2 => ?_⟩
 rcases hb2 with h1 | ⟨h1, h2⟩
 ·exact ⟨Nat.lt_of_lt_of_le (hx b h1).1 hb.size, (hx b h1).2⟩
 ·refine ⟨h2, Classical.byContradiction fun e => ?_⟩
  have := (h.own b e).2
  omega
end
structure DA (w : World) (A : Option Addr) (n c : Nat) (d : De) : Prop where
 len : n = d.ns.length
 cap : n ≤ c ∧ c ≤ maxLen
 st : Strs w w.heap.size A d.ns
section
variable {w0 w : World} {P n c : Nat} {A : Option Addr} {X : Nat → Prop} {T : Tb} {d : De}
theorem y_new (hb : Below w0.heap.size w0 w) : Calls Tryz.prog 24 #[] w (fun e w' => e = .returned (Pq w.heap.size) ∧ TY w0 w' w.heap.size (fun b => b < w.heap.size) em ∧ Below w.heap.size w w') :=
 (new_any w).mono fun _ _ ⟨tg, he, h1, h2, h3⟩ => ⟨he, ⟨tg, h1 w0 hb, fun b hb2 => ⟨Nat.lt_of_lt_of_le hb2 h2.size, Classical.byContradiction fun e => by have := h3 b e; omega⟩⟩, h2⟩
end
structure Act7 where
 kind : Int
 fd : Int
 A : Option Addr
 n : Nat
 c : Nat
 d : De
instance : Inhabited Act7 := ⟨⟨0, 0, none, 0, 0, dz⟩⟩
theorem spot_none {w : World} {a : Addr} {v : Value} (h : w.cell? (a.add 0) = some v) : ∃ b off, a = ⟨b, off, none⟩ ∧ b < w.heap.size := by
 obtain ⟨b, off, sp⟩ := a
 have hs : sp = none := by simpa [Addr.add] using World.cell?_spot h
 subst hs
 exact ⟨b, off, rfl, World.block_lt_of_cell? w _ h⟩
theorem law_post {H : Type} {enc : TypeId × Value → H} {P : Program} {f : Func} {s : ChangeSpec} {apart fresh handsOn : Bool} {W W' : World} {args : Array Value} {v : Value} {ds gs : List (DataW H)} {before pa pv : List MemPlace}
  (hW : DataW.Whole enc P f.params.toList s.vars apart W args.toList ds gs before)
  (hres : ∀ (b : Nat) (sp : Nat → Bool) (hd : Bool), DataW.TrodAll enc P W' b sp hd f.resultTypes.toList (v.resultList f.resultTypes.size) (s.fn H (ds ++ gs)).results [])
  (hargs : ∀ sp : Nat → Bool, (∀ p ∈ before, sp p.block = true) → DataW.TrodAll enc P W' 0 sp true f.params.toList args.toList (s.fn H (ds ++ gs)).args pa)
  (hvars : ∀ sp : Nat → Bool, (∀ p ∈ before, sp p.block = true) → DataW.TrodVars enc P W' sp s.vars (s.fn H (ds ++ gs)).vars pv)
  (hps : before = pa ++ pv) (hb : Below W.heap.size W W')
  (_hok : ∀ (j : Nat) (t : TypeId) (r : Value), f.resultTypes[j]? = some t → (v.resultList f.resultTypes.size)[j]? = some r → Value.okWide P W' .any 0 t r) :
  s.post enc P f apart fresh handsOn false W args v W' := by
 have hlt : ∀ p ∈ before, p.block < W.heap.size := fun p hp => hW.lt p hp
 have hold : ∀ p ∈ before, (fun b => decide (b < W.heap.size)) p.block = true := fun p hp => by simpa using hlt p hp
 refine ⟨ds, gs, before, [], pa, pv, hW, hres _ _ _, hargs _ hold, hvars _ hold, World.keptBut_mono (fun p hp => ⟨hp, ?_⟩) (hb.frame (· ∈ before)), fun h => by cases h⟩
 rw [hps, List.mem_append] at hp
 exact Or.inr hp
end Go.Proofs.YtpmpbmjjlccbbaaGreat.ds
namespace Go.Proofs.YtpmpbmjjlccbbaaGreat.tr
open Go.RowKit
theorem row_cell {w : World} {B j : Nat} {vs : Array Value} {t : TypeId} {m : Nat × Nat} (h : w.heap[B]? = some (.cells vs t m)) : w.cell? ⟨B, j, none⟩ = vs[j]? := by simp [World.cell?, h]
theorem bel_alloc (w : World) (o : Obj) : Below w.heap.size w (w.alloc o) := (Below.refl _ _).alloc (Nat.le_refl _) _
theorem bel_step {w0 w w' : World} (h : Below w0.heap.size w0 w) (hb : Below w.heap.size w w') : Below w0.heap.size w0 w' := h.trans (hb.mono h.size)
structure Rw (w : World) (b : Nat) (vs : List Value) : Prop where
 lt : b < w.heap.size
 c : ∀ j v, vs[j]? = some v → w.cell? ⟨b, j, none⟩ = some v
 z : ∀ j, w.frozen? ⟨b, j, none⟩ = false
theorem Rw.range {w : World} {b : Nat} {vs : List Value} (h : Rw w b vs) : w.rangeAt b 0 vs := fun j v hv => by rw [Nat.zero_add]; exact h.c j v hv
theorem Rw.same {w w' : World} {b : Nat} {vs : List Value} (h : Rw w b vs) (hs : w'.heap[b]? = w.heap[b]?) (hl : b < w'.heap.size) : Rw w' b vs :=
 ⟨hl, fun j v hv => (World.cell?_of_block (a := ⟨b, j, none⟩) hs).trans (h.c j v hv), fun j => (World.frozen?_of_block (a := ⟨b, j, none⟩) hs).trans (h.z j)⟩
theorem Rw.below {w w' : World} {b : Nat} {vs : List Value} (h : Rw w b vs) (hb : Below w.heap.size w w') : Rw w' b vs := h.same (hb.block b h.lt) (Nat.lt_of_lt_of_le h.lt hb.size)
theorem Rw.new (w : World) (vs : List Value) (t : TypeId) : Rw (w.alloc (.cells vs.toArray t)) w.heap.size vs := by
 have hr : (w.alloc (.cells vs.toArray t)).heap[w.heap.size]? = some (.cells vs.toArray t (0, 0)) := heap_alloc_new w _
 exact ⟨by rw [World.size_alloc]; omega, fun j v hv => by rw [row_cell hr, List.getElem?_toArray]; exact hv, fun j => by rw [World.frozen?, hr]; simp⟩
theorem Rw.set {w : World} {b i : Nat} {vs : List Value} (h : Rw w b vs) (hi : i < vs.length) (x : Value) : Rw (w.setCell ⟨b, i, none⟩ x) b (vs.set i x) := by
 refine ⟨by have := h.lt; simpa [World.setCell] using this, fun j v hv => ?_, fun j => by rw [World.frozen?_setCell]; exact h.z j⟩
 by_cases e : i = j
 ·subst e
  rw [List.getElem?_set_self hi] at hv
  injection hv with hv
  subst hv
  exact World.cell?_setCell_same' _ _ _ (by rw [h.c i _ (List.getElem?_eq_getElem hi)]; rfl)
 ·rw [List.getElem?_set_ne e] at hv
  rw [World.cell?_setCell_other _ _ _ _ (by intro e2; injection e2 with _ e2; exact e e2)]
  exact h.c j v hv
theorem bel_set {w0 w : World} {b i : Nat} (h : Below w0.heap.size w0 w) (hb : w0.heap.size ≤ b) (x : Value) : Below w0.heap.size w0 (w.setCell ⟨b, i, none⟩ x) := h.setCell (show _ ≤ (⟨b, i, none⟩ : Addr).block from hb) x
theorem results_cell1 {fn : Func} {p : Tmp} {ty : TypeId} (h : fn.results = #[.cell p ty]) (tmps : Array Value) (w : World) (b : Nat) (cs : List Value) (d : TypeDesc)
  (hp : tmps.getD p undef = .pointer (some ⟨b, 0, none⟩)) (hc : w.rangeAt b 0 cs) (hu : Tryz.prog.underlying ty = some d) (hd : d.isRow = true) (hi : (Tryz.prog.info? ty).map (·.size) = some cs.length) :
  (results fn tmps).run Tryz.prog w = .ok (.agg cs.toArray) w := by
 rw [Array.getD_eq_getD_getElem?] at hp
 simp only [results, h]
 simp [Sem.run_bind, hp, asAddr, run_loadVar_mid w b 0 ty cs d hc hu hd hi]
theorem results_cell2 {fn : Func} {p u : Tmp} {ty : TypeId} (h : fn.results = #[.cell p ty, .tmp u]) (tmps : Array Value) (w : World) (b : Nat) (cs : List Value) (d : TypeDesc)
  (hp : tmps.getD p undef = .pointer (some ⟨b, 0, none⟩)) (hc : w.rangeAt b 0 cs) (hu : Tryz.prog.underlying ty = some d) (hd : d.isRow = true) (hi : (Tryz.prog.info? ty).map (·.size) = some cs.length) :
  (results fn tmps).run Tryz.prog w = .ok (.tuple #[.agg cs.toArray, tmps.getD u undef]) w := by
 rw [results_cell_tmp h, hp]
 simp only [asAddr, Sem.run_pure, Result.andThen_ok, run_loadVar_mid w b 0 ty cs d hc hu hd hi]
theorem set6 {w0 w : World} {b : Nat} {u0 u1 u2 u3 u4 u5 : Value} (h : Rw w b [u0, u1, u2, u3, u4, u5]) (hb : Below w0.heap.size w0 w) (hl : w0.heap.size ≤ b) (v0 v1 v2 v3 v4 v5 : Value) :
  Rw ((((((w.setCell ⟨b, 0, none⟩ v0).setCell ⟨b, 1, none⟩ v1).setCell ⟨b, 2, none⟩ v2).setCell ⟨b, 3, none⟩ v3).setCell ⟨b, 4, none⟩ v4).setCell ⟨b, 5, none⟩ v5) b [v0, v1, v2, v3, v4, v5] ∧
  Below w0.heap.size w0 ((((((w.setCell ⟨b, 0, none⟩ v0).setCell ⟨b, 1, none⟩ v1).setCell ⟨b, 2, none⟩ v2).setCell ⟨b, 3, none⟩ v3).setCell ⟨b, 4, none⟩ v4).setCell ⟨b, 5, none⟩ v5) :=
 ⟨(((((h.set (i := 0) (by simp) v0).set (i := 1) (by simp) v1).set (i := 2) (by simp) v2).set (i := 3) (by simp) v3).set (i := 4) (by simp) v4).set (i := 5) (by simp) v5,
  bel_set (bel_set (bel_set (bel_set (bel_set (bel_set hb hl _) hl _) hl _) hl _) hl _) hl _⟩
theorem set3 {w0 w : World} {b : Nat} {u0 u1 u2 : Value} (h : Rw w b [u0, u1, u2]) (hb : Below w0.heap.size w0 w) (hl : w0.heap.size ≤ b) (v0 v1 v2 : Value) :
  Rw (((w.setCell ⟨b, 0, none⟩ v0).setCell ⟨b, 1, none⟩ v1).setCell ⟨b, 2, none⟩ v2) b [v0, v1, v2] ∧ Below w0.heap.size w0 (((w.setCell ⟨b, 0, none⟩ v0).setCell ⟨b, 1, none⟩ v1).setCell ⟨b, 2, none⟩ v2) :=
 ⟨((h.set (i := 0) (by simp) v0).set (i := 1) (by simp) v1).set (i := 2) (by simp) v2, bel_set (bel_set (bel_set hb hl _) hl _) hl _⟩
abbrev RL (e n : Int) (s : ByteArray) (k z l : Int) : List Value := [.int .i64 e, .int .i64 n, .string s, .int .i64 k, .int .i64 z, .int .i64 l]
abbrev RV (e n : Int) (s : ByteArray) (k z l : Int) : Value := .agg #[.int .i64 e, .int .i64 n, .string s, .int .i64 k, .int .i64 z, .int .i64 l]
def FailE (w : World) (x : Int) (e : Ending) (w' : World) : Prop := e = .returned (RV x 0 ⟨#[]⟩ 0 0 0) ∧ Below w.heap.size w w'
theorem failed_any (x : Int) (w : World) : Calls Tryz.prog 30 #[.int .i64 x] w (FailE w x) := by
 go_enter Tryz.func30, Tryz.ntmps30
 go_wp2_with fail
 exact bodyPost_ret (results_cell1 rfl _ _ w.heap.size (RL x 0 ⟨#[]⟩ 0 0 0) _ rfl (Rw.new w (RL x 0 ⟨#[]⟩ 0 0 0) 39).range Tryz.underlying39 (by rfl) (by rfl)) rfl ⟨rfl, bel_alloc w _⟩
theorem Rw.six {w : World} {b : Nat} {v0 v1 v2 v3 v4 v5 : Value} (h : Rw w b [v0, v1, v2, v3, v4, v5]) :
  w.cell? ⟨b, 0, none⟩ = some v0 ∧ w.cell? ⟨b, 1, none⟩ = some v1 ∧ w.cell? ⟨b, 2, none⟩ = some v2 ∧ w.cell? ⟨b, 3, none⟩ = some v3 ∧ w.cell? ⟨b, 4, none⟩ = some v4 ∧ w.cell? ⟨b, 5, none⟩ = some v5 :=
 ⟨h.c 0 _ rfl, h.c 1 _ rfl, h.c 2 _ rfl, h.c 3 _ rfl, h.c 4 _ rfl, h.c 5 _ rfl⟩
theorem Rw.three {w : World} {b : Nat} {v0 v1 v2 : Value} (h : Rw w b [v0, v1, v2]) : w.cell? ⟨b, 0, none⟩ = some v0 ∧ w.cell? ⟨b, 1, none⟩ = some v1 ∧ w.cell? ⟨b, 2, none⟩ = some v2 :=
 ⟨h.c 0 _ rfl, h.c 1 _ rfl, h.c 2 _ rfl⟩
theorem Rw.two {w : World} {b : Nat} {v0 v1 : Value} (h : Rw w b [v0, v1]) : w.cell? ⟨b, 0, none⟩ = some v0 ∧ w.cell? ⟨b, 1, none⟩ = some v1 := ⟨h.c 0 _ rfl, h.c 1 _ rfl⟩
theorem Rw.seven {w : World} {b : Nat} {v0 v1 v2 v3 v4 v5 v6 : Value} (h : Rw w b [v0, v1, v2, v3, v4, v5, v6]) :
  w.cell? ⟨b, 0, none⟩ = some v0 ∧ w.cell? ⟨b, 1, none⟩ = some v1 ∧ w.cell? ⟨b, 2, none⟩ = some v2 ∧ w.cell? ⟨b, 3, none⟩ = some v3 ∧ w.cell? ⟨b, 4, none⟩ = some v4 ∧ w.cell? ⟨b, 5, none⟩ = some v5 ∧ w.cell? ⟨b, 6, none⟩ = some v6 :=
 ⟨h.c 0 _ rfl, h.c 1 _ rfl, h.c 2 _ rfl, h.c 3 _ rfl, h.c 4 _ rfl, h.c 5 _ rfl, h.c 6 _ rfl⟩
theorem Rw.z6 {w : World} {b : Nat} {vs : List Value} (h : Rw w b vs) : w.frozen? ⟨b, 0, none⟩ = false ∧ w.frozen? ⟨b, 1, none⟩ = false ∧ w.frozen? ⟨b, 2, none⟩ = false ∧ w.frozen? ⟨b, 3, none⟩ = false ∧ w.frozen? ⟨b, 4, none⟩ = false ∧ w.frozen? ⟨b, 5, none⟩ = false :=
 ⟨h.z 0, h.z 1, h.z 2, h.z 3, h.z 4, h.z 5⟩
def bit (f : Int) (k : Nat) : Bool := decide (f / (2 : Int) ^ k % 2 = 1)
theorem lsb (f : Int) (k : Nat) (hk : k < 64) : (BitVec.ofInt 64 f).getLsbD k = bit f k := by
 unfold bit
 rw [BitVec.getLsbD, BitVec.toNat_ofInt, Nat.testBit_eq_decide_div_mod_eq]
 have e : (((f % ((2 ^ 64 : Nat) : Int)).toNat / 2 ^ k % 2 : Nat) : Int) = f / (2 : Int) ^ k % 2 := by
  have h0 : 0 ≤ f % ((2 ^ 64 : Nat) : Int) := Int.emod_nonneg _ (by decide)
  rw [Int.natCast_emod, Int.natCast_ediv, Int.toNat_of_nonneg h0]
  have hd : ((2 ^ 64 : Nat) : Int) = (2 : Int) ^ k * ((2 : Int) * (2 : Int) ^ (63 - k)) := by
   rw [show (2 : Int) * (2 : Int) ^ (63 - k) = (2 : Int) ^ (64 - k) from by rw [show 64 - k = (63 - k) + 1 from by omega, Int.pow_succ, Int.mul_comm]]
   rw [← Int.pow_add, show k + (64 - k) = 64 from by omega]; rfl
  have hp : (0 : Int) < (2 : Int) ^ k := Int.pow_pos (by decide)
  have hc : (((2 ^ k : Nat)) : Int) = (2 : Int) ^ k := by simp
  rw [hc]
  have e1 : f % ((2 ^ 64 : Nat) : Int) = f - (2 : Int) ^ k * (((2 : Int) * (2 : Int) ^ (63 - k)) * (f / ((2 ^ 64 : Nat) : Int))) := by
   have := Int.emod_def f ((2 ^ 64 : Nat) : Int)
   rw [this]
   conv => lhs; rw [hd]
   rw [Int.mul_assoc, ← hd]
  rw [e1, Int.sub_mul_ediv_left _ _ (by omega), Int.mul_assoc]
  show (f / 2 ^ k - 2 * _) % 2 = _
  rw [Int.sub_mul_emod_self_left]
 have e2 : ((f % ((2 ^ 64 : Nat) : Int)).toNat / 2 ^ k % 2 = 1) ↔ (f / (2 : Int) ^ k % 2 = 1) := by omega
 exact decide_eq_decide.2 e2
theorem small_wrap {n : Nat} (h : n ≤ 1000) : IntKind.i64.wrap (n : Int) = (n : Int) := by
 exact IntWalk.i64_in _ (by omega)
theorem and_le (f : Int) (m : Nat) (hm : m ≤ 1000) : (BitVec.ofInt 64 f &&& BitVec.ofInt 64 (m : Int)).toNat ≤ m := by
 rw [BitVec.toNat_and]
 refine Nat.le_trans Nat.and_le_right ?_
 rw [BitVec.toNat_ofInt]; omega
theorem bits_and (f : Int) (m : Nat) (hm : m ≤ 1000) : bits BinOp.and IntKind.i64 f (m : Int) = ((BitVec.ofInt 64 f &&& BitVec.ofInt 64 (m : Int)).toNat : Int) :=
 small_wrap (Nat.le_trans (and_le f m hm) hm)
theorem and_zero (f : Int) (m : Nat) : (BitVec.ofInt 64 f &&& BitVec.ofInt 64 (m : Int)).toNat = 0 ↔ ∀ k, k < 64 → (BitVec.ofInt 64 (m : Int)).getLsbD k = true → bit f k = false := by
 constructor
 ·intro h k hk hb
  have : (BitVec.ofInt 64 f &&& BitVec.ofInt 64 (m : Int)) = 0#64 := BitVec.eq_of_toNat_eq (by rw [h]; rfl)
  have h2 := congrArg (fun b => b.getLsbD k) this
  simp only [BitVec.getLsbD_and, hb, Bool.and_true] at h2
  rw [← lsb f k hk, h2]; simp
 ·intro h
  have : (BitVec.ofInt 64 f &&& BitVec.ofInt 64 (m : Int)) = 0#64 := by
   apply BitVec.eq_of_getLsbD_eq
   intro k hk
   rw [BitVec.getLsbD_and, lsb f k hk]
   by_cases hb : (BitVec.ofInt 64 (m : Int)).getLsbD k = true
   ·rw [h k hk hb]; simp
   ·simp only [Bool.not_eq_true] at hb; rw [hb]; simp
  rw [this]; rfl
theorem one_and {f : Int} {m k : Nat} (hm : m ≤ 1000) (hk : k < 64) (h : ∀ j, j < 64 → ((BitVec.ofInt 64 (m : Int)).getLsbD j = true ↔ j = k)) : (bits BinOp.and IntKind.i64 f (m : Int) != 0) = bit f k := by
 rw [bits_and f m hm, Bool.eq_iff_iff]
 have h0 := and_zero f m
 rw [bne_iff_ne]
 constructor
 ·intro e
  refine Classical.byContradiction fun e2 => e ?_
  have : (BitVec.ofInt 64 f &&& BitVec.ofInt 64 (m : Int)).toNat = 0 := h0.2 fun j hj hb => by rw [(h j hj).1 hb]; simpa using e2
  rw [this]; rfl
 ·intro e e2
  have e3 : (BitVec.ofInt 64 f &&& BitVec.ofInt 64 (m : Int)).toNat = 0 := by omega
  have := h0.1 e3 k hk ((h k hk).2 rfl)
  rw [this] at e; cases e
theorem two_and {f : Int} {m k l : Nat} (hm : m ≤ 1000) (hk : k < 64) (hl : l < 64) (h : ∀ j, j < 64 → ((BitVec.ofInt 64 (m : Int)).getLsbD j = true ↔ j = k ∨ j = l)) : (bits BinOp.and IntKind.i64 f (m : Int) != 0) = (bit f k || bit f l) := by
 rw [bits_and f m hm, Bool.eq_iff_iff]
 have h0 := and_zero f m
 rw [bne_iff_ne, Bool.or_eq_true]
 constructor
 ·intro e
  refine Classical.byContradiction fun e2 => e ?_
  have : (BitVec.ofInt 64 f &&& BitVec.ofInt 64 (m : Int)).toNat = 0 := h0.2 fun j hj hb => by
   rcases (h j hj).1 hb with rfl | rfl
   ·exact Bool.eq_false_iff.2 fun e3 => e2 (.inl e3)
   ·exact Bool.eq_false_iff.2 fun e3 => e2 (.inr e3)
  rw [this]; rfl
 ·intro e e2
  have e3 : (BitVec.ofInt 64 f &&& BitVec.ofInt 64 (m : Int)).toNat = 0 := by omega
  rcases e with e | e
  ·have := h0.1 e3 k hk ((h k hk).2 (.inl rfl)); rw [this] at e; cases e
  ·have := h0.1 e3 l hl ((h l hl).2 (.inr rfl)); rw [this] at e; cases e
theorem bit_0 (f : Int) : (bits BinOp.and IntKind.i64 f 1 != 0) = bit f 0 := one_and (m := 1) (by decide) (by decide) (by decide)
theorem bit_1 (f : Int) : (bits BinOp.and IntKind.i64 f 2 != 0) = bit f 1 := one_and (m := 2) (by decide) (by decide) (by decide)
theorem bit_2 (f : Int) : (bits BinOp.and IntKind.i64 f 4 != 0) = bit f 2 := one_and (m := 4) (by decide) (by decide) (by decide)
theorem bit_3 (f : Int) : (bits BinOp.and IntKind.i64 f 8 != 0) = bit f 3 := one_and (m := 8) (by decide) (by decide) (by decide)
theorem bit_4 (f : Int) : (bits BinOp.and IntKind.i64 f 16 != 0) = bit f 4 := one_and (m := 16) (by decide) (by decide) (by decide)
theorem bit_5 (f : Int) : (bits BinOp.and IntKind.i64 f 32 != 0) = bit f 5 := one_and (m := 32) (by decide) (by decide) (by decide)
theorem bit_01 (f : Int) : (bits BinOp.and IntKind.i64 f 3 != 0) = (bit f 0 || bit f 1) := two_and (m := 3) (by decide) (by decide) (by decide) (by decide)
theorem bit_45 (f : Int) : (bits BinOp.and IntKind.i64 f 48 != 0) = (bit f 4 || bit f 5) := two_and (m := 48) (by decide) (by decide) (by decide) (by decide)
theorem val_le (f : Int) (m : Nat) (hm : m ≤ 1000) : 0 ≤ bits BinOp.and IntKind.i64 f (m : Int) ∧ bits BinOp.and IntKind.i64 f (m : Int) ≤ m := by
 rw [bits_and f m hm]; have := and_le f m hm; omega
theorem ask_0 (f : Int) : (bits BinOp.and IntKind.i64 f 1 != 1) = !bit f 0 := by
 have h := bit_0 f
 rw [← h]
 have e : bits BinOp.and IntKind.i64 f 1 = bits BinOp.and IntKind.i64 f ((1 : Nat) : Int) := rfl
 have h3 := val_le f 1 (by decide)
 rw [← e] at h3
 generalize bits BinOp.and IntKind.i64 f 1 = y at *
 have : y = 0 ∨ y = 1 := by omega
 rcases this with rfl | rfl <;> rfl
theorem and_one {f : Int} : (bits BinOp.and IntKind.i64 f 2 != 2) = !bit f 1 := by
 have h := bit_1 f
 have h3 := val_le f 2 (by decide)
 have h4 : (BitVec.ofInt 64 f &&& BitVec.ofInt 64 ((2 : Nat) : Int)).getLsbD 0 = false := by rw [BitVec.getLsbD_and, show (BitVec.ofInt 64 ((2 : Nat) : Int)).getLsbD 0 = false from by decide]; simp
 have h5 : (BitVec.ofInt 64 f &&& BitVec.ofInt 64 ((2 : Nat) : Int)).toNat % 2 = 0 := by
  rw [BitVec.getLsbD, Nat.testBit_eq_decide_div_mod_eq] at h4
  have h6 := of_decide_eq_false h4
  rw [Nat.pow_zero, Nat.div_one] at h6; omega
 have e2 := bits_and f 2 (by decide)
 have e : bits BinOp.and IntKind.i64 f 2 = bits BinOp.and IntKind.i64 f ((2 : Nat) : Int) := rfl
 rw [← e] at h3 e2
 rw [← h]
 generalize bits BinOp.and IntKind.i64 f 2 = y at *
 have : y = 0 ∨ y = 2 := by omega
 rcases this with rfl | rfl <;> rfl
theorem ask_none (f : Int) : (bits BinOp.and IntKind.i64 f 0 != 0) = false := by
 have h3 := val_le f 0 (by decide)
 have e : bits BinOp.and IntKind.i64 f 0 = bits BinOp.and IntKind.i64 f ((0 : Nat) : Int) := rfl
 rw [← e] at h3
 generalize bits BinOp.and IntKind.i64 f 0 = y at *
 have : y = 0 := by omega
 subst this; rfl
def opensB (f : Int) : Bool := if (bit f 4 || bit f 5) = true then bit f 1 else (bit f 0 || bit f 1)
theorem opens_any (f : Int) (w : World) : Calls Tryz.prog 113 #[.int .i64 f] w (fun e w' => e = .returned (.bool (opensB f)) ∧ w' = w) := by
 have h1 := bit_45 f
 have h2 := bit_1 f
 have h3 := bit_01 f
 by_cases h : (bit f 4 || bit f 5) = true
 ·have HF := Lib.hid (show opensB f = bit f 1 by unfold opensB; rw [if_pos h])
  rw [h] at h1
  clear h h3
  go_enter Tryz.func113, Tryz.ntmps113
  go_wp2_with fail
  go_ret
  exact ⟨by rw [HF.out]; rfl, rfl⟩
 ·have h' : (bit f 4 || bit f 5) = false := by simpa using h
  have HF := Lib.hid (show opensB f = (bit f 0 || bit f 1) by unfold opensB; rw [if_neg h])
  rw [h'] at h1
  clear h h' h2
  go_enter Tryz.func113, Tryz.ntmps113
  go_wp2_with fail
  go_ret
  exact ⟨by rw [HF.out]; rfl, rfl⟩
end Go.Proofs.YtpmpbmjjlccbbaaGreat.tr
