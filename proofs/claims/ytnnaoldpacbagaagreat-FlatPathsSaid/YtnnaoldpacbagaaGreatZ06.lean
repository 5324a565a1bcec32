/- A body's chunks in memory: a map by number, each sixteen bytes. A body's bytes: what is taken from a chunk and put into one. A chunk is made where there is room; the end of a chunk is cleared. The small functions of the package, and those that tell. -/
import Derived.Test.YtnnaoldpacbagaaGreatRows
import Derived.WalkKit
import Derived.WalkSpells
import Derived.WalkLawsBesides
import Derived.Lib.Hide
import Derived.Below
import Derived.Deep.WholeRow
import Derived.Laws.CopyOwn
import Derived.MapKept
import Derived.Deep.LoopGhost
import Derived.Deep.DeepMust
import Derived.Deep.DeepFit
import Derived.Deep.QuietTactic
import Derived.BigQuiet
import Derived.Deep.DeepCutAuto
import Derived.OwnWalk
import Derived.LaidEqlPtr
import Derived.Laws.AppendOwn
section
namespace Go.Proofs.YtnnaoldpacbagaaGreat.bl
open Go.RowKit
set_option linter.unusedVariables false
set_option linter.unusedSimpArgs false


def U8 (x : UInt8) : Value := .int .u8 (x.toNat : Int)
def chunkL (dat : Nat → UInt8) (k : Nat) : List Value := (List.range 16).map fun j => U8 (dat (16 * k + j))
def chunkA (dat : Nat → UInt8) (k : Nat) : Array Value := (chunkL dat k).toArray
theorem chunkL_length (dat : Nat → UInt8) (k : Nat) : (chunkL dat k).length = 16 := by simp [chunkL]
theorem chunkA_size (dat : Nat → UInt8) (k : Nat) : (chunkA dat k).size = 16 := by simp [chunkA, chunkL_length]
theorem chunkA_one (dat : Nat → UInt8) (k : Nat) : (chunkA dat k).all (·.oneCell') = true := by
  rw [Array.all_eq_true']
  intro v hv
  simp only [chunkA, List.mem_toArray, chunkL, List.mem_map] at hv
  obtain ⟨j, _, rfl⟩ := hv
  rfl
theorem chunkL_get (dat : Nat → UInt8) (k j : Nat) (hj : j < 16) : (chunkL dat k)[j]? = some (U8 (dat (16 * k + j))) := by
  simp [chunkL, hj]
theorem chunkL_congr {dat dat' : Nat → UInt8} {k : Nat} (h : ∀ j, j < 16 → dat (16 * k + j) = dat' (16 * k + j)) : chunkL dat k = chunkL dat' k := by
  unfold chunkL
  refine List.map_congr_left fun j hj => ?_
  rw [h j (by simpa using hj)]
theorem chunkA_congr {dat dat' : Nat → UInt8} {k : Nat} (h : ∀ j, j < 16 → dat (16 * k + j) = dat' (16 * k + j)) : chunkA dat k = chunkA dat' k := by
  unfold chunkA; rw [chunkL_congr h]

def ent (dat : Nat → UInt8) (k : Nat) : Value × Value := (.int .i64 (k : Int), .agg (chunkA dat k))
def Ents (es : List MapEntry) (ks : List Nat) (dat : Nat → UInt8) : Prop := es.map (fun e => (e.key, e.val)) = ks.map (ent dat)
theorem find_none {dat : Nat → UInt8} {k : Nat} : ∀ {es : List MapEntry} {ks : List Nat} (i : Nat), Ents es ks dat → k ∉ ks → Instr.findNow (.int .i64) (.int .i64 (k : Int)) es i = some none
  | [], _, i, _, _ => rfl
  | e :: es, [], i, h, _ => by simp [Ents] at h
  | e :: es, x :: ks, i, h, hk => by
    simp only [Ents, List.map_cons, List.cons.injEq, ent, Prod.mk.injEq] at h
    obtain ⟨⟨h1, h2⟩, h3⟩ := h
    have hne : ((k : Int) == (x : Int)) = false := by
      simp only [List.mem_cons, not_or] at hk
      have := hk.1
      simp only [beq_eq_false_iff_ne, ne_eq]
      omega
    rw [Instr.findNow, h1]
    simp only [Instr.sameNow, if_true, hne]
    exact find_none (i + 1) h3 (by simp only [List.mem_cons, not_or] at hk; exact hk.2)
theorem find_some {dat : Nat → UInt8} {k : Nat} : ∀ {es : List MapEntry} {ks : List Nat} (i : Nat), Ents es ks dat → k ∈ ks →
    Instr.findNow (.int .i64) (.int .i64 (k : Int)) es i = some (some (i + ks.idxOf k, .agg (chunkA dat k)))
  | [], [], i, _, h => by simp at h
  | [], x :: ks, i, h, _ => by simp [Ents] at h
  | e :: es, [], i, h, _ => by simp [Ents] at h
  | e :: es, x :: ks, i, h, hk => by
    simp only [Ents, List.map_cons, List.cons.injEq, ent, Prod.mk.injEq] at h
    obtain ⟨⟨h1, h2⟩, h3⟩ := h
    rw [Instr.findNow, h1]
    by_cases e : k = x
    · subst e
      simp [Instr.sameNow, h2]
    · have hne : ((k : Int) == (x : Int)) = false := by simp only [beq_eq_false_iff_ne, ne_eq]; omega
      have hx : (x == k) = false := by simpa using fun h => e h.symm
      simp only [Instr.sameNow, if_true, hne]
      rw [find_some (i + 1) h3 (by simpa [e] using hk)]
      rw [List.idxOf_cons, hx]
      simp
      omega

/-- Block M is the map of the chunks: those of th are there, and hold the bytes dat; where none is, dat is 0. -/
def MapAt (w : World) (M : Nat) (th : Nat → Bool) (dat : Nat → UInt8) (n : Nat) : Prop :=
  ∃ (ks : List Nat) (es : Array MapEntry) (clock : Nat), w.heap[M]? = some (.map es clock) ∧ Ents es.toList ks dat ∧ ks.Nodup ∧ (∀ k, k ∈ ks ↔ th k = true) ∧ (∀ k, th k = false → ∀ j, j < 16 → dat (16 * k + j) = 0) ∧ ks.length = n
theorem MapAt.lt {w : World} {M n : Nat} {th : Nat → Bool} {dat : Nat → UInt8} (h : MapAt w M th dat n) : M < w.heap.size := by
  obtain ⟨ks, es, c, h, _⟩ := h
  exact (Array.getElem?_eq_some_iff.1 h).1
theorem MapAt.of_block {w w' : World} {M n : Nat} {th : Nat → Bool} {dat : Nat → UInt8} (h : MapAt w M th dat n) (hb : w'.heap[M]? = w.heap[M]?) : MapAt w' M th dat n := by
  obtain ⟨ks, es, c, h, r⟩ := h
  exact ⟨ks, es, c, hb.trans h, r⟩
theorem MapAt.holes {w : World} {M n : Nat} {th : Nat → Bool} {dat : Nat → UInt8} (h : MapAt w M th dat n) : ∀ k, th k = false → ∀ j, j < 16 → dat (16 * k + j) = 0 := by
  obtain ⟨ks, es, c, _, _, _, _, h, _⟩ := h; exact h

def zeroA : Array Value := chunkA (fun _ => 0) 0
set_option maxRecDepth 100000 in
theorem zero76 (w : World) : (zeroValue 249).run Tryz.prog w = .ok (.agg zeroA) w := by kernel_rfl
set_option maxRecDepth 100000 in
theorem check_int (b : Bool) (k : Int) (w : World) : (Instr.checkKey b 10000 3 (.int .i64 k)).run Tryz.prog w = .ok () w := by
  unfold Instr.checkKey
  simp [run_underlying Tryz.underlying3]
set_option maxRecDepth 100000 in
theorem same_int (k : Int) (w : World) : (Instr.keyThatStays (.int .i64 k) (.int .i64 k)).run Tryz.prog w = .ok (.int .i64 k) w := by
  unfold Instr.keyThatStays
  rw [show Instr.sameBits 10000 (.int .i64 k) (.int .i64 k) = true from by unfold Instr.sameBits; simp]
  rfl
set_option maxRecDepth 100000 in
theorem run_find {w : World} {es : List MapEntry} {ks : List Nat} {dat : Nat → UInt8} (h : Ents es ks dat) (k : Nat) :
    (Instr.findKey 3 (.int .i64 (k : Int)) es).run Tryz.prog w = .ok (if k ∈ ks then some (ks.idxOf k, .agg (chunkA dat k)) else none) w := by
  unfold Instr.findKey
  by_cases hk : k ∈ ks
  · simp [run_underlying Tryz.underlying3, find_some 0 h hk, hk]
  · simp [run_underlying Tryz.underlying3, find_none 0 h hk, hk]

theorem zero_chunk {th : Nat → Bool} {dat : Nat → UInt8} (hz : ∀ k, th k = false → ∀ j, j < 16 → dat (16 * k + j) = 0) {k : Nat} (hk : th k = false) : chunkA dat k = zeroA := by
  unfold zeroA chunkA chunkL
  congr 1
  refine List.map_congr_left fun j hj => ?_
  rw [hz k hk j (by simpa using hj)]
set_option maxRecDepth 100000 in
theorem MapAt.look {w : World} {M n : Nat} {th : Nat → Bool} {dat : Nat → UInt8} (h : MapAt w M th dat n) (k : Nat) (ok : Bool) :
    (Instr.lookup 217 (.map (some M)) (.int .i64 (k : Int)) ok).run Tryz.prog w = .ok (if ok then .tuple #[.agg (chunkA dat k), .bool (th k)] else .agg (chunkA dat k)) w := by
  obtain ⟨ks, es, c, hM, hE, hd, hm, hz, hn⟩ := h
  unfold Instr.lookup
  have hf := run_find (w := w) hE k
  by_cases hk : k ∈ ks
  · have ht := (hm k).1 hk
    simp only [if_pos hk] at hf
    simp [run_underlying Tryz.underlying217, MapKept.run_getObj_map hM, check_int, hf, ht]
  · have ht : th k = false := by
      cases e : th k
      · rfl
      · exact absurd ((hm k).2 e) hk
    simp only [if_neg hk] at hf
    simp [run_underlying Tryz.underlying217, MapKept.run_getObj_map hM, check_int, hf, ht, zero_chunk hz ht]
    cases ok <;> rfl

/-- Of the blocks that were there only those of F may have turned. -/
structure Only (F : Nat → Prop) (w w' : World) : Prop where
  os : w'.os = w.os
  tape : w'.tape = w.tape
  output : w'.output = w.output
  size : w.heap.size ≤ w'.heap.size
  block : ∀ k, k < w.heap.size → ¬ F k → w'.heap[k]? = w.heap[k]?
theorem Only.refl (F : Nat → Prop) (w : World) : Only F w w := ⟨rfl, rfl, rfl, Nat.le_refl _, fun _ _ _ => rfl⟩
theorem Only.trans {F : Nat → Prop} {a b c : World} (h : Only F a b) (k : Only F b c) : Only F a c :=
  ⟨k.os.trans h.os, k.tape.trans h.tape, k.output.trans h.output, Nat.le_trans h.size k.size, fun i hi hF => (k.block i (Nat.lt_of_lt_of_le hi h.size) hF).trans (h.block i hi hF)⟩
theorem Only.of_below {F : Nat → Prop} {w w' : World} (h : Below w.heap.size w w') : Only F w w' := ⟨h.os, h.tape, h.output, h.size, fun k hk _ => h.block k hk⟩
theorem Only.below {F : Nat → Prop} {w0 w w' : World} {B : Nat} (h : Only F w w') (hb : Below B w0 w) (hB : B ≤ w0.heap.size) (hF : ∀ k, F k → B ≤ k) : Below B w0 w' :=
  hb.trans ⟨h.os, h.tape, h.output, h.size, fun k hk => h.block k (Nat.lt_of_lt_of_le hk (Nat.le_trans hB hb.size)) fun hf => by have := hF k hf; omega⟩
theorem Only.mono {F G : Nat → Prop} {w w' : World} (h : Only F w w') (hFG : ∀ k, F k → G k) : Only G w w' := ⟨h.os, h.tape, h.output, h.size, fun k hk hg => h.block k hk fun hf => hg (hFG k hf)⟩
theorem Only.drew {F : Nat → Prop} {a w : World} (h : Only F a w) : Only F a w.drew := ⟨h.os, h.tape, h.output, h.size, h.block⟩
theorem Only.setCell {F : Nat → Prop} {a w : World} (h : Only F a w) {p : Addr} (hp : F p.block) (u : Value) : Only F a (w.setCell p u) :=
  h.trans ⟨rfl, rfl, rfl, by simp [World.setCell], fun k hk hf => Below.heap_setCell _ _ _ _ fun e => hf (e ▸ hp)⟩
theorem Only.alloc {F : Nat → Prop} {a w : World} (h : Only F a w) (o : Obj) : Only F a (w.alloc o) := h.trans (Only.of_below ((Below.refl _ _).alloc (Nat.le_refl _) _))

def mset (w : World) (M : Nat) (o : Obj) : World := { w with heap := w.heap.setIfInBounds M o }
theorem mset_only {w : World} {M : Nat} (o : Obj) : Only (· = M) w (mset w M o) :=
  ⟨rfl, rfl, rfl, by simp [mset], fun k hk hf => by show (w.heap.setIfInBounds M o)[k]? = _; rw [Array.getElem?_setIfInBounds, if_neg (fun e => hf e.symm)]⟩
theorem mset_at {w : World} {M : Nat} {o o' : Obj} (h : w.heap[M]? = some o) : (mset w M o').heap[M]? = some o' := by
  have := (Array.getElem?_eq_some_iff.1 h).1
  show (w.heap.setIfInBounds M o')[M]? = _
  simp [this]

def updB (f : Nat → Bool) (a : Nat) (b : Bool) : Nat → Bool := fun x => if x = a then b else f x
theorem ent_congr {dat dat' : Nat → UInt8} {x : Nat} (h : ∀ j, j < 16 → dat (16 * x + j) = dat' (16 * x + j)) : ent dat x = ent dat' x := by
  unfold ent; rw [chunkA_congr h]
theorem Ents.len {es : List MapEntry} {ks : List Nat} {dat : Nat → UInt8} (h : Ents es ks dat) : es.length = ks.length := by
  have := congrArg List.length h
  simpa using this
theorem Ents.push {es : List MapEntry} {ks : List Nat} {dat dat' : Nat → UInt8} {k b : Nat} (h : Ents es ks dat) (hk : k ∉ ks) (hd : ∀ i, i / 16 ≠ k → dat' i = dat i) :
    Ents (es ++ [{ key := .int .i64 (k : Int), val := .agg (chunkA dat' k), born := b }]) (ks ++ [k]) dat' := by
  unfold Ents at *
  rw [List.map_append, List.map_append, h]
  congr 1
  refine List.map_congr_left fun x hx => ?_
  have hne : x ≠ k := fun e => hk (e ▸ hx)
  exact ent_congr fun j hj => (hd _ (by omega)).symm
theorem Ents.set {dat dat' : Nat → UInt8} {k : Nat} (hd : ∀ i, i / 16 ≠ k → dat' i = dat i) : ∀ {es : List MapEntry} {ks : List Nat}, Ents es ks dat → ks.Nodup → k ∈ ks →
    Ents (es.modify (ks.idxOf k) fun e => { e with key := .int .i64 (k : Int), val := .agg (chunkA dat' k) }) ks dat'
  | [], [], _, _, h => by simp at h
  | [], x :: ks, h, _, _ => by simp [Ents] at h
  | e :: es, [], h, _, _ => by simp [Ents] at h
  | e :: es, x :: ks, h, hn, hk => by
    have hn' := List.nodup_cons.1 hn
    simp only [Ents, List.map_cons, List.cons.injEq] at h
    obtain ⟨h1, h3⟩ := h
    by_cases e' : k = x
    · subst e'
      simp only [List.idxOf_cons_self, List.modify_zero_cons, Ents, List.map_cons, List.cons.injEq]
      refine ⟨rfl, h3.trans (List.map_congr_left fun x hx => ?_)⟩
      have hne : x ≠ k := fun e => hn'.1 (e ▸ hx)
      exact ent_congr fun j hj => (hd _ (by omega)).symm
    · have hx : (x == k) = false := by simpa using fun h => e' h.symm
      have ih := Ents.set (es := es) hd h3 hn'.2 (by simpa [e'] using hk)
      rw [List.idxOf_cons, hx]
      simp only [cond_false, List.modify_succ_cons, Ents, List.map_cons, List.cons.injEq]
      refine ⟨h1.trans (ent_congr fun j hj => (hd _ (by omega)).symm), ih⟩
theorem Ents.key {es : List MapEntry} {ks : List Nat} {dat : Nat → UInt8} {k : Nat} (h : Ents es ks dat) (hk : k ∈ ks) : (es[ks.idxOf k]?).map (·.key) = some (.int .i64 (k : Int)) := by
  have h2 : (es.map (fun e => (e.key, e.val)))[ks.idxOf k]? = (ks.map (ent dat))[ks.idxOf k]? := by rw [h]
  have hlt := List.idxOf_lt_length_iff.2 hk
  rw [List.getElem?_map, List.getElem?_map, List.getElem?_eq_getElem hlt] at h2
  have hg : ks[ks.idxOf k] = k := List.getElem_idxOf hlt
  cases he : es[ks.idxOf k]? with
  | none => rw [he] at h2; simp at h2
  | some e =>
    rw [he, hg] at h2
    simp only [Option.map_some, Option.some.injEq, ent, Prod.mk.injEq] at h2
    simp [h2.1]
theorem Ents.erase {dat dat' : Nat → UInt8} {k : Nat} (hd : ∀ i, i / 16 ≠ k → dat' i = dat i) : ∀ {es : List MapEntry} {ks : List Nat}, Ents es ks dat → ks.Nodup → k ∈ ks → Ents (es.eraseIdx (ks.idxOf k)) (ks.erase k) dat'
  | [], [], _, _, h => by simp at h
  | [], x :: ks, h, _, _ => by simp [Ents] at h
  | e :: es, [], h, _, _ => by simp [Ents] at h
  | e :: es, x :: ks, h, hn, hk => by
    have hn' := List.nodup_cons.1 hn
    simp only [Ents, List.map_cons, List.cons.injEq] at h
    obtain ⟨h1, h3⟩ := h
    by_cases e' : k = x
    · subst e'
      simp only [List.idxOf_cons_self, List.eraseIdx_cons_zero, List.erase_cons_head, Ents]
      refine h3.trans (List.map_congr_left fun x hx => ?_)
      have hne : x ≠ k := fun e => hn'.1 (e ▸ hx)
      exact ent_congr fun j hj => (hd _ (by omega)).symm
    · have hx : (x == k) = false := by simpa using fun h => e' h.symm
      have ih := Ents.erase (es := es) hd h3 hn'.2 (by simpa [e'] using hk)
      rw [List.idxOf_cons, hx, List.erase_cons_tail (by simpa using hx)]
      simp only [cond_false, List.eraseIdx_cons_succ, Ents, List.map_cons, List.cons.injEq]
      refine ⟨h1.trans (ent_congr fun j hj => (hd _ (by omega)).symm), ih⟩
theorem Ents.other {es : List MapEntry} {ks : List Nat} {dat dat' : Nat → UInt8} {k : Nat} (h : Ents es ks dat) (hk : k ∉ ks) (hd : ∀ i, i / 16 ≠ k → dat' i = dat i) : Ents es ks dat' := by
  refine Eq.trans h (List.map_congr_left fun x hx => ?_)
  have hne : x ≠ k := fun e => hk (e ▸ hx)
  exact ent_congr fun j hj => (hd _ (by omega)).symm

/-- How many there are, one put, one taken away. -/
def addN (th : Nat → Bool) (k n : Nat) : Nat := if th k then n else n + 1
def subN (th : Nat → Bool) (k n : Nat) : Nat := if th k then n - 1 else n
/-- A chunk is put. -/
theorem MapAt.put {w : World} {M n : Nat} {th : Nat → Bool} {dat dat' : Nat → UInt8} (h : MapAt w M th dat n) (k : Nat) (hd : ∀ i, i / 16 ≠ k → dat' i = dat i) :
    ∃ w', (Instr.mapUpdate 217 (.map (some M)) (.int .i64 (k : Int)) (.agg (chunkA dat' k))).run Tryz.prog w = .ok () w' ∧ MapAt w' M (updB th k true) dat' (addN th k n) ∧ Only (· = M) w w' := by
  obtain ⟨ks, es, c, hM, hE, hd0, hm, hz, hn⟩ := h
  have hf := run_find (w := w) hE k
  have hz' : ∀ x, updB th k true x = false → ∀ j, j < 16 → dat' (16 * x + j) = 0 := fun x hx j hj => by
    unfold updB at hx
    by_cases e : x = k
    · simp [e] at hx
    · rw [if_neg e] at hx; rw [hd _ (by omega)]; exact hz x hx j hj
  by_cases hk : k ∈ ks
  · have ht := (hm k).1 hk
    have hkey := hE.key hk
    simp only [if_pos hk] at hf
    refine ⟨mset w M (.map (es.modify (ks.idxOf k) fun e => { e with key := .int .i64 (k : Int), val := .agg (chunkA dat' k) }) c), ?_, ⟨ks, _, c, mset_at hM, ?_, hd0, fun x => ?_, hz', by rw [addN, if_pos ht]; exact hn⟩, mset_only _⟩
    · unfold Instr.mapUpdate
      have hkey2 : (Option.map (fun x => x.key) es[ks.idxOf k]?).getD (.int .i64 (k : Int)) = .int .i64 (k : Int) := by
        rw [← Array.getElem?_toList, hkey]; rfl
      simp [run_underlying Tryz.underlying217, MapKept.run_getObj_map hM, check_int, hf, hkey2, same_int, MapKept.run_setObj_map _ hM]
      rfl
    · rw [Array.toList_modify]
      exact Ents.set hd hE hd0 hk
    · unfold updB
      by_cases e : x = k
      · subst e; simp [hk]
      · rw [if_neg e]; exact hm x
  · have ht : th k = false := by
      cases e : th k
      · rfl
      · exact absurd ((hm k).2 e) hk
    simp only [if_neg hk] at hf
    refine ⟨mset w M (.map (es.push { key := .int .i64 (k : Int), val := .agg (chunkA dat' k), born := c }) (c + 1)), ?_, ⟨ks ++ [k], _, c + 1, mset_at hM, ?_, ?_, fun x => ?_, hz', by rw [addN, ht]; simp [hn]⟩, mset_only _⟩
    · unfold Instr.mapUpdate
      simp [run_underlying Tryz.underlying217, MapKept.run_getObj_map hM, check_int, hf, MapKept.run_setObj_map _ hM]
      rfl
    · simpa using hE.push (b := c) hk hd
    · rw [List.nodup_append]
      exact ⟨hd0, by simp, by intro a ha b hb; simp at hb; subst hb; intro e; exact hk (e ▸ ha)⟩
    · unfold updB
      by_cases e : x = k
      · subst e; simp
      · rw [if_neg e, ← hm x]; simp [e]
set_option maxRecDepth 100000 in
theorem MapAt.del {w : World} {M n : Nat} {th : Nat → Bool} {dat dat' : Nat → UInt8} (h : MapAt w M th dat n) (k : Nat) (hd : ∀ i, i / 16 ≠ k → dat' i = dat i) (hk0 : ∀ j, j < 16 → dat' (16 * k + j) = 0) (ty : TypeId) :
    ∃ w', (Builtin.delete_ #[217, 3] ty #[.map (some M), .int .i64 (k : Int)]).run Tryz.prog w = .ok (.tuple #[]) w' ∧ MapAt w' M (updB th k false) dat' (subN th k n) ∧ Only (· = M) w w' := by
  obtain ⟨ks, es, c, hM, hE, hd0, hm, hz, hn⟩ := h
  have hf := run_find (w := w) hE k
  have hz' : ∀ x, updB th k false x = false → ∀ j, j < 16 → dat' (16 * x + j) = 0 := fun x hx j hj => by
    unfold updB at hx
    by_cases e : x = k
    · subst e; exact hk0 j hj
    · rw [if_neg e] at hx; rw [hd _ (by omega)]; exact hz x hx j hj
  by_cases hk : k ∈ ks
  · have ht := (hm k).1 hk
    simp only [if_pos hk] at hf
    refine ⟨mset w M (.map (es.eraseIdxIfInBounds (ks.idxOf k)) c), ?_, ⟨ks.erase k, _, c, mset_at hM, ?_, hd0.erase k, fun x => ?_, hz', by rw [subN, if_pos ht, List.length_erase_of_mem hk, hn]⟩, mset_only _⟩
    · unfold Builtin.delete_
      simp [run_underlying Tryz.underlying217, MapKept.run_getObj_map hM, check_int, hf, MapKept.run_setObj_map _ hM]
      rfl
    · have hlt : ks.idxOf k < es.size := by
        have h1 := hE.len
        have h2 := List.idxOf_lt_length_iff.2 hk
        rw [Array.length_toList] at h1
        omega
      rw [Array.eraseIdxIfInBounds, dif_pos hlt, Array.toList_eraseIdx]
      exact Ents.erase hd hE hd0 hk
    · unfold updB
      rw [hd0.mem_erase_iff, hm x]
      by_cases e : x = k <;> simp [e]
  · have ht : th k = false := by
      cases e : th k
      · rfl
      · exact absurd ((hm k).2 e) hk
    simp only [if_neg hk] at hf
    refine ⟨mset w M (.map es c), ?_, ⟨ks, es, c, mset_at hM, hE.other hk hd, hd0, fun x => ?_, hz', by rw [subN, ht]; simp [hn]⟩, mset_only _⟩
    · unfold Builtin.delete_
      simp [run_underlying Tryz.underlying217, MapKept.run_getObj_map hM, check_int, hf, MapKept.run_setObj_map _ hM]
      rfl
    · unfold updB
      by_cases e : x = k
      · subst e; simp [hk]
      · rw [if_neg e]; exact hm x
set_option maxRecDepth 100000 in
theorem MapAt.len {w : World} {M n : Nat} {th : Nat → Bool} {dat : Nat → UInt8} (h : MapAt w M th dat n) (ty : TypeId) :
    (Builtin.len_ #[217] ty #[.map (some M)]).run Tryz.prog w = .ok (.int .i64 (n : Int)) w := by
  obtain ⟨ks, es, c, hM, hE, hd0, hm, hz, hn⟩ := h
  have h1 := hE.len
  rw [Array.length_toList] at h1
  unfold Builtin.len_
  simp [run_underlying Tryz.underlying217, MapKept.run_getObj_map hM, goInt, h1, hn]
/-- The number of entries is the number of chunks. -/
def cnt (N : Nat) (th : Nat → Bool) : Nat := ((List.range N).filter th).length
theorem MapAt.cnt {w : World} {M n N : Nat} {th : Nat → Bool} {dat : Nat → UInt8} (h : MapAt w M th dat n) (hN : ∀ k, th k = true → k < N) : n = cnt N th := by
  obtain ⟨ks, es, c, hM, hE, hd0, hm, hz, hn⟩ := h
  have hp : ks.Perm ((List.range N).filter th) := (List.perm_ext_iff_of_nodup hd0 (List.nodup_range.filter _)).2 fun x => by
    rw [hm x, List.mem_filter, List.mem_range]
    exact ⟨fun h => ⟨hN x h, h⟩, fun h => h.2⟩
  rw [← hn]
  exact hp.length_eq
theorem MapAt.made (w : World) : MapAt (w.alloc (.map #[] 0)) w.heap.size (fun _ => false) (fun _ => 0) 0 :=
  ⟨[], #[], 0, heap_alloc_last w _, rfl, List.nodup_nil, fun k => by simp, fun _ _ _ _ => rfl, rfl⟩
theorem MapAt.ext {w : World} {M n : Nat} {th th' : Nat → Bool} {dat dat' : Nat → UInt8} (h : MapAt w M th dat n) (h1 : ∀ k, th' k = th k) (h2 : ∀ i, dat' i = dat i) : MapAt w M th' dat' n := by
  obtain rfl : th' = th := funext h1
  obtain rfl : dat' = dat := funext h2
  exact h
end Go.Proofs.YtnnaoldpacbagaaGreat.bl
end
section
namespace Go.Proofs.YtnnaoldpacbagaaGreat.bl
open Go.RowKit
set_option linter.unusedVariables false
set_option linter.unusedSimpArgs false


abbrev Pq (B : Nat) : Value := .pointer (some ⟨B, 0, none⟩)
/-- The three cells of a body. -/
structure BodC (w : World) (S B M n : Nat) : Prop where
  c0 : w.cell? ⟨B, 0, none⟩ = some (Pq S)
  c1 : w.cell? ⟨B, 1, none⟩ = some (.int .i64 (n : Int))
  c2 : w.cell? ⟨B, 2, none⟩ = some (.map (some M))
  f1 : w.frozen? ⟨B, 1, none⟩ = false
/-- The two cells of a store. -/
structure StoC (w : World) (S room used : Nat) : Prop where
  c0 : w.cell? ⟨S, 0, none⟩ = some (.int .i64 (room : Int))
  c1 : w.cell? ⟨S, 1, none⟩ = some (.int .i64 (used : Int))
  f1 : w.frozen? ⟨S, 1, none⟩ = false
def rowF (L : Nat) (f : Nat → UInt8) : List Value := (List.range L).map fun j => U8 (f j)
theorem rowF_length (L : Nat) (f : Nat → UInt8) : (rowF L f).length = L := by simp [rowF]
theorem rowF_get {L j : Nat} (f : Nat → UInt8) (hj : j < L) : (rowF L f)[j]? = some (U8 (f j)) := by simp [rowF, hj]
theorem rowF_congr {L : Nat} {f g : Nat → UInt8} (h : ∀ j, j < L → f j = g j) : rowF L f = rowF L g := by
  unfold rowF
  exact List.map_congr_left fun j hj => by rw [h j (by simpa using hj)]
theorem rowF_one {L : Nat} {f : Nat → UInt8} : ∀ v ∈ rowF L f, v.oneCell' = true := by
  intro v hv
  simp only [rowF, List.mem_map] at hv
  obtain ⟨j, _, rfl⟩ := hv
  rfl
theorem splice_rowF {L off m : Nat} (f g h : Nat → UInt8) (hm : off + m ≤ L) (hh : ∀ j, j < L → h j = if off ≤ j ∧ j < off + m then g (j - off) else f j) : splice (rowF L f) off (rowF m g) = rowF L h := by
  unfold splice
  apply List.ext_getElem?
  intro j
  rw [List.getElem?_append, List.getElem?_append]
  simp only [List.length_take, rowF_length, List.getElem?_take, List.getElem?_drop]
  rw [Nat.min_eq_left (by omega)]
  by_cases h1 : j < off
  · rw [if_pos h1, if_pos h1, rowF_get f (by omega), rowF_get h (by omega), hh j (by omega), if_neg (by omega)]
  · rw [if_neg h1]
    by_cases h2 : j - off < m
    · rw [if_pos h2, rowF_get g h2, rowF_get h (by omega), hh j (by omega), if_pos (by omega)]
    · rw [if_neg h2]
      by_cases h3 : j < L
      · rw [show off + m + (j - off - m) = j from by omega, rowF_get f h3, rowF_get h h3, hh j h3, if_neg (by omega)]
      · rw [List.getElem?_eq_none (by rw [rowF_length]; omega), List.getElem?_eq_none (by rw [rowF_length]; omega)]
theorem chunkL_rowF (dat : Nat → UInt8) (k : Nat) : chunkL dat k = rowF 16 (fun j => dat (16 * k + j)) := rfl
set_option maxRecDepth 100000 in
theorem under76 : Tryz.prog.underlying 249 = some (.array 16 5) := by kernel_rfl
set_option maxRecDepth 100000 in
theorem info76 : (Tryz.prog.info? 249).map (·.size) = some 16 := by kernel_rfl
set_option maxRecDepth 100000 in
theorem info5 : (Tryz.prog.info? 5).map (·.size) = some 1 := by kernel_rfl

abbrev Z16 : Array Value := #[.int .u8 0, .int .u8 0, .int .u8 0, .int .u8 0, .int .u8 0, .int .u8 0, .int .u8 0, .int .u8 0, .int .u8 0, .int .u8 0, .int .u8 0, .int .u8 0, .int .u8 0, .int .u8 0, .int .u8 0, .int .u8 0]
set_option maxRecDepth 100000 in
theorem store_chunk (w : World) (dat : Nat → UInt8) (k : Nat) :
    (storeCells ⟨w.heap.size, 0, none⟩ (chunkA dat k).toList).run Tryz.prog (w.alloc (.cells Z16 249)) = .ok () (w.alloc (.cells (chunkA dat k) 249)) :=
  run_storeCells_new w 249 Z16 (chunkA dat k) (by rw [chunkA_size]; exact info76) (by rw [chunkA_size]; rfl) (chunkA_one dat k)
set_option maxRecDepth 100000 in
theorem slice_chunk (w : World) (b r : Nat) (hr : r < 16) :
    (Instr.sliceAt 249 (.pointer (some ⟨b, 0, none⟩)) (some (.int .i64 (r : Int))) none none).run Tryz.prog w = .ok (.slice (some ⟨b, r, none⟩) (16 - r) (16 - r)) w := by
  have h1 : (r : Int) ≤ 16 := by omega
  have h2 : ¬ (16 : Nat) = r := by omega
  have h3 : (⟨b, 0, none⟩ : Addr).add r = ⟨b, r, none⟩ := by unfold Addr.add; split <;> simp_all
  unfold Instr.sliceAt
  simp [run_underlying under76, Instr.sliceBounds, Instr.sliceBound, h1, h2, h3, Instr.sureAddr, asIntOf]
  intro h; omega
/-- The cells that lie at a chunk's place r are the bytes from there on. -/
theorem chunk_src (w : World) (dat : Nat → UInt8) (k r m a : Nat) (ha : a = 16 * k + r) (hm : m ≤ 16 - r) (hr : r < 16) (o : World) :
    ∀ j v, (rowF m (fun j => dat (a + j)))[j]? = some v → (w.alloc (.cells (chunkA dat k) 249)).cell? ((⟨w.heap.size, r, none⟩ : Addr).add j) = some v := by
  intro j v hv
  have hj : j < m := by
    have := (List.getElem?_eq_some_iff.1 hv).1
    simpa [rowF_length] using this
  rw [rowF_get _ hj] at hv
  injection hv with hv
  subst hv
  have h3 : (⟨w.heap.size, r, none⟩ : Addr).add j = ⟨w.heap.size, r + j, none⟩ := by unfold Addr.add; split <;> simp_all
  rw [h3, ha]
  have := chunkL_get dat k (r + j) (by omega)
  rw [Nat.add_assoc]
  simpa [chunkA] using this
theorem ret_len {a b : Nat} (h : a = b) : Ending.returned (.int .i64 (a : Int)) = .returned (.int .i64 (b : Int)) := by rw [h]
set_option maxRecDepth 100000 in
set_option maxHeartbeats 1000000 in
theorem take_any (S B M n N a k r off dl dc g L : Nat) (th : Nat → Bool) (dat f : Nat → UInt8) (w : World) (hb : BodC w S B M n) (hM : MapAt w M th dat N) (hk : (a : Int) / 16 = k) (hr : (a : Int) % 16 = r) (ha : a ≤ 65536)
    (hg : w.heap[g]? = some (.cells (rowF L f).toArray 5 (0, 0))) (hd : off + dl ≤ L) :
    Calls Tryz.prog 167 #[Pq B, .int .i64 (a : Int), .slice (some ⟨g, off, none⟩) dl dc] w (fun e w' => e = .returned (.int .i64 ((min (16 - r) dl : Nat) : Int)) ∧
      w'.heap[g]? = some (.cells (rowF L (fun j => if off ≤ j ∧ j < off + min (16 - r) dl then dat (a + (j - off)) else f j)).toArray 5 (0, 0)) ∧ Below g w w') := by
  have hlook := hM.look k false
  have h2 := hb.c2
  have har : a = 16 * k + r := by omega
  have hr16 : r < 16 := by omega
  have hglt : g < w.heap.size := (Array.getElem?_eq_some_iff.1 hg).1
  have hg2 : (w.alloc (.cells (chunkA dat k) 249)).heap[g]? = some (.cells (rowF L f).toArray 5 (0, 0)) := (Below.heap_alloc w _ g hglt).trans hg
  obtain ⟨m, hm⟩ : ∃ m, m = min (16 - r) dl := ⟨_, rfl⟩
  have hm1 : m ≤ 16 - r := by omega
  have hm2 : m ≤ dl := by omega
  have HS := Lib.hid (chunk_src w dat k r m a har hm1 hr16 w)
  have HAR := Lib.hid har
  have HM := Lib.hid hm
  have HG := Lib.hid hg2
  have HL := Lib.hid (show (rowF m (fun j => dat (a + j))).length = (16 - r).min dl by rw [rowF_length]; exact hm)
  have HB := Lib.hid (show Below g w (w.alloc (.cells (chunkA dat k) 249)) from (Below.refl _ _).alloc (by omega) _)
  have HX := Lib.hid (splice_rowF (L := L) (off := off) (m := m) f (fun j => dat (a + j)) (fun j => if off ≤ j ∧ j < off + m then dat (a + (j - off)) else f j) (by omega) (fun j _ => rfl))
  have HMM := Lib.hid (show (rowF m (fun j => dat (a + j))).length = m by rw [rowF_length])
  have HF := Lib.hid (show off + (rowF m (fun j => dat (a + j))).length ≤ (rowF L f).length by rw [rowF_length, rowF_length]; omega)
  rw [← hm]
  clear har hm hg hg2
  simp only [Bool.false_eq_true, if_false] at hlook
  have hst := store_chunk w dat k
  have hsz := chunkA_size dat k
  have hsl := slice_chunk (w.alloc (.cells (chunkA dat k) 249)) w.heap.size r hr16
  go_enter Tryz.func167, Tryz.ntmps167
  go_wp2_with ((with_reducible refine wpList_copy_splice rfl _ _ 53 53 rfl 5 Tryz.underlying53 info5 _ _ _ _ _ _ rfl rfl g off (rowF L f) 5 HG.out (rowF m (fun j => dat (a + j))) HL.out (fun _ => ⟨rfl, _, rfl, HS.out⟩) HF.out rowF_one g w HB.out (Nat.le_refl _) ?_); intro w2 hg2 hb2)
  go_ret
  exact ⟨ret_len HMM.out, by rw [← HX.out]; exact hg2.out, hb2⟩

/-- Bytes that lie in memory, below block X. -/
def Bytes (w : World) (X : Nat) (A : Option Addr) (n : Nat) (f : Nat → UInt8) : Prop := ∀ i, i < n → ∃ b off, A = some ⟨b, off, none⟩ ∧ b < X ∧ w.cell? ⟨b, off + i, none⟩ = some (U8 (f i))
theorem Bytes.below {w w' : World} {X n : Nat} {A : Option Addr} {f : Nat → UInt8} (h : Bytes w X A n f) (hb : Below X w w') : Bytes w' X A n f := fun i hi => by
  obtain ⟨b, off, e, hB, h0⟩ := h i hi
  exact ⟨b, off, e, hB, (hb.cell (p := ⟨b, off + i, none⟩) hB).trans h0⟩
theorem add0 (b off j : Nat) : (⟨b, off, none⟩ : Addr).add j = ⟨b, off + j, none⟩ := by unfold Addr.add; split <;> simp_all
set_option maxRecDepth 100000 in
theorem loadFrom_row (w : World) (c : Nat) (t : TypeId) (L : List Value) (n : Nat) (hn : L.length = n) (h : w.heap[c]? = some (.cells L.toArray t (0, 0))) :
    (loadCellsFrom ⟨c, 0, none⟩ 0 n #[]).run Tryz.prog w = .ok L.toArray w := by
  subst hn
  have := run_loadCells_list (P := Tryz.prog) w ⟨c, 0, none⟩ L (fun j v hv => by
    rw [add0, Nat.zero_add, cell_of_row _ _ j L.toArray t (0, 0) h]
    simpa using hv)
  simpa [loadCells] using this
/-- The bytes of a chunk that a source is laid over. -/
def over (dat : Nat → UInt8) (a m : Nat) (f : Nat → UInt8) : Nat → UInt8 := fun i => if a ≤ i ∧ i < a + m then f (i - a) else dat i
theorem over_off {dat f : Nat → UInt8} {a m k r : Nat} (ha : a = 16 * k + r) (hm : m ≤ 16 - r) (hr : r < 16) : ∀ i, i / 16 ≠ k → over dat a m f i = dat i := by
  intro i hi
  unfold over
  rw [if_neg (by omega)]

/-- A chunk that lies in a block of its own: its cells one by one. -/
theorem chunk_cells {w : World} {c : Nat} {t : TypeId} {dat : Nat → UInt8} {k : Nat} (h : w.heap[c]? = some (.cells (chunkL dat k).toArray t (0, 0))) :
    ∃ V : Nat → Value, chunkA dat k = #[V 0, V 1, V 2, V 3, V 4, V 5, V 6, V 7, V 8, V 9, V 10, V 11, V 12, V 13, V 14, V 15] ∧ ∀ j, j < 16 → w.cell? ⟨c, j, none⟩ = some (V j) :=
  ⟨fun j => U8 (dat (16 * k + j)), rfl, fun j hj => by
    rw [cell_of_row _ _ j _ t (0, 0) h]
    have := chunkL_get dat k j hj
    simpa using this⟩
set_option maxRecDepth 100000 in
set_option maxHeartbeats 1000000 in
theorem put_any (S B M n N a k r dl dc : Nat) (A : Option Addr) (th : Nat → Bool) (dat f : Nat → UInt8) (w : World) (hb : BodC w S B M n) (hM : MapAt w M th dat N) (hk : (a : Int) / 16 = k) (hr : (a : Int) % 16 = r) (ha : a ≤ 65536)
    (hs : Bytes w w.heap.size A dl f) (hd : 0 < dl) :
    Calls Tryz.prog 139 #[Pq B, .int .i64 (a : Int), .slice A dl dc] w (fun e w' => e = .returned (.int .i64 ((min dl (16 - r) : Nat) : Int)) ∧
      MapAt w' M (updB th k true) (over dat a (min dl (16 - r)) f) (addN th k N) ∧ Only (· = M) w w') := by
  have hlook := hM.look k false
  have h2 := hb.c2
  have hBl := World.block_lt_of_cell? w _ h2
  have har : a = 16 * k + r := by omega
  have hr16 : r < 16 := by omega
  obtain ⟨m, hm⟩ : ∃ m, m = min dl (16 - r) := ⟨_, rfl⟩
  have hm1 : m ≤ 16 - r := by omega
  have hm2 : m ≤ dl := by omega
  obtain ⟨sb, so, rfl, hsl0, _⟩ := hs 0 hd
  have hsrc : ∀ j v, (rowF m f)[j]? = some v → (w.alloc (.cells (chunkA dat k) 249)).cell? ((⟨sb, so, none⟩ : Addr).add j) = some v := by
    intro j v hv
    have hj : j < m := by
      have := (List.getElem?_eq_some_iff.1 hv).1
      simpa [rowF_length] using this
    rw [rowF_get _ hj] at hv
    injection hv with hv
    subst hv
    obtain ⟨b, off, e, hB, h0⟩ := hs j (by omega)
    injection e with e
    injection e with e1 e2
    subst e1; subst e2
    rw [add0]
    exact (((Below.refl _ _).alloc (Nat.le_refl _) _).cell (p := ⟨sb, so + j, none⟩) hB).trans h0
  have HS := Lib.hid hsrc
  have HAR := Lib.hid har
  have HG := Lib.hid (show (w.alloc (.cells (chunkA dat k) 249)).heap[w.heap.size]? = some (.cells (chunkL dat k).toArray 249 (0, 0)) from heap_alloc_last w _)
  have HL := Lib.hid (show (rowF m f).length = dl.min (16 - r) by rw [rowF_length]; exact hm)
  have HB := Lib.hid (show Below w.heap.size w (w.alloc (.cells (chunkA dat k) 249)) from (Below.refl _ _).alloc (Nat.le_refl _) _)
  have HX := Lib.hid (show splice (chunkL dat k) r (rowF m f) = chunkL (over dat a m f) k from
    splice_rowF (L := 16) (off := r) (m := m) (fun j => dat (16 * k + j)) f (fun j => over dat a m f (16 * k + j)) (by omega) (fun j hj => by
      unfold over
      by_cases h : r ≤ j ∧ j < r + m
      · rw [if_pos (by omega), if_pos h]; congr 1; omega
      · rw [if_neg (by omega), if_neg h]))
  have HO := Lib.hid (over_off (dat := dat) (f := f) har hm1 hr16)
  have HMM := Lib.hid (show (rowF m f).length = m by rw [rowF_length])
  have HF := Lib.hid (show r + (rowF m f).length ≤ (chunkL dat k).length by rw [rowF_length, chunkL_length]; omega)
  rw [← hm]
  clear har hm hsrc hs
  simp only [Bool.false_eq_true, if_false] at hlook
  have hst := store_chunk w dat k
  have hsz := chunkA_size dat k
  have hsl := slice_chunk (w.alloc (.cells (chunkA dat k) 249)) w.heap.size r hr16
  go_enter Tryz.func139, Tryz.ntmps139
  go_wp2_with ((with_reducible refine wpList_copy_splice rfl _ _ 53 53 rfl 5 Tryz.underlying53 info5 _ _ _ _ _ _ rfl rfl w.heap.size r (chunkL dat k) 249 HG.out (rowF m f) HL.out (fun _ => ⟨rfl, _, rfl, HS.out⟩) HF.out rowF_one w.heap.size w HB.out (Nat.le_refl _) ?_); intro w2 hg2 hb2)
  have hg3 := hg2.out
  rw [HX.out] at hg3
  obtain ⟨V, hV, hcell⟩ := chunk_cells (w := w2.drew) hg3
  have hM2 : MapAt w2.drew M th dat N := hM.of_block (hb2.block _ hM.lt)
  obtain ⟨w3, hput, hM3, ho3⟩ := hM2.put k HO.out
  have hc2 : w2.drew.cell? ⟨B, 2, none⟩ = some (.map (some M)) := (hb2.cell (p := ⟨B, 2, none⟩) hBl).trans h2
  rw [hV] at hput
  have c0 := hcell 0 (by omega)
  have c1 := hcell 1 (by omega)
  have c2 := hcell 2 (by omega)
  have c3 := hcell 3 (by omega)
  have c4 := hcell 4 (by omega)
  have c5 := hcell 5 (by omega)
  have c6 := hcell 6 (by omega)
  have c7 := hcell 7 (by omega)
  have c8 := hcell 8 (by omega)
  have c9 := hcell 9 (by omega)
  have c10 := hcell 10 (by omega)
  have c11 := hcell 11 (by omega)
  have c12 := hcell 12 (by omega)
  have c13 := hcell 13 (by omega)
  have c14 := hcell 14 (by omega)
  have c15 := hcell 15 (by omega)
  have HM3 := Lib.hid hM3
  have HO3 := Lib.hid ((Only.of_below hb2).drew.trans ho3)
  clear hg3 hM3 ho3 hM2 hsl hst hlook hM hV hcell hsz
  go_region
  go_wp2
  go_ret
  exact ⟨ret_len HMM.out, HM3.out, HO3.out⟩
end Go.Proofs.YtnnaoldpacbagaaGreat.bl
end
section
namespace Go.Proofs.YtnnaoldpacbagaaGreat.bl
open Go.RowKit
set_option linter.unusedVariables false
set_option linter.unusedSimpArgs false


theorem below_one (w : World) (o : Obj) : Below w.heap.size w (w.alloc o) := (Below.refl _ _).alloc (Nat.le_refl _) _
theorem StoC.set {w : World} {S room used : Nat} (h : StoC w S room used) (u : Nat) : StoC (w.setCell ⟨S, 1, none⟩ (.int .i64 (u : Int))) S room u := by
  have h0 := h.c0
  have h1 := h.c1
  have hf := h.f1
  exact ⟨(World.cell?_setCell_other _ _ _ _ (by intro e; injection e with _ e; simp at e)).trans h0, World.cell?_setCell_same _ _ _ h1, (World.frozen?_setCell _ _ _ _).trans hf⟩
theorem set_block {w : World} {a : Addr} {u : Value} {M : Nat} (h : M ≠ a.block) : (w.setCell a u).heap[M]? = w.heap[M]? := Below.heap_setCell w a u M h
set_option maxRecDepth 100000 in
set_option maxHeartbeats 1000000 in
theorem prov_there (S B M n N k : Nat) (th : Nat → Bool) (dat : Nat → UInt8) (w : World) (hb : BodC w S B M n) (hM : MapAt w M th dat N) (ht : th k = true) :
    Calls Tryz.prog 138 #[Pq S, Pq B, .int .i64 (k : Int)] w (fun e w' => e = .returned (.bool true) ∧ Below w.heap.size w w') := by
  have hlook := hM.look k true
  rw [ht] at hlook
  simp only [if_true] at hlook
  have h2 := hb.c2
  have hst := store_chunk w dat k
  have hsz := chunkA_size dat k
  go_enter Tryz.func138, Tryz.ntmps138
  go_wp2
  go_ret
  exact ⟨rfl, below_one _ _⟩
set_option maxRecDepth 100000 in
set_option maxHeartbeats 1000000 in
theorem prov_full (S B M n N k room used : Nat) (th : Nat → Bool) (dat : Nat → UInt8) (w : World) (hb : BodC w S B M n) (hM : MapAt w M th dat N) (hS : StoC w S room used) (ht : th k = false) (hu : room ≤ used) :
    Calls Tryz.prog 138 #[Pq S, Pq B, .int .i64 (k : Int)] w (fun e w' => e = .returned (.bool false) ∧ Below w.heap.size w w') := by
  have hlook := hM.look k true
  rw [ht] at hlook
  simp only [if_true] at hlook
  have h2 := hb.c2
  have hSl := World.block_lt_of_cell? w _ hS.c0
  have s0 := hS.c0
  have s1 := hS.c1
  have hu2 : ¬ ((used : Int) < (room : Int)) := by omega
  have hu3 : ((room : Int) ≤ (used : Int)) := by omega
  have hst := store_chunk w dat k
  have hsz := chunkA_size dat k
  go_enter Tryz.func138, Tryz.ntmps138
  go_wp2
  go_region
  go_wp2
  go_ret
  exact ⟨rfl, (below_one _ _).drew⟩
set_option maxRecDepth 100000 in
set_option maxHeartbeats 1000000 in
theorem prov_make (S B M n N k room used : Nat) (th : Nat → Bool) (dat : Nat → UInt8) (w : World) (hb : BodC w S B M n) (hM : MapAt w M th dat N) (hS : StoC w S room used) (ht : th k = false) (hu : used < room) (hr : room ≤ 65536) (hSM : S ≠ M) :
    Calls Tryz.prog 138 #[Pq S, Pq B, .int .i64 (k : Int)] w (fun e w' => e = .returned (.bool true) ∧ MapAt w' M (updB th k true) dat (N + 1) ∧ StoC w' S room (used + 1) ∧ Only (fun x => x = M ∨ x = S) w w') := by
  have hlook := hM.look k true
  rw [ht] at hlook
  simp only [if_true] at hlook
  have h2 := hb.c2
  have hBl := World.block_lt_of_cell? w _ h2
  have hSl := World.block_lt_of_cell? w _ hS.c0
  have s0 := hS.c0
  have s1 := hS.c1
  have hu2 : ((used : Int) < (room : Int)) := by omega
  have hu3 : ¬ ((room : Int) ≤ (used : Int)) := by omega
  have hst := store_chunk w dat k
  have hsz := chunkA_size dat k
  have hb1 := (below_one w (.cells (chunkA dat k) 249)).drew
  have hM1 : MapAt (w.alloc (.cells (chunkA dat k) 249)).drew M th dat N := hM.of_block (hb1.block _ hM.lt)
  obtain ⟨w3, hput, hM3, ho3⟩ := hM1.put (dat' := dat) k (fun _ _ => rfl)
  rw [zero_chunk hM.holes ht, addN, ht] at *
  have f1 := hS.f1
  have hs3 := (ho3.block S (Nat.lt_of_lt_of_le hSl hb1.size) hSM).trans (hb1.block S hSl)
  have u1 : w3.cell? ⟨S, 1, none⟩ = some (.int .i64 (used : Int)) := (World.cell?_of_block (a := ⟨S, 1, none⟩) hs3).trans s1
  have u0 : w3.cell? ⟨S, 0, none⟩ = some (.int .i64 (room : Int)) := (World.cell?_of_block (a := ⟨S, 0, none⟩) hs3).trans s0
  have g1 : w3.frozen? ⟨S, 1, none⟩ = false := (World.frozen?_of_block (a := ⟨S, 1, none⟩) hs3).trans f1
  have HM3 := Lib.hid hM3
  have HO3 := Lib.hid (((Only.of_below hb1).trans ho3).mono (G := fun x => x = M ∨ x = S) fun _ => Or.inl)
  have HNE := Lib.hid hSM
  clear hM3 ho3 hM1 hs3 hSM
  have hput2 : (Instr.mapUpdate 217 (.map (some M)) (.int .i64 (k : Int)) (.agg Z16)).run Tryz.prog (w.alloc (.cells zeroA 249)).drew = .ok () w3 := hput
  clear hput
  have hsz2 : zeroA.size = 16 := rfl
  go_enter Tryz.func138, Tryz.ntmps138
  go_wp2
  go_region
  go_wp2
  go_ret
  exact ⟨rfl, HM3.out.of_block (set_block fun e => HNE.out e.symm), (StoC.set ⟨u0, u1, g1⟩ (used + 1)), HO3.out.setCell (Or.inr rfl) _⟩

theorem BodC.below {w w' : World} {S B M n : Nat} (h : BodC w S B M n) (hb : w'.heap[B]? = w.heap[B]?) : BodC w' S B M n :=
  ⟨(World.cell?_of_block (a := ⟨B, 0, none⟩) hb).trans h.c0, (World.cell?_of_block (a := ⟨B, 1, none⟩) hb).trans h.c1, (World.cell?_of_block (a := ⟨B, 2, none⟩) hb).trans h.c2, (World.frozen?_of_block (a := ⟨B, 1, none⟩) hb).trans h.f1⟩
theorem StoC.below {w w' : World} {S room used : Nat} (h : StoC w S room used) (hb : w'.heap[S]? = w.heap[S]?) : StoC w' S room used :=
  ⟨(World.cell?_of_block (a := ⟨S, 0, none⟩) hb).trans h.c0, (World.cell?_of_block (a := ⟨S, 1, none⟩) hb).trans h.c1, (World.frozen?_of_block (a := ⟨S, 1, none⟩) hb).trans h.f1⟩
theorem BodC.set {w : World} {S B M n : Nat} (h : BodC w S B M n) (u : Nat) : BodC (w.setCell ⟨B, 1, none⟩ (.int .i64 (u : Int))) S B M u :=
  ⟨(World.cell?_setCell_other _ _ _ _ (by intro e; injection e with _ e; simp at e)).trans h.c0, World.cell?_setCell_same _ _ _ h.c1, (World.cell?_setCell_other _ _ _ _ (by intro e; injection e with _ e; simp at e)).trans h.c2, (World.frozen?_setCell _ _ _ _).trans h.f1⟩

/-- Cleared from r on. -/
def wiped (dat : Nat → UInt8) (a k : Nat) : Nat → UInt8 := fun i => if a ≤ i ∧ i / 16 = k then 0 else dat i
set_option maxRecDepth 100000 in
theorem zero5 (w : World) : (zeroValue 5).run Tryz.prog w = .ok (U8 0) w := by kernel_rfl
set_option maxRecDepth 100000 in
theorem clear_chunk (w : World) (dat : Nat → UInt8) (k r a : Nat) (ty : TypeId) (hr : r < 16) (ha : a = 16 * k + r) :
    (Builtin.clear_ #[53] ty #[.slice (some ⟨w.heap.size, r, none⟩) (16 - r) (16 - r)]).run Tryz.prog (w.alloc (.cells (chunkA dat k) 249)) = .ok (.tuple #[]) (w.alloc (.cells (chunkA (wiped dat a k) k) 249)) := by
  obtain ⟨m, hm⟩ : ∃ m, 16 - r = m + 1 := ⟨15 - r, by omega⟩
  have hz : (Builtin.zeroCells (U8 0).cells (m + 1)).toList = rowF (m + 1) (fun _ => 0) := by
    unfold rowF
    apply List.ext_getElem?
    intro j
    simp [Builtin.zeroCells, U8, Value.cells, Nat.mod_one]
  have hst := run_storeCells_at Tryz.prog w.heap.size r 249 (rowF (m + 1) (fun _ => 0)) 0 (chunkA dat k) (w.alloc (.cells (chunkA dat k) 249)) (heap_alloc_last w _) (by rw [rowF_length, chunkA_size]; omega) rowF_one
  have hsp : splice (chunkL dat k) r (rowF (m + 1) (fun _ => 0)) = chunkL (wiped dat a k) k :=
    splice_rowF (L := 16) (off := r) (m := m + 1) (fun j => dat (16 * k + j)) (fun _ => 0) (fun j => wiped dat a k (16 * k + j)) (by omega) (fun j hj => by
      unfold wiped
      by_cases h : r ≤ j ∧ j < r + (m + 1)
      · rw [if_pos (by omega), if_pos h]
      · rw [if_neg (by omega), if_neg h])
  have hx : ((chunkA dat k).toList.take (r + 0) ++ rowF (m + 1) (fun _ => 0) ++ (chunkA dat k).toList.drop (r + 0 + (rowF (m + 1) (fun _ => 0)).length)).toArray = chunkA (wiped dat a k) k := by
    unfold chunkA
    rw [← hsp]
    simp [splice]
  rw [hx, World.setRow_alloc_new] at hst
  rw [hm]
  unfold Builtin.clear_
  have hz2 : (Builtin.zeroCells (Value.int IntKind.u8 0).cells (m + 1)).toList = rowF (m + 1) fun x => 0 := hz
  simp [run_underlying Tryz.underlying53, zero5, hz2, hst]
set_option maxRecDepth 100000 in
set_option maxHeartbeats 1000000 in
theorem wipe_hole (S B M n N a k : Nat) (th : Nat → Bool) (dat : Nat → UInt8) (w : World) (hb : BodC w S B M n) (hM : MapAt w M th dat N) (hk : (a : Int) / 16 = k) (ha : a ≤ 65536) (ht : th k = false) :
    Calls Tryz.prog 198 #[Pq B, .int .i64 (a : Int)] w (fun e w' => e = .returned (.tuple #[]) ∧ Below w.heap.size w w') := by
  have hlook := hM.look k true
  rw [ht] at hlook
  simp only [if_true] at hlook
  have h2 := hb.c2
  have hst := store_chunk w dat k
  have hsz := chunkA_size dat k
  go_enter Tryz.func198, Tryz.ntmps198
  go_wp2
  go_end0
  exact ⟨rfl, below_one _ _⟩
set_option maxRecDepth 100000 in
set_option maxHeartbeats 1000000 in
theorem wipe_there (S B M n N a k r : Nat) (th : Nat → Bool) (dat : Nat → UInt8) (w : World) (hb : BodC w S B M n) (hM : MapAt w M th dat N) (hk : (a : Int) / 16 = k) (hr : (a : Int) % 16 = r) (ha : a ≤ 65536) (ht : th k = true) :
    Calls Tryz.prog 198 #[Pq B, .int .i64 (a : Int)] w (fun e w' => e = .returned (.tuple #[]) ∧ MapAt w' M th (wiped dat a k) N ∧ Only (· = M) w w') := by
  have hlook := hM.look k true
  rw [ht] at hlook
  simp only [if_true] at hlook
  have h2 := hb.c2
  have hBl := World.block_lt_of_cell? w _ h2
  have har : a = 16 * k + r := by omega
  have hr16 : r < 16 := by omega
  have hst := store_chunk w dat k
  have hsz := chunkA_size dat k
  have hsl := slice_chunk (w.alloc (.cells (chunkA dat k) 249)) w.heap.size r hr16
  have hcl := clear_chunk w dat k r a 0 hr16 har
  have hb1 := (below_one w (.cells (chunkA (wiped dat a k) k) 249)).drew
  have hM1 : MapAt (w.alloc (.cells (chunkA (wiped dat a k) k) 249)).drew M th dat N := hM.of_block (hb1.block _ hM.lt)
  obtain ⟨w3, hput, hM3, ho3⟩ := hM1.put (dat' := wiped dat a k) k (fun i hi => by unfold wiped; rw [if_neg (by omega)])
  have hM4 : MapAt w3 M th (wiped dat a k) N := by
    rw [addN, if_pos ht] at hM3
    exact hM3.ext (fun x => by unfold updB; by_cases e : x = k <;> simp [e, ht]) (fun _ => rfl)
  obtain ⟨V, hV, hcell⟩ := chunk_cells (w := (w.alloc (.cells (chunkA (wiped dat a k) k) 249)).drew) (heap_alloc_last w _)
  have hc2 : (w.alloc (.cells (chunkA (wiped dat a k) k) 249)).drew.cell? ⟨B, 2, none⟩ = some (.map (some M)) := (hb1.cell (p := ⟨B, 2, none⟩) hBl).trans h2
  have HM := Lib.hid hM4
  have HO := Lib.hid ((Only.of_below hb1).trans ho3)
  have HV := Lib.hid hV
  have HC := Lib.hid hcell
  clear hM4 hM3 ho3 hM1 hcell hV
  generalize hw2 : w.alloc (.cells (chunkA (wiped dat a k) k) 249) = w2 at *
  have HW := Lib.hid hw2
  have HAR := Lib.hid har
  clear hw2 har
  go_enter Tryz.func198, Tryz.ntmps198
  go_wp2
  have hV := HV.out
  rw [hV] at hput
  have c0 := HC.out 0 (by omega)
  have c1 := HC.out 1 (by omega)
  have c2 := HC.out 2 (by omega)
  have c3 := HC.out 3 (by omega)
  have c4 := HC.out 4 (by omega)
  have c5 := HC.out 5 (by omega)
  have c6 := HC.out 6 (by omega)
  have c7 := HC.out 7 (by omega)
  have c8 := HC.out 8 (by omega)
  have c9 := HC.out 9 (by omega)
  have c10 := HC.out 10 (by omega)
  have c11 := HC.out 11 (by omega)
  have c12 := HC.out 12 (by omega)
  have c13 := HC.out 13 (by omega)
  have c14 := HC.out 14 (by omega)
  have c15 := HC.out 15 (by omega)
  clear hV hsl hst hlook hcl hsz
  go_region
  go_wp2
  go_end0
  exact ⟨rfl, HM.out, HO.out⟩
end Go.Proofs.YtnnaoldpacbagaaGreat.bl
end
section
namespace Go.Proofs.YtnnaoldpacbagaaGreat.bl
open Go.RowKit
set_option linter.unusedVariables false
set_option linter.unusedSimpArgs false


theorem ret_int {a b : Int} (h : a = b) : Ending.returned (.int .i64 a) = .returned (.int .i64 b) := by rw [h]
set_option maxRecDepth 100000 in
theorem chunksTo_any (n : Nat) (w : World) (hn : n ≤ 1000000) : Calls Tryz.prog 197 #[.int .i64 (n : Int)] w (fun e w' => e = .returned (.int .i64 (((n + 15) / 16 : Nat) : Int)) ∧ w = w') := by
  go_enter Tryz.func197, Tryz.ntmps197
  go_wp2
  go_ret
  exact ⟨ret_int (show ((n : Int) + 16 - 1) / 16 = _ by omega), rfl⟩
set_option maxRecDepth 100000 in
theorem eq_ptr (S : Nat) (w : World) : (binOp .eql 112 (Pq S) (Pq S)).run Tryz.prog w = .ok (.bool true) w := by
  have h : (Tryz.prog.info? 191).isSome = true := by kernel_rfl
  obtain ⟨j, hj⟩ := Option.isSome_iff_exists.1 h
  exact run_eql_ptr_same w ⟨S, 0, none⟩ Tryz.underlying112 hj
set_option maxRecDepth 100000 in
theorem owns_any (S B M n : Nat) (w : World) (hb : BodC w S B M n) : Calls Tryz.prog 137 #[Pq S, Pq B] w (fun e w' => e = .returned (.bool true) ∧ w = w') := by
  have h0 := hb.c0
  have he := eq_ptr S w
  go_enter Tryz.func137, Tryz.ntmps137
  go_wp2
  go_ret
  exact ⟨rfl, rfl⟩
set_option maxRecDepth 100000 in
theorem used_any (S room used : Nat) (w : World) (hs : StoC w S room used) : Calls Tryz.prog 104 #[Pq S] w (fun e w' => e = .returned (.int .i64 (used : Int)) ∧ w = w') := by
  have h0 := hs.c1
  go_enter Tryz.func104, Tryz.ntmps104
  go_wp2
  go_ret
  exact ⟨rfl, rfl⟩
set_option maxRecDepth 100000 in
theorem size_any (S B M n : Nat) (w : World) (hb : BodC w S B M n) : Calls Tryz.prog 166 #[Pq B] w (fun e w' => e = .returned (.int .i64 (n : Int)) ∧ w = w') := by
  have h0 := hb.c1
  go_enter Tryz.func166, Tryz.ntmps166
  go_wp2
  go_ret
  exact ⟨rfl, rfl⟩
set_option maxRecDepth 100000 in
theorem body_any (S : Nat) (w : World) : Calls Tryz.prog 126 #[Pq S] w (fun e w' => e = .returned (Pq (w.heap.size + 1)) ∧ w' = (w.alloc (.map #[] 0)).alloc (.cells #[Pq S, .int .i64 0, .map (some w.heap.size)] 219)) := by
  have hm := run_makeMap (P := Tryz.prog) 217 w
  go_enter Tryz.func126, Tryz.ntmps126
  go_wp2
  go_ret
  exact ⟨by simp, rfl⟩
set_option maxRecDepth 100000 in
theorem new_yes (room : Nat) (w : World) (hr : room ≤ 65536) : Calls Tryz.prog 73 #[.int .i64 (room : Int)] w (fun e w' => e = .returned (Pq w.heap.size) ∧ w' = w.alloc (.cells #[.int .i64 (room : Int), .int .i64 0] 191)) := by
  have h1 : ¬ ((65536 : Int) < (room : Int)) := by omega
  have h0 : ¬ ((room : Int) < 0) := by omega
  go_enter Tryz.func73, Tryz.ntmps73
  go_wp2
  go_ret
  exact ⟨rfl, rfl⟩
set_option maxRecDepth 100000 in
theorem new_no (room : Int) (w : World) (hr : room < 0 ∨ 65536 < room) : Calls Tryz.prog 73 #[.int .i64 room] w (fun e w' => e = .returned (.pointer none) ∧ w = w') := by
  by_cases h : room < 0
  · go_enter Tryz.func73, Tryz.ntmps73
    go_wp2
    go_ret
    exact ⟨rfl, rfl⟩
  · have h2 : 65536 < room := by omega
    go_enter Tryz.func73, Tryz.ntmps73
    go_wp2
    go_ret
    exact ⟨rfl, rfl⟩
end Go.Proofs.YtnnaoldpacbagaaGreat.bl
end
