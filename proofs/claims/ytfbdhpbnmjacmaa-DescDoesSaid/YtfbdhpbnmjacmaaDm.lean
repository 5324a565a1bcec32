/- A table of descriptors in memory. -/
import Derived.Test.YtfbdhpbnmjacmaaPaMem
import Derived.Test.YtfbdhpbnmjacmaaDs
import Derived.Below
import Derived.Deep.MidRow
import Derived.Deep.RegionHeld3
import Derived.Deep.RegionWith
import Derived.Deep.QuietTactic
import Derived.BigQuiet
import Derived.Laws.ResultCell
import Derived.Laws.AppendOwn
import Derived.Laws.Cover3
namespace Go.Proofs.Ytfbdhpbnmjacmaa.ds
open Go.RowKit
open Go.Proofs.Ytfbdhpbnmjacmaa.pa (Bs Sv Strs Own own_form info9 own_base)
set_option linter.unusedVariables false
set_option linter.unusedSimpArgs false

theorem below_alloc (w : World) (o : Obj) : Below w.heap.size w (w.alloc o) := (Below.refl _ _).alloc (Nat.le_refl _) _
theorem below_step {w0 w w' : World} (h : Below w0.heap.size w0 w) (hb : Below w.heap.size w w') : Below w0.heap.size w0 w' := h.trans (hb.mono h.size)
abbrev Pq (B : Nat) : Value := .pointer (some ⟨B, 0, none⟩)
def DL (A : Option Addr) (n c : Nat) (d : De) : List Value := [.int .i64 d.ino, .int .i64 d.flag, .int .i64 d.off, .bool d.isd, .slice A n c, .int .i64 d.pos]
def DV (A : Option Addr) (n c : Nat) (d : De) : Value := .agg #[.int .i64 d.ino, .int .i64 d.flag, .int .i64 d.off, .bool d.isd, .slice A n c, .int .i64 d.pos]
/-- What else a world keeps: all blocks but those of F, and those that are new. -/
structure Only (F : Nat → Prop) (w w' : World) : Prop where
  os : w'.os = w.os
  tape : w'.tape = w.tape
  output : w'.output = w.output
  size : w.heap.size ≤ w'.heap.size
  block : ∀ k, k < w.heap.size → ¬ F k → w'.heap[k]? = w.heap[k]?
theorem Only.refl (F : Nat → Prop) (w : World) : Only F w w := ⟨rfl, rfl, rfl, Nat.le_refl _, fun _ _ _ => rfl⟩
theorem Only.trans {F : Nat → Prop} {w w1 w2 : World} (h : Only F w w1) (k : Only F w1 w2) : Only F w w2 :=
  ⟨k.os.trans h.os, k.tape.trans h.tape, k.output.trans h.output, Nat.le_trans h.size k.size, fun j hj hF => (k.block j (Nat.lt_of_lt_of_le hj h.size) hF).trans (h.block j hj hF)⟩
theorem Only.of_below {F : Nat → Prop} {w w' : World} (h : Below w.heap.size w w') : Only F w w' := ⟨h.os, h.tape, h.output, h.size, fun k hk _ => h.block k hk⟩
theorem Only.below {F : Nat → Prop} {w0 w w' : World} (h : Below w0.heap.size w0 w) (ho : Only F w w') (hF : ∀ b, F b → w0.heap.size ≤ b) : Below w0.heap.size w0 w' :=
  h.trans ⟨ho.os, ho.tape, ho.output, ho.size, fun k hk => ho.block k (Nat.lt_of_lt_of_le hk h.size) (fun e => by have := hF k e; omega)⟩
theorem only_cell (w : World) (a : Addr) (v : Value) : Only (fun b => b = a.block) w (w.setCell a v) := ⟨rfl, rfl, rfl, by simp [World.setCell], fun k hk hF => Below.heap_setCell _ _ _ _ hF⟩
theorem Only.mono {F G : Nat → Prop} {w w' : World} (h : Only F w w') (hG : ∀ b, F b → G b) : Only G w w' := ⟨h.os, h.tape, h.output, h.size, fun k hk hk2 => h.block k hk (fun e => hk2 (hG k e))⟩

/-- Names at A, in blocks tagged 100. -/
def Nm (w : World) (tg : Nat → Nat) (A : Option Addr) (xs : List Bs) : Prop := 0 < xs.length → ∃ ad, A = some ad ∧ tg ad.block = 100 ∧ ∀ j x, xs[j]? = some x → w.cell? (ad.add j) = some (Sv x)
/-- A descriptor's box. -/
def Bx (w : World) (tg : Nat → Nat) (b : Nat) (d : De) : Prop := ∃ A c, w.rangeAt b 0 (DL A d.ns.length c d) ∧ (∀ j, w.frozen? ⟨b, j, none⟩ = false) ∧ d.ns.length ≤ c ∧ c ≤ maxLen ∧ Nm w tg A d.ns
def Slot (w : World) (P : Nat) (tg : Nat → Nat) (k : Nat) : Option De → Prop
  | none => w.cell? ⟨P, k, none⟩ = some (.pointer none)
  | some d => ∃ b, w.cell? ⟨P, k, none⟩ = some (Pq b) ∧ tg b = 2 + k ∧ d.ns.length ≤ 1000 ∧ Bx w tg b d
/-- A table that the call made behind w0; tg tells which of its parts a block is: 1 the array, 2 + k the box of number k, 100 names, 0 none. -/
structure TbX (w0 w : World) (P : Nat) (tg : Nat → Nat) (T : Tb) : Prop where
  own : ∀ b, tg b ≠ 0 → w0.heap.size ≤ b ∧ b < w.heap.size
  tp : tg P = 1
  bel : Below w0.heap.size w0 w
  fz : ∀ k, w.frozen? ⟨P, k, none⟩ = false
  slot : ∀ k, k < 32 → Slot w P tg k (T k)
/-- The table's own blocks are all that has been turned, and what has come to it is new. -/
structure Kp (tg tg' : Nat → Nat) (w w' : World) : Prop where
  only : Only (fun b => tg b ≠ 0) w w'
  tag : ∀ b, b < w.heap.size → tg' b ≠ 0 → tg b ≠ 0
theorem Kp.refl (tg : Nat → Nat) (w : World) : Kp tg tg w w := ⟨Only.refl _ _, fun _ _ h => h⟩
theorem Kp.of_below {tg : Nat → Nat} {w w' : World} (h : Below w.heap.size w w') : Kp tg tg w w' := ⟨Only.of_below h, fun _ _ h => h⟩
section
variable {w0 w w' : World} {P : Nat} {tg tg' : Nat → Nat} {T : Tb}
theorem Nm.keep {A : Option Addr} {xs : List Bs} (h : Nm w tg A xs) (hk : ∀ b, tg b ≠ 0 → w'.heap[b]? = w.heap[b]?) : Nm w' tg A xs := fun hn => by
  obtain ⟨ad, e, h1, h2⟩ := h hn
  exact ⟨ad, e, h1, fun j x hx => (World.cell?_of_block (by rw [pa.addr_block]; exact hk _ (by omega))).trans (h2 j x hx)⟩
theorem Bx.keep {b : Nat} {d : De} (h : Bx w tg b d) (hb : tg b ≠ 0) (hk : ∀ b, tg b ≠ 0 → w'.heap[b]? = w.heap[b]?) : Bx w' tg b d := by
  obtain ⟨A, c, h1, h2, h3, h4, h5⟩ := h
  exact ⟨A, c, fun j v hv => (World.cell?_of_block (a := ⟨b, 0 + j, none⟩) (hk b hb)).trans (h1 j v hv), fun j => (World.frozen?_of_block (a := ⟨b, j, none⟩) (hk b hb)).trans (h2 j), h3, h4, h5.keep hk⟩
theorem Slot.keep {k : Nat} {o : Option De} (h : Slot w P tg k o) (hP : tg P ≠ 0) (hk : ∀ b, tg b ≠ 0 → w'.heap[b]? = w.heap[b]?) : Slot w' P tg k o := by
  cases o with
  | none => exact (World.cell?_of_block (a := ⟨P, k, none⟩) (hk P hP)).trans h
  | some d =>
    obtain ⟨b, h1, h2, h3, h4⟩ := h
    exact ⟨b, (World.cell?_of_block (a := ⟨P, k, none⟩) (hk P hP)).trans h1, h2, h3, h4.keep (by omega) hk⟩
theorem TbX.keep (h : TbX w0 w P tg T) (hb : Below w0.heap.size w0 w') (hs : w.heap.size ≤ w'.heap.size) (hk : ∀ b, tg b ≠ 0 → w'.heap[b]? = w.heap[b]?) : TbX w0 w' P tg T :=
  ⟨fun b h1 => ⟨(h.own b h1).1, Nat.lt_of_lt_of_le (h.own b h1).2 hs⟩, h.tp, hb, fun k => (World.frozen?_of_block (a := ⟨P, k, none⟩) (hk P (by rw [h.tp]; decide))).trans (h.fz k), fun k hk32 => (h.slot k hk32).keep (by rw [h.tp]; decide) hk⟩
theorem TbX.below (h : TbX w0 w P tg T) (hb : Below w.heap.size w w') : TbX w0 w' P tg T :=
  h.keep (below_step h.bel hb) hb.size fun b hb2 => hb.block b (h.own b hb2).2
/-- What is not the table's may be turned, if it is the call's own. -/
theorem TbX.apart (h : TbX w0 w P tg T) {F : Nat → Prop} (ho : Only F w w') (hF : ∀ b, F b → w0.heap.size ≤ b ∧ tg b = 0) : TbX w0 w' P tg T :=
  h.keep (ho.below h.bel fun b hb => (hF b hb).1) ho.size fun b hb2 => ho.block b (h.own b hb2).2 fun e => hb2 (hF b e).2
theorem TbX.lo (h : TbX w0 w P tg T) : w0.heap.size ≤ P ∧ P < w.heap.size := h.own P (by rw [h.tp]; decide)
theorem TbX.kbel (h : TbX w0 w P tg T) (hk : Kp tg tg' w w') : Below w0.heap.size w0 w' := hk.only.below h.bel fun b hb => (h.own b hb).1
end

theorem cell_row {w : World} {B j : Nat} {vs : Array Value} {t : TypeId} {m : Nat × Nat} (h : w.heap[B]? = some (.cells vs t m)) : w.cell? ⟨B, j, none⟩ = vs[j]? := by simp [World.cell?, h]
/-- A return of a struct that lies in a box and of a value. -/
theorem results_row_tmp {fn : Func} {p u : Tmp} {ty : TypeId} (h : fn.results = #[.cell p ty, .tmp u]) (tmps : Array Value) (w : World) (b : Nat) (cs : List Value) (d : TypeDesc)
    (hp : tmps.getD p undef = .pointer (some ⟨b, 0, none⟩)) (hc : w.rangeAt b 0 cs) (hu : Try.prog.underlying ty = some d) (hd : d.isRow = true) (hi : (Try.prog.info? ty).map (·.size) = some cs.length) :
    (results fn tmps).run Try.prog w = .ok (.tuple #[.agg cs.toArray, tmps.getD u undef]) w := by
  rw [results_cell_tmp h, hp]
  simp only [asAddr, Sem.run_pure, Result.andThen_ok, run_loadVar_mid w b 0 ty cs d hc hu hd hi]
theorem info28 : (Try.prog.info? 28).map (fun i => (i.size)) = some 1 := by kernel_rfl
theorem run_eql_nil (w : World) (a : Option Addr) (l c : Nat) : (binOp .eql 28 (.slice a l c) (.slice none 0 0)).run Try.prog w = .ok (.bool a.isNone) w := by
  simp only [binOp]
  simp [run_equal_slice_nil w 28 9 a l c Try.underlying28]
def RetO (w : World) (xs : List Bs) (e : Ending) (w' : World) : Prop := ∃ A c, e = .returned (.slice A xs.length c) ∧ Own w' w.heap.size A c xs ∧ Below w.heap.size w w'

set_option maxHeartbeats 2000000 in
theorem clone_any (A : Option Addr) (n c B : Nat) (xs : List Bs) (w : World) (hn : n = xs.length) (hm : n ≤ 60000) (hB : B ≤ w.heap.size) (h : Strs w B A xs) : Calls Try.prog 28 #[.slice A n c] w (RetO w xs) := by
  obtain ⟨i0, hi, hz0, hz1, hz2⟩ := info_parts info9
  have hq := run_eql_nil
  cases A with
  | none =>
    have hx : xs = [] := by
      cases xs with
      | nil => rfl
      | cons y ys => obtain ⟨ad, e, _⟩ := h (by simp); cases e
    subst hx
    have HF := Lib.hid (show RetO w [] (.returned (.slice none 0 0)) w from ⟨none, 0, rfl, World.ownsRow_nil _ _ _ _, Below.refl _ _⟩)
    clear hi hz0 hz1 hz2 h
    go_enter Try.func28, Try.ntmps28
    go_wp2_with fail
    go_ret
    exact HF.out
  | some ad =>
    have HO := Lib.hid (show (w.alloc (.cells #[] 9)).ownsRow w.heap.size 9 1 (.slice (some ⟨w.heap.size, 0, none⟩) 0 0) 0 (([] : List Bs).map Sv) from ⟨rfl, .inr ⟨w.heap.size, 0, #[], rfl, Nat.le_refl _, heap_alloc_new w _, Nat.le_refl _, by unfold maxLen; omega, rfl, rfl⟩⟩)
    have HS := Lib.hid (fun ob => (h.keep fun p hp => (below_alloc w ob).cell (p := p) (Nat.lt_of_lt_of_le hp hB)))
    have HN := Lib.hid hn
    have HL := Lib.hid hm
    by_cases h0 : xs = []
    · subst h0
      subst hn
      have HF := Lib.hid (fun ob (hob : ob = Obj.cells #[] 9 (0, 0)) => (show RetO w [] (.returned (.slice (some ⟨w.heap.size, 0, none⟩) 0 0)) (w.alloc ob) from ⟨some ⟨w.heap.size, 0, none⟩, 0, rfl, by subst hob; exact HO.out, below_alloc _ _⟩))
      clear h HS hi hz0 hz1 hz2
      go_enter Try.func28, Try.ntmps28
      go_wp2_with fail
      go_ret
      exact HF.out _ rfl
    · have hpos : 0 < n := by rw [hn]; exact List.length_pos_iff.2 h0
      have HX := Lib.hid (fun ob => (show ∀ j u, (xs.map Sv)[j]? = some u → (w.alloc ob).cell? (ad.add j) = some u from fun j u hj => by
        rw [List.getElem?_map, Option.map_eq_some_iff] at hj
        obtain ⟨y, hy, rfl⟩ := hj
        obtain ⟨ad', e, hb', hc⟩ := h (by rw [← hn]; exact hpos)
        cases e
        rw [(below_alloc w ob).cell (p := ad.add j) (by rw [pa.addr_block]; omega)]
        exact hc j y hy))
      have H1 := Lib.hid (show ∀ u ∈ xs.map Sv, u.oneCell' = true from fun u hu => by simp at hu; obtain ⟨_, _, rfl⟩ := hu; rfl)
      have HF := Lib.hid (fun v' (w' : World) ob (ho : w'.ownsRow w.heap.size 9 1 v' (0 + n) (([] : List Bs).map Sv ++ xs.map Sv)) (hg : (w.alloc ob).grownBy w' (Value.slice (some ⟨w.heap.size, 0, none⟩) 0 0).ownBlock) => (show RetO w xs (.returned v') w' by
        rw [List.map_nil, List.nil_append] at ho
        obtain ⟨A', c', rfl, h1, h2⟩ := own_form ho
        refine ⟨A', c', rfl, h1, ?_⟩
        have hb := below_alloc w ob
        exact ⟨hg.os.trans hb.os, hg.tape.trans hb.tape, hg.output.trans hb.output, Nat.le_trans hb.size hg.size, fun k hk => (hg.block k (Nat.lt_of_lt_of_le hk hb.size) (fun e => by simp [Value.ownBlock] at e; omega)).trans (hb.block k hk)⟩))
      have HLM := Lib.hid (show (xs.map Sv).length = n * 1 by rw [List.length_map]; omega)
      generalize xs.map Sv = ys at *
      clear h h0 hn HS HN
      go_enter Try.func28, Try.ntmps28
      go_wp2_with (at_builtin; refine wpList_append_own _ rfl (.tmp 5) (.tmp 6) 28 rfl w.heap.size 9 i0 _ 1 16 Try.underlying28 hi hz0 hz1 hz2 rfl (by decide) _ 0 _ rfl HO.out ad n c ys rfl HLM.out (HX.out _) H1.out (by unfold maxLen; omega) (by omega) (by simp) ?_; intro v1 w3 hown1 hgrow1 _)
      go_ret
      exact HF.out _ _ _ hown1 hgrow1
end Go.Proofs.Ytfbdhpbnmjacmaa.ds
