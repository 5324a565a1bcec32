/- Part 28 of what is known of the program's functions and of the document's words: contracts, and the mathematics beneath them. -/
import Derived.Test.YtpmpbmjjlccbbaaGreatProg
import Derived.Test.YtpmpbmjjlccbbaaGreatZ22
import Derived.Below
import Derived.Deep.MidRow
import Derived.Deep.RegionHeld3
import Derived.Deep.RegionWith
import Derived.Deep.QuietTactic
import Derived.BigQuiet
import Derived.Laws.ResultCell
import Derived.Laws.AppendOwn
import Derived.Laws.Cover3
set_option linter.unusedVariables false
set_option linter.unusedSimpArgs false
set_option maxRecDepth 100000
set_option maxHeartbeats 8000000
namespace Go.Proofs.YtpmpbmjjlccbbaaGreat.ds
structure De where
 ino : Int
 flag : Int
 off : Int
 isd : Bool
 ns : List (List UInt8)
 pos : Int
def dz : De := ⟨0, 0, 0, false, [], 0⟩
abbrev Tb := Nat → Option De
def em : Tb := fun _ => none
def low (T : Tb) : Option Nat := (List.range 32).find? fun k => (T k).isNone
def put (T : Tb) (k : Nat) (d : Option De) : Tb := fun j => if j = k then d else T j
def spot (T : Tb) (fd : Int) : Option De := if 0 ≤ fd ∧ fd < 32 then T fd.toNat else none
def lowV (T : Tb) : Int × Int := match low T with | none => (0, 24) | some k => (k, 0)
def openT (T : Tb) (d : De) : Tb := match low T with | none => T | some k => put T k (some d)
def getV (T : Tb) (fd : Int) : De × Int := match spot T fd with | none => (dz, 9) | some d => (d, 0)
def errV (T : Tb) (fd : Int) : Int := match spot T fd with | none => 9 | some _ => 0
def setT (T : Tb) (fd : Int) (d : De) : Tb := match spot T fd with | none => T | some _ => put T fd.toNat (some d)
def closeT (T : Tb) (fd : Int) : Tb := match spot T fd with | none => T | some _ => put T fd.toNat none
def cnt (T : Tb) (n : Nat) : Nat := (List.range n).countP fun k => (T k).isSome
def allT (T : Tb) (n : Nat) : List Nat := (List.range n).filter fun k => (T k).isSome
def full (T : Tb) : Bool := (low T).isNone
theorem put_same (T : Tb) (k : Nat) (d : Option De) : put T k d k = d := by unfold put; rw [if_pos rfl]
theorem put_other (T : Tb) {j k : Nat} (d : Option De) (h : j ≠ k) : put T k d j = T j := by unfold put; rw [if_neg h]
theorem low_some {T : Tb} {k : Nat} (h : low T = some k) : k < 32 ∧ T k = none ∧ ∀ j, j < k → T j ≠ none := by
  unfold low at h
  obtain ⟨hp, as1, bs, he, ha⟩ := List.find?_eq_some_iff_append.1 h
  have hk : k < 32 := by have : k ∈ List.range 32 := by rw [he]; simp
                         simpa using this
  refine ⟨hk, by simpa using hp, fun j hj hn => ?_⟩
  have hj32 : j ∈ List.range 32 := by simp; omega
  have hl : as1.length = k := by
    have h1 : (List.range 32)[as1.length]? = some k := by rw [he]; simp
    have h2 := (List.getElem?_eq_some_iff.1 h1)
    obtain ⟨h3, h4⟩ := h2
    simpa using h4
  have hja : j ∈ as1 := by
    have h1 : (List.range 32)[j]? = some j := by rw [List.getElem?_range (by omega)]
    rw [he, List.getElem?_append_left (by omega)] at h1
    exact List.mem_of_getElem? h1
  have := ha j hja
  rw [hn] at this
  exact absurd this (by simp)
theorem low_none {T : Tb} (h : low T = none) : ∀ j, j < 32 → T j ≠ none := by
 intro j hj hn
 unfold low at h
 rw [List.find?_eq_none] at h
 exact h j (by simp; omega) (by rw [hn]; rfl)
theorem low_of {T : Tb} {k : Nat} (h1 : k < 32) (h2 : T k = none) (h3 : ∀ j, j < k → T j ≠ none) : low T = some k := by
 cases h : low T with
 | none => exact absurd h2 (low_none h k h1)
 | some m =>
  obtain ⟨m1, m2, m3⟩ := low_some h
  rcases Nat.lt_trichotomy m k with h4 | h4 | h4
  ·exact absurd m2 (h3 m h4)
  ·rw [h4]
  ·exact absurd h2 (m3 k h4)
theorem low_no {T : Tb} (h : ∀ j, j < 32 → T j ≠ none) : low T = none := by
 cases h' : low T with
 | none => rfl
 | some m => obtain ⟨m1, m2, _⟩ := low_some h'; exact absurd m2 (h m m1)
theorem cnt_succ (T : Tb) (n : Nat) : cnt T (n + 1) = cnt T n + if (T n).isSome = true then 1 else 0 := by
 unfold cnt
 rw [List.range_succ, List.countP_append, List.countP_cons, List.countP_nil, Nat.zero_add]
theorem cnt_le (T : Tb) (n : Nat) : cnt T n ≤ n := by
 induction n with
 | zero => exact Nat.le_refl _
 | succ n ih => rw [cnt_succ]; split <;> omega
theorem all_len (T : Tb) (n : Nat) : (allT T n).length = cnt T n := by
 unfold allT cnt
 rw [List.countP_eq_length_filter]
theorem all_succ_in {T : Tb} {n : Nat} {d : De} (h : T n = some d) : allT T (n + 1) = allT T n ++ [n] := by
 unfold allT
 rw [List.range_succ, List.filter_append]
 simp [h]
theorem all_succ_out {T : Tb} {n : Nat} (h : T n = none) : allT T (n + 1) = allT T n := by
 unfold allT
 rw [List.range_succ, List.filter_append]
 simp [h]
theorem spot_some {T : Tb} {fd : Int} {d : De} (h : spot T fd = some d) : ∃ k : Nat, fd = (k : Int) ∧ k < 32 ∧ T k = some d := by
 unfold spot at h
 split at h
 ·rename_i h1
  exact ⟨fd.toNat, by omega, by omega, h⟩
 ·cases h
theorem spot_nat {T : Tb} {k : Nat} (h : k < 32) : spot T (k : Int) = T k := by
 unfold spot
 rw [if_pos ⟨by omega, by omega⟩, Int.toNat_natCast]
end Go.Proofs.YtpmpbmjjlccbbaaGreat.ds
namespace Go.Proofs.YtpmpbmjjlccbbaaGreat.ds
open Go.RowKit
open pa (Bs Sv Strs Own own_form info9 own_base)
theorem below_alloc (w : World) (o : Obj) : Below w.heap.size w (w.alloc o) := (Below.refl _ _).alloc (Nat.le_refl _) _
theorem below_step {w0 w w' : World} (h : Below w0.heap.size w0 w) (hb : Below w.heap.size w w') : Below w0.heap.size w0 w' := h.trans (hb.mono h.size)
abbrev Pq (B : Nat) : Value := .pointer (some ⟨B, 0, none⟩)
def DL (A : Option Addr) (n c : Nat) (d : De) : List Value := [.int .i64 d.ino, .int .i64 d.flag, .int .i64 d.off, .bool d.isd, .slice A n c, .int .i64 d.pos]
def DV (A : Option Addr) (n c : Nat) (d : De) : Value := .agg #[.int .i64 d.ino, .int .i64 d.flag, .int .i64 d.off, .bool d.isd, .slice A n c, .int .i64 d.pos]
structure Only (F : Nat → Prop) (w w' : World) : Prop where
 os : w'.os = w.os
 tape : w'.tape = w.tape
 output : w'.output = w.output
 size : w.heap.size ≤ w'.heap.size
 block : ∀ k, k < w.heap.size → ¬ F k → w'.heap[k]? = w.heap[k]?
theorem Only.refl (F : Nat → Prop) (w : World) : Only F w w := ⟨rfl, rfl, rfl, Nat.le_refl _, fun _ _ _ => rfl⟩
theorem Only.trans {F : Nat → Prop} {w w1 w2 : World} (h : Only F w w1) (k : Only F w1 w2) : Only F w w2 :=
 ⟨k.os.trans h.os, k.tape.trans h.tape, k.output.trans h.output, Nat.le_trans h.size k.size, fun j hj hF => (k.block j (Nat.lt_of_lt_of_le hj h.size) hF).trans (h.block j hj hF)⟩
theorem Only.of_below {F : Nat → Prop} {w w' : World} (h : Below w.heap.size w w') : Only F w w' := ⟨h.os, h.tape, h.output, h.size, fun k hk _ => h.block k hk⟩
theorem Only.below {F : Nat → Prop} {w0 w w' : World} (h : Below w0.heap.size w0 w) (ho : Only F w w') (hF : ∀ b, F b → w0.heap.size ≤ b) : Below w0.heap.size w0 w' :=
 h.trans ⟨ho.os, ho.tape, ho.output, ho.size, fun k hk => ho.block k (Nat.lt_of_lt_of_le hk h.size) (fun e => by have := hF k e; omega)⟩
theorem only_cell (w : World) (a : Addr) (v : Value) : Only (fun b => b = a.block) w (w.setCell a v) := ⟨rfl, rfl, rfl, by simp [World.setCell], fun k hk hF => Below.heap_setCell _ _ _ _ hF⟩
theorem Only.mono {F G : Nat → Prop} {w w' : World} (h : Only F w w') (hG : ∀ b, F b → G b) : Only G w w' := ⟨h.os, h.tape, h.output, h.size, fun k hk hk2 => h.block k hk (fun e => hk2 (hG k e))⟩
def Nm (w : World) (tg : Nat → Nat) (A : Option Addr) (xs : List Bs) : Prop := 0 < xs.length → ∃ ad, A = some ad ∧ tg ad.block = 100 ∧ ∀ j x, xs[j]? = some x → w.cell? (ad.add j) = some (Sv x)
def Bx (w : World) (tg : Nat → Nat) (b : Nat) (d : De) : Prop := ∃ A c, w.rangeAt b 0 (DL A d.ns.length c d) ∧ (∀ j, w.frozen? ⟨b, j, none⟩ = false) ∧ d.ns.length ≤ c ∧ c ≤ maxLen ∧ Nm w tg A d.ns
def Slot (w : World) (P : Nat) (tg : Nat → Nat) (k : Nat) : Option De → Prop
 | none => w.cell? ⟨P, k, none⟩ = some (.pointer none)
 | some d => ∃ b, w.cell? ⟨P, k, none⟩ = some (Pq b) ∧ tg b = 2 + k ∧ d.ns.length ≤ 4000 ∧ Bx w tg b d
structure TbX (w0 w : World) (P : Nat) (tg : Nat → Nat) (T : Tb) : Prop where
 own : ∀ b, tg b ≠ 0 → w0.heap.size ≤ b ∧ b < w.heap.size
 tp : tg P = 1
 bel : Below w0.heap.size w0 w
 fz : ∀ k, w.frozen? ⟨P, k, none⟩ = false
 slot : ∀ k, k < 32 → Slot w P tg k (T k)
structure Kp (tg tg' : Nat → Nat) (w w' : World) : Prop where
 only : Only (fun b => tg b ≠ 0) w w'
 tag : ∀ b, b < w.heap.size → tg' b ≠ 0 → tg b ≠ 0
theorem Kp.of_below {tg : Nat → Nat} {w w' : World} (h : Below w.heap.size w w') : Kp tg tg w w' := ⟨Only.of_below h, fun _ _ h => h⟩
section
variable {w0 w w' : World} {P : Nat} {tg tg' : Nat → Nat} {T : Tb}
theorem Nm.keep {A : Option Addr} {xs : List Bs} (h : Nm w tg A xs) (hk : ∀ b, tg b ≠ 0 → w'.heap[b]? = w.heap[b]?) : Nm w' tg A xs := fun hn => by
 obtain ⟨ad, e, h1, h2⟩ := h hn
 exact ⟨ad, e, h1, fun j x hx => (World.cell?_of_block (by rw [pa.addr_block]; exact hk _ (by omega))).trans (h2 j x hx)⟩
theorem Bx.keep {b : Nat} {d : De} (h : Bx w tg b d) (hb : tg b ≠ 0) (hk : ∀ b, tg b ≠ 0 → w'.heap[b]? = w.heap[b]?) : Bx w' tg b d := by
 obtain ⟨A, c, h1, h2, h3, h4, h5⟩ := h
 exact ⟨A, c, fun j v hv => (World.cell?_of_block (a := ⟨b, 0 + j, none⟩) (hk b hb)).trans (h1 j v hv), fun j => (World.frozen?_of_block (a := ⟨b, j, none⟩) (hk b hb)).trans (h2 j), h3, h4, h5.keep hk⟩
theorem Slot.keep {k : Nat} {o : Option De} (h : Slot w P tg k o) (hP : tg P ≠ 0) (hk : ∀ b, tg b ≠ 0 → w'.heap[b]? = w.heap[b]?) : Slot w' P tg k o := by
 cases o with
 | none => exact (World.cell?_of_block (a := ⟨P, k, none⟩) (hk P hP)).trans h
 | some d =>
  obtain ⟨b, h1, h2, h3, h4⟩ := h
  exact ⟨b, (World.cell?_of_block (a := ⟨P, k, none⟩) (hk P hP)).trans h1, h2, h3, h4.keep (by omega) hk⟩
theorem TbX.keep (h : TbX w0 w P tg T) (hb : Below w0.heap.size w0 w') (hs : w.heap.size ≤ w'.heap.size) (hk : ∀ b, tg b ≠ 0 → w'.heap[b]? = w.heap[b]?) : TbX w0 w' P tg T :=
 ⟨fun b h1 => ⟨(h.own b h1).1, Nat.lt_of_lt_of_le (h.own b h1).2 hs⟩, h.tp, hb, fun k => (World.frozen?_of_block (a := ⟨P, k, none⟩) (hk P (by rw [h.tp]; decide))).trans (h.fz k), fun k hk32 => (h.slot k hk32).keep (by rw [h.tp]; decide) hk⟩
theorem TbX.below (h : TbX w0 w P tg T) (hb : Below w.heap.size w w') : TbX w0 w' P tg T :=
 h.keep (below_step h.bel hb) hb.size fun b hb2 => hb.block b (h.own b hb2).2
theorem TbX.apart (h : TbX w0 w P tg T) {F : Nat → Prop} (ho : Only F w w') (hF : ∀ b, F b → w0.heap.size ≤ b ∧ tg b = 0) : TbX w0 w' P tg T :=
 h.keep (ho.below h.bel fun b hb => (hF b hb).1) ho.size fun b hb2 => ho.block b (h.own b hb2).2 fun e => hb2 (hF b e).2
theorem TbX.lo (h : TbX w0 w P tg T) : w0.heap.size ≤ P ∧ P < w.heap.size := h.own P (by rw [h.tp]; decide)
end
theorem cell_row {w : World} {B j : Nat} {vs : Array Value} {t : TypeId} {m : Nat × Nat} (h : w.heap[B]? = some (.cells vs t m)) : w.cell? ⟨B, j, none⟩ = vs[j]? := by simp [World.cell?, h]
theorem results_row_tmp {fn : Func} {p u : Tmp} {ty : TypeId} (h : fn.results = #[.cell p ty, .tmp u]) (tmps : Array Value) (w : World) (b : Nat) (cs : List Value) (d : TypeDesc)
  (hp : tmps.getD p undef = .pointer (some ⟨b, 0, none⟩)) (hc : w.rangeAt b 0 cs) (hu : Tryz.prog.underlying ty = some d) (hd : d.isRow = true) (hi : (Tryz.prog.info? ty).map (·.size) = some cs.length) :
  (results fn tmps).run Tryz.prog w = .ok (.tuple #[.agg cs.toArray, tmps.getD u undef]) w := by
 rw [results_cell_tmp h, hp]
 simp only [asAddr, Sem.run_pure, Result.andThen_ok, run_loadVar_mid w b 0 ty cs d hc hu hd hi]
theorem run_eql_nil (w : World) (a : Option Addr) (l c : Nat) : (binOp .eql 48 (.slice a l c) (.slice none 0 0)).run Tryz.prog w = .ok (.bool a.isNone) w := by
 simp only [binOp]
 simp [run_equal_slice_nil w 48 9 a l c Tryz.underlying48]
def RetO (w : World) (xs : List Bs) (e : Ending) (w' : World) : Prop := ∃ A c, e = .returned (.slice A xs.length c) ∧ Own w' w.heap.size A c xs ∧ Below w.heap.size w w'
theorem clone_any (A : Option Addr) (n c B : Nat) (xs : List Bs) (w : World) (hn : n = xs.length) (hm : n ≤ 60000) (hB : B ≤ w.heap.size) (h : Strs w B A xs) : Calls Tryz.prog 196 #[.slice A n c] w (RetO w xs) := by
 obtain ⟨i0, hi, hz0, hz1, hz2⟩ := info_parts info9
 have hq := run_eql_nil
 cases A with
 | none =>
  have hx : xs = [] := by
   cases xs with
   | nil => rfl
   | cons y ys => obtain ⟨ad, e, _⟩ := h (by simp); cases e
  subst hx
  have HF := Lib.hid (show RetO w [] (.returned (.slice none 0 0)) w from ⟨none, 0, rfl, World.ownsRow_nil _ _ _ _, Below.refl _ _⟩)
  clear hi hz0 hz1 hz2 h
  go_enter Tryz.func196, Tryz.ntmps196
  go_wp2_with fail
  go_ret
  exact HF.out
 | some ad =>
  have HO := Lib.hid (show (w.alloc (.cells #[] 9)).ownsRow w.heap.size 9 1 (.slice (some ⟨w.heap.size, 0, none⟩) 0 0) 0 (([] : List Bs).map Sv) from ⟨rfl, .inr ⟨w.heap.size, 0, #[], rfl, Nat.le_refl _, heap_alloc_new w _, Nat.le_refl _, by unfold maxLen; omega, rfl, rfl⟩⟩)
  have HS := Lib.hid (fun ob => (h.keep fun p hp => (below_alloc w ob).cell (p := p) (Nat.lt_of_lt_of_le hp hB)))
  have HN := Lib.hid hn
  have HL := Lib.hid hm
  by_cases h0 : xs = []
  ·subst h0
   subst hn
   have HF := Lib.hid (fun ob (hob : ob = Obj.cells #[] 9 (0, 0)) => (show RetO w [] (.returned (.slice (some ⟨w.heap.size, 0, none⟩) 0 0)) (w.alloc ob) from ⟨some ⟨w.heap.size, 0, none⟩, 0, rfl, by subst hob; exact HO.out, below_alloc _ _⟩))
   clear h HS hi hz0 hz1 hz2
   go_enter Tryz.func196, Tryz.ntmps196
   go_wp2_with fail
   go_ret
   exact HF.out _ rfl
  ·have hpos : 0 < n := by rw [hn]; exact List.length_pos_iff.2 h0
   have HX := Lib.hid (fun ob => (show ∀ j u, (xs.map Sv)[j]? = some u → (w.alloc ob).cell? (ad.add j) = some u from fun j u hj => by
    rw [List.getElem?_map, Option.map_eq_some_iff] at hj
    obtain ⟨y, hy, rfl⟩ := hj
    obtain ⟨ad', e, hb', hc⟩ := h (by rw [← hn]; exact hpos)
    cases e
    rw [(below_alloc w ob).cell (p := ad.add j) (by rw [pa.addr_block]; omega)]
    exact hc j y hy))
   have H1 := Lib.hid (show ∀ u ∈ xs.map Sv, u.oneCell' = true from fun u hu => by simp at hu; obtain ⟨_, _, rfl⟩ := hu; rfl)
   have HF := Lib.hid (fun v' (w' : World) ob (ho : w'.ownsRow w.heap.size 9 1 v' (0 + n) (([] : List Bs).map Sv ++ xs.map Sv)) (hg : (w.alloc ob).grownBy w' (Value.slice (some ⟨w.heap.size, 0, none⟩) 0 0).ownBlock) => (show RetO w xs (.returned v') w' by
    rw [List.map_nil, List.nil_append] at ho
    obtain ⟨A', c', rfl, h1, h2⟩ := own_form ho
    refine ⟨A', c', rfl, h1, ?_⟩
    have hb := below_alloc w ob
    exact ⟨hg.os.trans hb.os, hg.tape.trans hb.tape, hg.output.trans hb.output, Nat.le_trans hb.size hg.size, fun k hk => (hg.block k (Nat.lt_of_lt_of_le hk hb.size) (fun e => by simp [Value.ownBlock] at e; omega)).trans (hb.block k hk)⟩))
   have HLM := Lib.hid (show (xs.map Sv).length = n * 1 by rw [List.length_map]; omega)
   generalize xs.map Sv = ys at *
   clear h h0 hn HS HN
   go_enter Tryz.func196, Tryz.ntmps196
   go_wp2_with (at_builtin; refine wpList_append_own _ rfl (.tmp 5) (.tmp 6) 48 rfl w.heap.size 9 i0 _ 1 16 Tryz.underlying48 hi hz0 hz1 hz2 rfl (by decide) _ 0 _ rfl HO.out ad n c ys rfl HLM.out (HX.out _) H1.out (by unfold maxLen; omega) (by omega) (by simp) ?_; intro v1 w3 hown1 hgrow1 _)
   go_ret
   exact HF.out _ _ _ hown1 hgrow1
theorem results_row {fn : Func} {p : Tmp} {ty : TypeId} (h : fn.results = #[.cell p ty]) (tmps : Array Value) (w : World) (b : Nat) (cs : List Value) (d : TypeDesc)
  (hp : tmps.getD p undef = .pointer (some ⟨b, 0, none⟩)) (hc : w.rangeAt b 0 cs) (hu : Tryz.prog.underlying ty = some d) (hd : d.isRow = true) (hi : (Tryz.prog.info? ty).map (·.size) = some cs.length) :
  (results fn tmps).run Tryz.prog w = .ok (.agg cs.toArray) w := by
 rw [Array.getD_eq_getD_getElem?] at hp
 simp only [results, h]
 simp [Sem.run_bind, Result.andThen, hp, asAddr, run_loadVar_mid w b 0 ty cs d hc hu hd hi]
theorem only_at (w : World) (b j : Nat) (v : Value) : Only (fun k => k = b) w (w.setCell ⟨b, j, none⟩ v) := only_cell w ⟨b, j, none⟩ v
theorem range6 {w : World} {b : Nat} {x0 x1 x2 x3 x4 x5 : Value} (h0 : w.cell? ⟨b, 0, none⟩ = some x0) (h1 : w.cell? ⟨b, 1, none⟩ = some x1) (h2 : w.cell? ⟨b, 2, none⟩ = some x2) (h3 : w.cell? ⟨b, 3, none⟩ = some x3) (h4 : w.cell? ⟨b, 4, none⟩ = some x4) (h5 : w.cell? ⟨b, 5, none⟩ = some x5) : w.rangeAt b 0 [x0, x1, x2, x3, x4, x5] := by
 intro j v hv
 rw [Nat.zero_add]
 match j, hv with
 | 0, hv => cases hv; exact h0
 | 1, hv => cases hv; exact h1
 | 2, hv => cases hv; exact h2
 | 3, hv => cases hv; exact h3
 | 4, hv => cases hv; exact h4
 | 5, hv => cases hv; exact h5
 | j + 6, hv => simp at hv
def set6 (w : World) (b : Nat) (x0 x1 x2 x3 x4 x5 : Value) : World := w.setCells b 0 [x0, x1, x2, x3, x4, x5]
theorem set6_form (w : World) (b : Nat) (x0 x1 x2 x3 x4 x5 : Value) : ((((((w.setCell ⟨b, 0, none⟩ x0).setCell ⟨b, 1, none⟩ x1).setCell ⟨b, 2, none⟩ x2).setCell ⟨b, 3, none⟩ x3).setCell ⟨b, 4, none⟩ x4).setCell ⟨b, 5, none⟩ x5) = set6 w b x0 x1 x2 x3 x4 x5 := rfl
theorem set6_range {w : World} {b : Nat} (h : w.there b 0 6) (x0 x1 x2 x3 x4 x5 : Value) : (set6 w b x0 x1 x2 x3 x4 x5).rangeAt b 0 [x0, x1, x2, x3, x4, x5] := World.rangeAt_setCells_same w b 0 _ h
theorem only_trans {B : Nat} {w w1 w2 : World} (h : Only (fun b => b = B) w w1) (k : Only (fun b => b = B) w1 w2) : Only (fun b => b = B) w w2 := h.trans k
theorem set6_only (w : World) (b : Nat) (x0 x1 x2 x3 x4 x5 : Value) : Only (fun k => k = b) w (set6 w b x0 x1 x2 x3 x4 x5) := by
 rw [← set6_form]
 exact only_trans (only_trans (only_trans (only_trans (only_trans (only_at _ _ _ _) (only_at _ _ _ _)) (only_at _ _ _ _)) (only_at _ _ _ _)) (only_at _ _ _ _)) (only_at _ _ _ _)
theorem there_row {w : World} {b : Nat} {vs : Array Value} {t : TypeId} (h : w.heap[b]? = some (.cells vs t (0, 0))) (hs : vs.size = 6) : w.there b 0 6 := fun j hj =>
 ⟨by rw [cell_row h, Nat.zero_add, Array.getElem?_eq_getElem (by omega)]; rfl, by simp [World.frozen?, h]⟩
theorem own_nm {w : World} {lo : Nat} {tg : Nat → Nat} {A : Option Addr} {c : Nat} {xs : List Bs} (h : Own w lo A c xs) (ht : ∀ b, lo ≤ b → b < w.heap.size → tg b = 100) : Nm w tg A xs := fun hn => by
 obtain ⟨ad, e, h1, h2⟩ := h.strs hn
 refine ⟨ad, e, ht _ ?_ h1, h2⟩
 rcases h.2 with ⟨e1, h0⟩ | ⟨g, cap, cur, hv, hb, hg, _⟩
 ·rw [h0] at hn; exact absurd hn (by decide)
 ·injection hv with hA
  rw [e] at hA
  injection hA with hA
  subst hA
  exact hb
theorem own_cap {w : World} {lo c : Nat} {A : Option Addr} {xs : List Bs} (h : Own w lo A c xs) : xs.length ≤ c ∧ c ≤ maxLen := by
 rcases h.2 with ⟨e1, h0⟩ | ⟨g, cap, cur, hv, hb, hg, hl, hm, _⟩
 ·injection e1 with _ _ e3
  rw [h0, e3]; exact ⟨Nat.le_refl _, by unfold maxLen; omega⟩
 ·injection hv with _ _ hc
  rw [hc]; exact ⟨hl, hm⟩
theorem own_only {w w' : World} {lo c : Nat} {A : Option Addr} {xs : List Bs} {F : Nat → Prop} (h : Own w lo A c xs) (ho : Only F w w') (hF : ∀ b, F b → b < lo ∨ w.heap.size ≤ b) : Own w' lo A c xs := by
 refine ⟨h.1, ?_⟩
 rcases h.2 with h2 | ⟨g, cap, cur, hv, hgb, hg, r⟩
 ·exact .inl h2
 ·exact .inr ⟨g, cap, cur, hv, hgb, (ho.block g (by rcases Nat.lt_or_ge g w.heap.size with h | h; exact h; rw [Array.getElem?_eq_none h] at hg; cases hg) (fun e => by
   have := hF g e
   have : g < w.heap.size := by rcases Nat.lt_or_ge g w.heap.size with h | h; exact h; rw [Array.getElem?_eq_none h] at hg; cases hg
   omega)).trans hg, r⟩
def CopE (w : World) (d : De) (e : Ending) (w' : World) : Prop := ∃ A c, e = .returned (DV A d.ns.length c d) ∧ Own w' w.heap.size A c d.ns ∧ Below w.heap.size w w'
theorem copied_any (A : Option Addr) (n c B : Nat) (d : De) (w : World) (hn : n = d.ns.length) (hm : n ≤ 60000) (hB : B ≤ w.heap.size) (h : Strs w B A d.ns) : Calls Tryz.prog 168 #[DV A n c d] w (CopE w d) := by
 have HC := Lib.hid (fun w2 (hb : Below w.heap.size w w2) => clone_any A n c B d.ns w2 hn hm (Nat.le_trans hB hb.size) (h.keep fun p hp => hb.cell (p := p) (Nat.lt_of_lt_of_le hp hB)))
 obtain ⟨d0, d1, d2, d3, xs, d5⟩ := d
 dsimp only [DV, CopE] at HC ⊢
 dsimp only at hn
 subst hn
 clear h hm hB
 obtain ⟨b, hb⟩ : ∃ b, w.heap.size = b := ⟨_, rfl⟩
 obtain ⟨w1, hw1⟩ : ∃ w1, w.alloc (.cells #[.int .i64 d0, .int .i64 d1, .int .i64 d2, .bool d3, .slice A xs.length c, .int .i64 d5] 72) = w1 := ⟨_, rfl⟩
 have hb1 : w1.heap.size = b + 1 := by rw [← hw1, World.size_alloc, hb]
 obtain ⟨w2, hw2⟩ : ∃ w2, w1.alloc (.cells #[.int .i64 0, .int .i64 0, .int .i64 0, .bool false, .slice none 0 0, .int .i64 0] 72) = w2 := ⟨_, rfl⟩
 have HB2 := Lib.hid (show Below w.heap.size w w2 by rw [← hw2, ← hw1]; exact below_step (below_alloc _ _) (below_alloc _ _))
 have r1 : w2.heap[b]? = some (.cells #[.int .i64 d0, .int .i64 d1, .int .i64 d2, .bool d3, .slice A xs.length c, .int .i64 d5] 72 (0, 0)) := by
  rw [← hw2, (below_alloc w1 _).block b (by omega), ← hw1, ← hb]; exact heap_alloc_new w _
 have r2 : w2.heap[b + 1]? = some (.cells #[.int .i64 0, .int .i64 0, .int .i64 0, .bool false, .slice none 0 0, .int .i64 0] 72 (0, 0)) := by
  rw [← hw2, ← hb1]; exact heap_alloc_new w1 _
 have hs2 : w2.heap.size = b + 2 := by rw [← hw2, World.size_alloc, hb1]
 have HK := Lib.hid (HC.out w2 HB2.out)
 have c4 : w2.cell? ⟨b, 4, none⟩ = some (.slice A xs.length c) := by rw [cell_row r1]; rfl
 have R1 := Lib.hid r1
 have R2 := Lib.hid r2
 clear HC r1 r2
 go_enter Tryz.func168, Tryz.ntmps168
 go_wp2_with fail
 refine HK.out.mono ?_
 rintro _ w3 ⟨A', c', rfl, hown, hb3⟩
 have q1 := (hb3.block b (by omega)).trans R1.out
 have q2 := (hb3.block (b + 1) (by omega)).trans R2.out
 have f4 : w3.frozen? ⟨b, 4, none⟩ = false := by simp [World.frozen?, q1]
 have k0 : w3.cell? ⟨b, 0, none⟩ = some (.int .i64 d0) := by rw [cell_row q1]; rfl
 have k1 : w3.cell? ⟨b, 1, none⟩ = some (.int .i64 d1) := by rw [cell_row q1]; rfl
 have k2 : w3.cell? ⟨b, 2, none⟩ = some (.int .i64 d2) := by rw [cell_row q1]; rfl
 have k3 : w3.cell? ⟨b, 3, none⟩ = some (.bool d3) := by rw [cell_row q1]; rfl
 have k4 : w3.cell? ⟨b, 4, none⟩ = some (.slice A xs.length c) := by rw [cell_row q1]; rfl
 have k5 : w3.cell? ⟨b, 5, none⟩ = some (.int .i64 d5) := by rw [cell_row q1]; rfl
 obtain ⟨w4, hw4⟩ : ∃ w4, w3.setCell ⟨b, 4, none⟩ (.slice A' xs.length c') = w4 := ⟨_, rfl⟩
 have ne : ∀ i : Nat, i ≠ 4 → (⟨b, 4, none⟩ : Addr) ≠ ⟨b, i, none⟩ := fun i hi e => by injection e with _ e; exact hi e.symm
 have HL4 := Lib.hid (show w4.rangeAt b 0 [.int .i64 d0, .int .i64 d1, .int .i64 d2, .bool d3, .slice A' xs.length c', .int .i64 d5] by
  rw [← hw4]
  exact range6 ((World.cell?_setCell_other _ _ _ _ (ne 0 (by decide))).trans k0) ((World.cell?_setCell_other _ _ _ _ (ne 1 (by decide))).trans k1) ((World.cell?_setCell_other _ _ _ _ (ne 2 (by decide))).trans k2) ((World.cell?_setCell_other _ _ _ _ (ne 3 (by decide))).trans k3) (World.cell?_setCell_same' _ _ _ (by rw [k4]; rfl)) ((World.cell?_setCell_other _ _ _ _ (ne 5 (by decide))).trans k5))
 have hO4 : Only (fun k => k = b) w3 w4 := by rw [← hw4]; exact only_at _ _ _ _
 have q4 := (hO4.block (b + 1) (by have := hb3.size; omega) (by omega)).trans q2
 have HT := Lib.hid (there_row q4 rfl)
 have HE := Lib.hid (show ∀ x0 x1 x2 x3 x4 x5, Below w.heap.size w (set6 w4 (b + 1) x0 x1 x2 x3 x4 x5) ∧ Own (set6 w4 (b + 1) x0 x1 x2 x3 x4 x5) w.heap.size A' c' xs from fun x0 x1 x2 x3 x4 x5 => by
  have o1 : Only (fun k => b ≤ k ∧ k < b + 2) w3 (set6 w4 (b + 1) x0 x1 x2 x3 x4 x5) := (hO4.mono fun k e => by omega).trans ((set6_only _ _ _ _ _ _ _ _).mono fun k e => by omega)
  refine ⟨(below_step HB2.out hb3).trans ⟨o1.os, o1.tape, o1.output, o1.size, fun k hk => o1.block k (by have := HB2.out.size; have := hb3.size; omega) (by omega)⟩, ?_⟩
  have h1 := own_base hown (B' := w.heap.size) (by omega)
  refine ⟨h1.1, ?_⟩
  rcases hown.2 with h2 | ⟨g, cap, cur, hv, hgb, hg, r⟩
  ·exact .inl h2
  ·exact .inr ⟨g, cap, cur, hv, by omega, (o1.block g (by rcases Nat.lt_or_ge g w3.heap.size with h | h; exact h; rw [Array.getElem?_eq_none h] at hg; cases hg) (by omega)).trans hg, r⟩)
 clear k0 k1 k2 k3 k5 ne q1 q2 q4 hO4 hown hb3 c4
 go_wp2_with (first | refine wpList_load_mid (by rfl) 72 (.tmp 1) (by rfl) b 0 (by rfl) _ _ HL4.out Tryz.underlying72 (by rfl) (by kernel_rfl) ?_ | refine wpList_store_mid (by rfl) 72 (.tmp 2) (.tmp 7) (by rfl) (b + 1) 0 #[.int .i64 d0, .int .i64 d1, .int .i64 d2, .bool d3, .slice A' xs.length c', .int .i64 d5] (by rfl) (by rfl) HT.out (by kernel_rfl) (by simp [Value.oneCell']) ?_)
 refine bodyPost_ret (results_row rfl _ _ (b + 1) [.int .i64 d0, .int .i64 d1, .int .i64 d2, .bool d3, .slice A' xs.length c', .int .i64 d5] _ rfl (set6_range HT.out _ _ _ _ _ _) Tryz.underlying72 (by rfl) (by kernel_rfl)) rfl ?_
 exact ⟨A', c', rfl, (HE.out _ _ _ _ _ _).2, (HE.out _ _ _ _ _ _).1⟩
def StE (w : World) (v : Value) (e : Ending) (w' : World) : Prop := e = .returned v ∧ w' = w
theorem lowest_any {w0 w : World} {P : Nat} {tg : Nat → Nat} {T : Tb} (h : TbX w0 w P tg T) : Calls Tryz.prog 159 #[Pq P] w (StE w (.tuple #[.int .i64 (lowV T).1, .bool (low T).isSome])) := by
 have HS := Lib.hid h.slot
 unfold StE
 clear h
 go_enter Tryz.func159, Tryz.ntmps159
 go_wp2_with fail
 go_loopg [5] 32 (fun g s5 wr => ∃ k : Nat, g + k = 32 ∧ s5 = .int .i64 k ∧ Hid (∀ j, j < k → T j ≠ none) ∧ wr = w)
 case atStart => exact ⟨0, by omega, rfl, Lib.hid (by omega), rfl⟩
 case round =>
  obtain ⟨k, hg, rfl, HN, rfl⟩ := hrel
  by_cases hk : k < 32
  ·have hs := HS.out k hk
   cases hT : T k with
   | none =>
    rw [hT] at hs
    have c : wr.cell? ⟨P, k, none⟩ = some (.pointer none) := hs
    have HL := Lib.hid (low_of hk hT HN.out)
    clear hs hT
    go_wp2_with fail
    go_ret2
    exact ⟨by unfold lowV; rw [HL.out]; rfl, rfl⟩
   | some d =>
    rw [hT] at hs
    obtain ⟨b, c, -⟩ := hs
    have HN2 := Lib.hid (show ∀ j, j < k + 1 → T j ≠ none from fun j hj => by
     rcases Nat.lt_succ_iff_lt_or_eq.1 hj with h1 | h1
     ·exact HN.out j h1
     ·rw [h1, hT]; exact fun e => nomatch e)
    clear hT
    go_wp2_with fail
    go_roundg (gk - 1)
    case measure => omega
    case rel => exact ⟨k + 1, by omega, by go_num, HN2, rfl⟩
  ·have HL := Lib.hid (low_no (T := T) fun j hj => HN.out j (by omega))
   go_wp2_with fail
   go_ret2
   exact ⟨by unfold lowV; rw [HL.out]; rfl, rfl⟩
theorem at_out {w : World} {P : Nat} {fd : Int} (h : ¬ (0 ≤ fd ∧ fd < 32)) : Calls Tryz.prog 167 #[Pq P, .int .i64 fd] w (StE w (.pointer none)) := by
 unfold StE
 by_cases h0 : fd < 0
 ·go_enter Tryz.func167, Tryz.ntmps167
  go_wp2_with fail
  go_ret
  exact ⟨rfl, rfl⟩
 ·have h1 : 32 ≤ fd := by omega
  clear h
  go_enter Tryz.func167, Tryz.ntmps167
  go_wp2_with fail
  go_ret
  exact ⟨rfl, rfl⟩
theorem at_in {w : World} {P k : Nat} {v : Option Addr} (hk : k < 32) (hc : w.cell? ⟨P, k, none⟩ = some (.pointer v)) : Calls Tryz.prog 167 #[Pq P, .int .i64 k] w (StE w (.pointer v)) := by
 unfold StE
 go_enter Tryz.func167, Tryz.ntmps167
 go_wp2_with fail
 go_ret
 exact ⟨rfl, rfl⟩
theorem full_any {w0 w : World} {P : Nat} {tg : Nat → Nat} {T : Tb} (h : TbX w0 w P tg T) : Calls Tryz.prog 114 #[Pq P] w (StE w (.bool (full T))) := by
 have HL := Lib.hid (lowest_any h)
 unfold StE at HL ⊢
 unfold full
 obtain ⟨r, hr⟩ : ∃ r, low T = r := ⟨_, rfl⟩
 rw [hr] at HL ⊢
 generalize (lowV T).1 = v at *
 clear h hr
 cases r with
 | none =>
  go_enter Tryz.func114, Tryz.ntmps114
  go_wp2_with fail
  refine HL.out.mono ?_
  rintro _ w1 ⟨rfl, rfl⟩
  go_wp2_with fail
  go_ret
  exact ⟨rfl, rfl⟩
 | some k =>
  go_enter Tryz.func114, Tryz.ntmps114
  go_wp2_with fail
  refine HL.out.mono ?_
  rintro _ w1 ⟨rfl, rfl⟩
  go_wp2_with fail
  go_ret
  exact ⟨rfl, rfl⟩
def Iv (k : Nat) : Value := .int .i64 (k : Int)
def IntsE (w : World) (L : List Nat) (e : Ending) (w' : World) : Prop := ∃ v, e = .returned v ∧ w'.ownsRow w.heap.size 3 1 v L.length (L.map Iv) ∧ Below w.heap.size w w'
theorem own_slice {w : World} {b e sz n : Nat} {v : Value} {L : List Value} (h : w.ownsRow b e sz v n L) : ∃ A c, v = .slice A n c := by
 rcases h.2 with ⟨h1, h2⟩ | ⟨g, cap, cur, h1, _⟩
 ·exact ⟨none, 0, by rw [h1, h2]⟩
 ·exact ⟨_, cap, h1⟩
theorem cell_new1 (w : World) (v : Value) (t : TypeId) : ∀ j u, [v][j]? = some u → (w.alloc (.cells #[v] t)).cell? ((⟨w.heap.size, 0, none⟩ : Addr).add j) = some u := by
 intro j u hj
 rcases j with _ | j
 ·simp at hj
  subst hj
  simp [Addr.add]
 ·simp at hj
theorem all_le (T : Tb) (n : Nat) : (allT T n).length ≤ n := by rw [all_len]; exact cnt_le T n
theorem all_any {w0 w : World} {P : Nat} {tg : Nat → Nat} {T : Tb} (h : TbX w0 w P tg T) : Calls Tryz.prog 55 #[Pq P] w (IntsE w (allT T 32)) := by
 have HX := Lib.hid h
 obtain ⟨i0, hi, hz0, hz1, hz2⟩ := info_parts (P := Tryz.prog) (e := 3) (z := .int .i64 0) (size := 1) (bytes := 8) (by kernel_rfl)
 have HI := Lib.hid hi
 have HZ := Lib.hid (show i0.zero = some (.int .i64 0) ∧ i0.size = 1 ∧ i0.bytes = 8 from ⟨hz0, hz1, hz2⟩)
 clear h hi hz0 hz1 hz2
 go_enter Tryz.func55, Tryz.ntmps55
 go_wp2_with fail
 go_loopg [3, 5] 32 (fun g s3 s5 wr => ∃ k : Nat, g + k = 32 ∧ s5 = .int .i64 k ∧ Hid (wr.ownsRow w.heap.size 3 1 s3 (allT T k).length ((allT T k).map Iv)) ∧ Hid (Below w.heap.size w wr))
 case atStart => exact ⟨0, by omega, rfl, Lib.hid (World.ownsRow_nil _ _ _ _), Lib.hid (Below.refl _ _)⟩
 case round =>
  obtain ⟨k, hg, rfl, HO, HB⟩ := hrel
  have HLE := Lib.hid (all_le T k)
  obtain ⟨L, hL⟩ : ∃ L, L = allT T k := ⟨_, rfl⟩
  obtain ⟨n, hn⟩ : ∃ n, n = L.length := ⟨_, rfl⟩
  rw [← hL, ← hn] at HO HLE
  have HLL := Lib.hid hL
  have HNN := Lib.hid hn
  have HW := Lib.hid HB.out.size
  clear hL hn
  by_cases hk : k < 32
  ·have hs := (HX.out.below HB.out).slot k hk
   cases hT : T k with
   | none =>
    rw [hT] at hs
    have c : wr.cell? ⟨P, k, none⟩ = some (.pointer none) := hs
    have HT := Lib.hid (all_succ_out hT)
    clear hs hT
    go_wp2_with fail
    go_roundg (gk - 1)
    case measure => omega
    case rel => exact ⟨k + 1, by omega, by go_num, by rw [HT.out, ← HLL.out, ← HNN.out]; exact HO, HB⟩
   | some d =>
    rw [hT] at hs
    obtain ⟨b, c, -⟩ := hs
    have HT := Lib.hid (all_succ_in hT)
    clear hT
    go_wp2_with (at_builtin; refine wpList_append_own _ rfl (.tmp 15) (.tmp 17) 45 rfl w.heap.size 3 i0 _ 1 8 Tryz.underlying45 HI.out HZ.out.1 HZ.out.2.1 HZ.out.2.2 rfl (by decide) u3 n (L.map Iv) rfl (HO.out.alloc _) ⟨wr.heap.size, 0, none⟩ 1 1 [Iv k] rfl rfl (cell_new1 _ _ _) (by intro u hu; simp at hu; subst hu; rfl) (by have := HLE.out; unfold maxLen; omega) (by have := HLE.out; omega) (by have := HW.out; simp; omega) ?_; intro v1 w3 hown1 hgrow1 _)
    go_roundg (gk - 1)
    case measure => omega
    case rel =>
     have hb3 : Below w.heap.size w w3 := (HB.out.alloc HW.out _).grown hgrow1 (by have := HW.out; simp; omega) (fun g h => (HO.out.lt g h).1)
     refine ⟨k + 1, by omega, by go_num, ?_, Lib.hid hb3⟩
     rw [HT.out, ← HLL.out, List.length_append, List.length_singleton, ← HNN.out, List.map_append]
     exact Lib.hid hown1
  ·have hk2 : k = 32 := by omega
   obtain ⟨A, cc, rfl⟩ := own_slice HO.out
   have HF := Lib.hid (show IntsE w (allT T 32) (.returned (.slice A n cc)) wr from ⟨_, rfl, by rw [← hk2, ← HLL.out, ← HNN.out]; exact HO.out, HB.out⟩)
   clear hk2
   go_wp2_with fail
   go_ret
   exact HF.out
end Go.Proofs.YtpmpbmjjlccbbaaGreat.ds
