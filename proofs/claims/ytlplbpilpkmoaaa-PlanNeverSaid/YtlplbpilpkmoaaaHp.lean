/- 'Push' of the items: one more at the end of the row, or of a new one. -/
import Derived.Test.YtlplbpilpkmoaaaHd
import Derived.Deep.RegionLaw
import Derived.Deep.AppendLies
import Derived.Deep.RegionWith
namespace Go.Proofs.Ytlplbpilpkmoaaa.hp
open Go.RowKit
set_option linter.unusedVariables false

def CellsL (L : List Value) (xs : Array It) : Prop := L.length = xs.size * 3 ∧ ∀ i, i < xs.size → L[i * 3]? = some (.int .i64 (g xs i).d) ∧ L[i * 3 + 1]? = some (.int .i64 (g xs i).n) ∧ L[i * 3 + 2]? = some (.bool (g xs i).w)
theorem QRow.owns {w : World} {G c lo : Nat} {xs : Array It} (h : QRow w G c xs) (hlo : lo ≤ G) : ∃ L, w.ownsRow lo 39 3 (.slice (some ⟨G, 0, none⟩) xs.size c) xs.size L ∧ CellsL L xs := by
  obtain ⟨h1, h2, f, ⟨cur, hg, hs, hf⟩, hc⟩ := h
  have hl : (cur.toList.take (xs.size * 3)).length = xs.size * 3 := by rw [List.length_take]; simp; omega
  refine ⟨cur.toList.take (xs.size * 3), ⟨hl, .inr ⟨G, c, cur, rfl, hlo, hg, h1, h2, hs, rfl⟩⟩, hl, fun i hi => ?_⟩
  obtain ⟨a, b, d⟩ := hc i hi
  have hq : ∀ k, k < xs.size * 3 → (cur.toList.take (xs.size * 3))[k]? = some (f k) := fun k hk => by
    rw [List.getElem?_take_of_lt hk, Array.getElem?_toList]; exact hf k (by omega)
  exact ⟨by rw [hq _ (by omega), a], by rw [hq _ (by omega), b], by rw [hq _ (by omega), d]⟩
theorem QRow.of_owns {w : World} {G c n lo : Nat} {xs : Array It} {L : List Value} (h : w.ownsRow lo 39 3 (.slice (some ⟨G, 0, none⟩) n c) n L) (hn : n = xs.size) (hL : CellsL L xs) : QRow w G c xs ∧ lo ≤ G := by
  subst hn
  rcases h.2 with ⟨e, _⟩ | ⟨G', c', cur, hv, hb, hg, h1, h2, hs, ht⟩
  · cases e
  · injection hv with e1 e2 e3
    injection e1 with e1
    injection e1 with e1
    subst e1; subst e3
    have hq : ∀ k, k < xs.size * 3 → L[k]? = cur[k]? := fun k hk => by rw [← ht, List.getElem?_take_of_lt hk, Array.getElem?_toList]
    have hz : xs.size * 3 ≤ c * 3 := by omega
    refine ⟨⟨h1, h2, fun k => cur.getD k undef, ⟨cur, hg, hs, fun i hi => by simp [Array.getD_eq_getD_getElem?, Array.getElem?_eq_getElem (show i < cur.size by omega)]⟩, fun i hi => ?_⟩, hb⟩
    obtain ⟨a, b, d⟩ := hL.2 i hi
    rw [hq _ (by omega)] at a b d
    simp [Array.getD_eq_getD_getElem?, a, b, d]
theorem g_push (xs : Array It) (x : It) (k : Nat) (hk : k ≤ xs.size) : g (xs.push x) k = if k = xs.size then x else g xs k := by
  unfold g
  simp only [Array.getD_eq_getD_getElem?, Array.getElem?_push]
  split <;> simp
theorem CellsL.push {L : List Value} {xs : Array It} (h : CellsL L xs) (x : It) : CellsL (L ++ [.int .i64 x.d, .int .i64 x.n, .bool x.w]) (xs.push x) := by
  refine ⟨by rw [List.length_append, h.1]; simp; omega, fun i hi => ?_⟩
  rw [Array.size_push] at hi
  rw [g_push xs x i (by omega)]
  by_cases e : i = xs.size
  · subst e
    simp [h.1]
  · obtain ⟨a, b, d⟩ := h.2 i (by omega)
    rw [if_neg e, List.getElem?_append_left (by rw [h.1]; omega), List.getElem?_append_left (by rw [h.1]; omega), List.getElem?_append_left (by rw [h.1]; omega)]
    exact ⟨a, b, d⟩
theorem CellsL.nil : CellsL [] #[] := ⟨rfl, fun i hi => by simp at hi⟩

/-- Block o of the row, if there is one. -/
abbrev Ao (o : Option Nat) : Option Addr := o.map fun G => ⟨G, 0, none⟩
/-- A queue in memory: its items, its turns; its row lies at lo or behind. -/
structure Qu (w : World) (Q lo : Nat) (o : Option Nat) (c : Nat) (xs : Array It) : Prop where
  q0 : w.cell? ⟨Q, 0, none⟩ = some (.slice (Ao o) xs.size c)
  f0 : w.frozen? ⟨Q, 0, none⟩ = false
  row : match o with | none => xs.size = 0 ∧ c = 0 | some G => lo ≤ G ∧ Q ≠ G ∧ QRow w G c xs
/-- What may have turned: the queue's own box, its row. -/
structure Fr (w w' : World) (Q : Nat) (o : Option Nat) : Prop where
  os : w'.os = w.os
  tape : w'.tape = w.tape
  output : w'.output = w.output
  size : w.heap.size ≤ w'.heap.size
  block : ∀ k, k < w.heap.size → k ≠ Q → o ≠ some k → w'.heap[k]? = w.heap[k]?
theorem Qu.lt {w : World} {Q lo c : Nat} {o : Option Nat} {xs : Array It} (h : Qu w Q lo o c xs) : Q < w.heap.size := World.block_lt_of_cell? w _ h.q0
theorem Qu.owns {w : World} {Q lo c : Nat} {o : Option Nat} {xs : Array It} (h : Qu w Q lo o c xs) : ∃ L, w.ownsRow lo 39 3 (.slice (Ao o) xs.size c) xs.size L ∧ CellsL L xs := by
  cases o with
  | none =>
    obtain ⟨h1, h2⟩ := h.row
    have : xs = #[] := Array.eq_empty_of_size_eq_zero h1
    subst this; subst h2
    exact ⟨[], World.ownsRow_nil _ _ _ _, CellsL.nil⟩
  | some G => exact h.row.2.2.owns h.row.1
def PushE (w : World) (Q lo : Nat) (o : Option Nat) (ys : Array It) (e : Ending) (w' : World) : Prop :=
  e = .returned (.tuple #[]) ∧ ∃ G c, Qu w' Q lo (some G) c ys ∧ (o = some G ∨ w.heap.size ≤ G) ∧ Fr w w' Q o

theorem ta_run (k t : Int) (m : Bool) (w : World) : Sem.run Try.prog (Instr.typeAssert (.iface 39 (Iv k t m)) 20 39 false) w = .ok (Iv k t m) w := by kernel_rfl
theorem info53 : (Try.prog.info? 39).map (fun i => (i.zero, i.size, i.bytes)) = some (some (Iv 0 0 false), 3, 24) := by kernel_rfl

/-- Behind the append and the store of the new slice. -/
theorem pushE_of {w w3 : World} {Q lo c gg cap n : Nat} {o : Option Nat} {xs : Array It} {x : It} {ob : Obj} {L : List Value} (h : Qu w Q lo o c xs) (hn : n = xs.size) (hL : CellsL L xs)
    (hown : w3.ownsRow lo 39 3 (.slice (some ⟨gg, 0, none⟩) (n + 1) cap) (n + 1) (L ++ [.int .i64 x.d, .int .i64 x.n, .bool x.w]))
    (hgr : ((w.alloc ob).drew).grownBy w3 (Value.slice (Ao o) n c).ownBlock) (hat : (Value.slice (Ao o) n c).ownBlock = some gg ∨ gg = (w.alloc ob).drew.heap.size) :
    PushE w Q lo o (xs.push x) (.returned (.tuple #[])) (w3.setCell ⟨Q, 0, none⟩ (.slice (some ⟨gg, 0, none⟩) (n + 1) cap)) := by
  subst hn
  have hq := h.lt
  have hz : (w.alloc ob).drew.heap.size = w.heap.size + 1 := by show (w.alloc ob).heap.size = _; simp
  have hob : ∀ k, (Value.slice (Ao o) xs.size c).ownBlock = some k → o = some k := fun k hk => by cases o <;> simp [Ao, Value.ownBlock] at hk ⊢; exact hk
  have hoQ : some Q ≠ (Value.slice (Ao o) xs.size c).ownBlock := fun e => by
    have h1 := hob Q e.symm
    subst h1
    exact h.row.2.1 rfl
  have hgQ : Q ≠ gg := by
    rcases hat with e | e
    · intro e2; subst e2; exact hoQ e.symm
    · omega
  obtain ⟨hr, hlo⟩ := QRow.of_owns hown (xs := xs.push x) (by simp) (hL.push x)
  have hbase : (w.alloc ob).drew.heap[Q]? = w.heap[Q]? := (below_alloc w ob).drew.block Q hq
  have hblk : w3.heap[Q]? = w.heap[Q]? := (hgr.block Q (by omega) hoQ).trans hbase
  refine ⟨rfl, gg, cap, ⟨?_, ?_, hlo, hgQ, ?_⟩, ?_, ?_⟩
  · rw [World.cell?_setCell_same _ _ _ ((World.cell?_of_block hblk).trans h.q0)]; simp
  · simpa using (World.frozen?_of_block (a := ⟨Q, 0, none⟩) hblk).trans h.f0
  · exact hr.of_block (Below.heap_setCell _ _ _ _ (fun e => hgQ e.symm))
  · rcases hat with e | e
    · exact .inl (hob gg e)
    · exact .inr (by omega)
  · refine ⟨hgr.os, hgr.tape, hgr.output, ?_, fun k hk hkQ hko => ?_⟩
    · have := hgr.size; simp [World.setCell]; omega
    · rw [Below.heap_setCell _ _ _ _ (fun e => hkQ e), hgr.block k (by omega) (fun e => hko (hob k e.symm))]
      exact (below_alloc w ob).drew.block k hk

set_option maxHeartbeats 4000000 in
theorem ipush_any (Q lo c n : Nat) (o : Option Nat) (xs : Array It) (x : It) (w : World) (hlo : lo ≤ w.heap.size) (hn : n = xs.size) (hN : n ≤ 1000000) (h : Qu w Q lo o c xs) :
    Calls Try.prog 67 #[Pq Q, .iface 39 (Iv x.d x.n x.w)] w (PushE w Q lo o (xs.push x)) := by
  obtain ⟨i0, hi, hz0, hz1, hz2⟩ := info_parts info53
  obtain ⟨L, hown, hL⟩ := h.owns
  have hq0 := h.q0
  have hf0 := h.f0
  have hQ := h.lt
  have hoQ : some Q ≠ (Value.slice (Ao o) n c).ownBlock := fun e => by
    cases o with
    | none => simp [Value.ownBlock] at e
    | some G => simp [Value.ownBlock] at e; exact h.row.2.1 e
  have HOQ := Lib.hid hoQ
  have HF := Lib.hid (fun gg cap w3 ob a b d => pushE_of (gg := gg) (cap := cap) (w3 := w3) (ob := ob) (x := x) h hn hL a b d)
  rw [← hn] at hq0 hown
  have HO := Lib.hid hown
  have HX := Lib.hid (show ∀ j u, [Value.int .i64 x.d, .int .i64 x.n, .bool x.w][j]? = some u → ((w.alloc (.cells #[.int .i64 x.d, .int .i64 x.n, .bool x.w] 39)).drew).cell? ((⟨w.heap.size, 0, none⟩ : Addr).add j) = some u from
    World.news_of_block (cs := #[.int .i64 x.d, .int .i64 x.n, .bool x.w]) (t := 39) (fr := (0, 0)) (heap_alloc_new w _))
  generalize xs.push x = ys at HF ⊢
  clear hn h hown hL hoQ
  obtain ⟨xk, xt, xm⟩ := x
  dsimp only at HF HX ⊢
  have hta := ta_run xk xt xm
  go_enter Try.func67, Try.ntmps67
  go_wp2_with fail
  go_region_law (refine step_append_lies _ (by rfl) _ _ _ (by rfl) lo 39 i0 _ 3 24 Try.underlying58 hi hz0 hz1 hz2 (by rfl) (by decide) _ n L (by rfl) ((HO.out.alloc _).drew) ⟨w.heap.size, 0, none⟩ 1 1 [Value.int .i64 xk, .int .i64 xt, .bool xm] (by rfl) (by rfl) HX.out (by intro u hu; simp at hu; rcases hu with rfl | rfl | rfl <;> rfl) (by omega) (by unfold maxLen; omega) (by omega) (by simp <;> omega) _ rfl ?_; intro gg cap w3 hown1 hgrow hat hlt3; have k0 := (hgrow.cell_far ⟨Q, 0, none⟩ (by simp <;> omega) HOQ.out).trans (((below_alloc w _).drew.cell (p := ⟨Q, 0, none⟩) hQ).trans hq0); have k1 := (hgrow.frozen_far ⟨Q, 0, none⟩ (by simp <;> omega) HOQ.out).trans (((below_alloc w _).drew.frozen (p := ⟨Q, 0, none⟩) hQ).trans hf0))
  all_goals (go_end0; exact HF.out _ _ _ _ hown1 hgrow hat)

theorem Fr.of_grown {w w' : World} {Q G : Nat} (h : w.grownBy w' (some G)) : Fr w w' Q (some G) :=
  ⟨h.os, h.tape, h.output, h.size, fun k hk _ ho => h.block k hk (fun e => ho e.symm)⟩
theorem Fr.trans {w w1 w2 : World} {Q : Nat} {o o1 : Option Nat} (h : Fr w w1 Q o) (h' : Fr w1 w2 Q o1) (ho : ∀ k, o1 = some k → o = some k ∨ w.heap.size ≤ k) : Fr w w2 Q o :=
  ⟨h'.os.trans h.os, h'.tape.trans h.tape, h'.output.trans h.output, Nat.le_trans h.size h'.size, fun k hk hQ hk2 =>
    (h'.block k (Nat.lt_of_lt_of_le hk h.size) hQ (fun e => by rcases ho k e with e | e; exact hk2 e; omega)).trans (h.block k hk hQ hk2)⟩
theorem Fr.below {w w' : World} {Q : Nat} {o : Option Nat} (h : Below w.heap.size w w') : Fr w w' Q o := ⟨h.os, h.tape, h.output, h.size, fun k hk _ _ => h.block k hk⟩
theorem Qu.hp {w : World} {Q lo c G : Nat} {xs : Array It} (h : Qu w Q lo (some G) c xs) : Hp w Q G c xs := ⟨h.row.2.2, h.q0, h.row.2.1⟩
theorem Qu.heap {w w' : World} {Q lo c G : Nat} {xs ys : Array It} (h : Qu w Q lo (some G) c xs) (hp : Hp w' Q G c ys) (hg : w.grownBy w' (some G)) : Qu w' Q lo (some G) c ys := by
  have hb : w'.heap[Q]? = w.heap[Q]? := hg.block Q h.lt (fun e => h.row.2.1 (by injection e))
  exact ⟨hp.cell, (World.frozen?_of_block (a := ⟨Q, 0, none⟩) hb).trans h.f0, h.row.1, h.row.2.1, hp.row⟩

set_option maxHeartbeats 2000000 in
theorem hpush_any (Q lo c n : Nat) (o : Option Nat) (xs : Array It) (x : It) (w : World) (hlo : lo ≤ w.heap.size) (hn : n = xs.size) (hN : n ≤ 900000) (h : Qu w Q lo o c xs) :
    Calls Try.prog 28 #[.iface 60 (Pq Q), .iface 39 (Iv x.d x.n x.w)] w (PushE w Q lo o (up (xs.push x) n)) := by
  have E54 := e54
  have E49 := e49
  unfold Enters at E54 E49
  have hm := m_push Q
  have HC := Lib.hid (ipush_any Q lo c n o xs x w hlo hn (by omega) h)
  have HS := Lib.hid (show (xs.push x).size = n + 1 by simp [hn])
  generalize hys : xs.push x = ys at *
  clear hys hn h
  obtain ⟨xk, xt, xm⟩ := x
  dsimp only at HC ⊢
  go_enter Try.func28, Try.ntmps28
  go_wp2_with fail
  refine HC.out.mono ?_
  rintro e w1 ⟨rfl, G, c1, hq, ho, hfr⟩
  have HQ := Lib.hid hq
  have hl := m_len Q w1 _ hq.q0
  rw [HS.out] at hl
  have HU := Lib.hid (up_any Q G c1 (n + 1) n ys w1 HS.out.symm (by omega) (by omega) hq.hp)
  have HL := Lib.hid (len_any (Ao (some G)) (n + 1) c1)
  clear hq HC
  go_wp2_with fail
  refine (HL.out _).mono ?_
  rintro e w1' ⟨rfl, rfl⟩
  go_wp2_with fail
  refine HU.out.mono ?_
  rintro e w2 ⟨rfl, hp, hg⟩
  have HR := Lib.hid (show PushE w Q lo o (up ys n) (.returned (.tuple #[])) w2 from ⟨rfl, G, c1, HQ.out.heap hp hg, ho, hfr.trans (Fr.of_grown hg) (fun k e => by injection e with e; subst e; exact ho)⟩)
  clear hp hg hfr ho
  go_wp2_with fail
  go_end0
  exact HR.out

theorem Qu.below {w w' : World} {Q lo c : Nat} {o : Option Nat} {xs : Array It} (h : Qu w Q lo o c xs) (hb : Below w.heap.size w w') : Qu w' Q lo o c xs := by
  have hl := h.lt
  refine ⟨(hb.cell (p := ⟨Q, 0, none⟩) hl).trans h.q0, (hb.frozen (p := ⟨Q, 0, none⟩) hl).trans h.f0, ?_⟩
  cases o with
  | none => exact h.row
  | some G => exact ⟨h.row.1, h.row.2.1, h.row.2.2.of_block (hb.block _ h.row.2.2.lt)⟩
theorem pushE_base {w W w2 : World} {Q lo : Nat} {o : Option Nat} {ys : Array It} {e : Ending} (hb : Below w.heap.size w W) (h : PushE W Q lo o ys e w2) : PushE w Q lo o ys e w2 := by
  obtain ⟨he, G, c', hq, ho, hf⟩ := h
  exact ⟨he, G, c', hq, ho.imp id (fun h => Nat.le_trans hb.size h), (Fr.below hb).trans hf (fun k e => .inl e)⟩
end Go.Proofs.Ytlplbpilpkmoaaa.hp
