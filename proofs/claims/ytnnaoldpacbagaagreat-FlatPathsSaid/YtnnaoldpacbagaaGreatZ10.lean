/- 'Push' of the items: one more at the end of the row, or of a new one. 'Pop', 'Peek', 'Len' of a queue. The closures over a number; 'IndexFunc', 'ContainsFunc', 'Has'. 'Has'; 'DeleteFunc' over items. 'Init' of the heap; 'Drop', 'New' of a queue. A queue in memory as a list in order: each call's contract. -/
import Derived.Test.YtnnaoldpacbagaaGreatZ09
import Derived.Deep.RegionLaw
import Derived.Deep.AppendLies
import Derived.Deep.RegionWith
import Derived.Lib.SliceRun
section
namespace Go.Proofs.YtnnaoldpacbagaaGreat.qu
open Go.RowKit
set_option linter.unusedVariables false


def CellsL (L : List Value) (xs : Array It) : Prop := L.length = xs.size * 3 ∧ ∀ i, i < xs.size → L[i * 3]? = some (.int .i64 (g xs i).key) ∧ L[i * 3 + 1]? = some (.int .u64 (g xs i).turn) ∧ L[i * 3 + 2]? = some (.int .i64 (g xs i).num)
theorem QRow.owns {w : World} {G c lo : Nat} {xs : Array It} (h : QRow w G c xs) (hlo : lo ≤ G) : ∃ L, w.ownsRow lo 201 3 (.slice (some ⟨G, 0, none⟩) xs.size c) xs.size L ∧ CellsL L xs := by
  obtain ⟨h1, h2, f, ⟨cur, hg, hs, hf⟩, hc⟩ := h
  have hl : (cur.toList.take (xs.size * 3)).length = xs.size * 3 := by rw [List.length_take]; simp; omega
  refine ⟨cur.toList.take (xs.size * 3), ⟨hl, .inr ⟨G, c, cur, rfl, hlo, hg, h1, h2, hs, rfl⟩⟩, hl, fun i hi => ?_⟩
  obtain ⟨a, b, d⟩ := hc i hi
  have hq : ∀ k, k < xs.size * 3 → (cur.toList.take (xs.size * 3))[k]? = some (f k) := fun k hk => by
    rw [List.getElem?_take_of_lt hk, Array.getElem?_toList]; exact hf k (by omega)
  exact ⟨by rw [hq _ (by omega), a], by rw [hq _ (by omega), b], by rw [hq _ (by omega), d]⟩
theorem QRow.of_owns {w : World} {G c n lo : Nat} {xs : Array It} {L : List Value} (h : w.ownsRow lo 201 3 (.slice (some ⟨G, 0, none⟩) n c) n L) (hn : n = xs.size) (hL : CellsL L xs) : QRow w G c xs ∧ lo ≤ G := by
  subst hn
  rcases h.2 with ⟨e, _⟩ | ⟨G', c', cur, hv, hb, hg, h1, h2, hs, ht⟩
  · cases e
  · injection hv with e1 e2 e3
    injection e1 with e1
    injection e1 with e1
    subst e1; subst e3
    have hq : ∀ k, k < xs.size * 3 → L[k]? = cur[k]? := fun k hk => by rw [← ht, List.getElem?_take_of_lt hk, Array.getElem?_toList]
    have hz : xs.size * 3 ≤ c * 3 := by omega
    refine ⟨⟨h1, h2, fun k => cur.getD k undef, ⟨cur, hg, hs, fun i hi => by simp [Array.getD_eq_getD_getElem?, Array.getElem?_eq_getElem (show i < cur.size by omega)]⟩, fun i hi => ?_⟩, hb⟩
    obtain ⟨a, b, d⟩ := hL.2 i hi
    rw [hq _ (by omega)] at a b d
    simp [Array.getD_eq_getD_getElem?, a, b, d]
theorem g_push (xs : Array It) (x : It) (k : Nat) (hk : k ≤ xs.size) : g (xs.push x) k = if k = xs.size then x else g xs k := by
  unfold g
  simp only [Array.getD_eq_getD_getElem?, Array.getElem?_push]
  split <;> simp
theorem CellsL.push {L : List Value} {xs : Array It} (h : CellsL L xs) (x : It) : CellsL (L ++ [.int .i64 x.key, .int .u64 x.turn, .int .i64 x.num]) (xs.push x) := by
  refine ⟨by rw [List.length_append, h.1]; simp; omega, fun i hi => ?_⟩
  rw [Array.size_push] at hi
  rw [g_push xs x i (by omega)]
  by_cases e : i = xs.size
  · subst e
    simp [h.1]
  · obtain ⟨a, b, d⟩ := h.2 i (by omega)
    rw [if_neg e, List.getElem?_append_left (by rw [h.1]; omega), List.getElem?_append_left (by rw [h.1]; omega), List.getElem?_append_left (by rw [h.1]; omega)]
    exact ⟨a, b, d⟩
theorem CellsL.nil : CellsL [] #[] := ⟨rfl, fun i hi => by simp at hi⟩

/-- Block o of the row, if there is one. -/
abbrev Ao (o : Option Nat) : Option Addr := o.map fun G => ⟨G, 0, none⟩
/-- A queue in memory: its items, its turns; its row lies at lo or behind. -/
structure Qu (w : World) (Q lo : Nat) (o : Option Nat) (c : Nat) (xs : Array It) (T : Nat) : Prop where
  q0 : w.cell? ⟨Q, 0, none⟩ = some (.slice (Ao o) xs.size c)
  q1 : w.cell? ⟨Q, 1, none⟩ = some (.int .u64 T)
  f0 : w.frozen? ⟨Q, 0, none⟩ = false
  f1 : w.frozen? ⟨Q, 1, none⟩ = false
  row : match o with | none => xs.size = 0 ∧ c = 0 | some G => lo ≤ G ∧ Q ≠ G ∧ QRow w G c xs
/-- What may have turned: the queue's own box, its row. -/
structure Fr (w w' : World) (Q : Nat) (o : Option Nat) : Prop where
  os : w'.os = w.os
  tape : w'.tape = w.tape
  output : w'.output = w.output
  size : w.heap.size ≤ w'.heap.size
  block : ∀ k, k < w.heap.size → k ≠ Q → o ≠ some k → w'.heap[k]? = w.heap[k]?
theorem Qu.lt {w : World} {Q lo c T : Nat} {o : Option Nat} {xs : Array It} (h : Qu w Q lo o c xs T) : Q < w.heap.size := World.block_lt_of_cell? w _ h.q0
theorem Qu.owns {w : World} {Q lo c T : Nat} {o : Option Nat} {xs : Array It} (h : Qu w Q lo o c xs T) : ∃ L, w.ownsRow lo 201 3 (.slice (Ao o) xs.size c) xs.size L ∧ CellsL L xs := by
  cases o with
  | none =>
    obtain ⟨h1, h2⟩ := h.row
    have : xs = #[] := Array.eq_empty_of_size_eq_zero h1
    subst this; subst h2
    exact ⟨[], World.ownsRow_nil _ _ _ _, CellsL.nil⟩
  | some G => exact h.row.2.2.owns h.row.1
def PushE (w : World) (Q lo : Nat) (o : Option Nat) (ys : Array It) (T : Nat) (e : Ending) (w' : World) : Prop :=
  e = .returned (.tuple #[]) ∧ ∃ G c, Qu w' Q lo (some G) c ys T ∧ (o = some G ∨ w.heap.size ≤ G) ∧ Fr w w' Q o

set_option maxRecDepth 100000 in
theorem ta_run (k t m : Int) (w : World) : Sem.run Tryz.prog (Instr.typeAssert (.iface 201 (Iv k t m)) 20 201 false) w = .ok (Iv k t m) w := by kernel_rfl
set_option maxRecDepth 100000 in
theorem info53 : (Tryz.prog.info? 201).map (fun i => (i.zero, i.size, i.bytes)) = some (some (Iv 0 0 0), 3, 24) := by kernel_rfl

/-- Behind the append and the store of the new slice. -/
theorem pushE_of {w w3 : World} {Q lo c T gg cap n : Nat} {o : Option Nat} {xs : Array It} {x : It} {ob : Obj} {L : List Value} (h : Qu w Q lo o c xs T) (hn : n = xs.size) (hL : CellsL L xs)
    (hown : w3.ownsRow lo 201 3 (.slice (some ⟨gg, 0, none⟩) (n + 1) cap) (n + 1) (L ++ [.int .i64 x.key, .int .u64 x.turn, .int .i64 x.num]))
    (hgr : ((w.alloc ob).drew).grownBy w3 (Value.slice (Ao o) n c).ownBlock) (hat : (Value.slice (Ao o) n c).ownBlock = some gg ∨ gg = (w.alloc ob).drew.heap.size) :
    PushE w Q lo o (xs.push x) T (.returned (.tuple #[])) (w3.setCell ⟨Q, 0, none⟩ (.slice (some ⟨gg, 0, none⟩) (n + 1) cap)) := by
  subst hn
  have hq := h.lt
  have hz : (w.alloc ob).drew.heap.size = w.heap.size + 1 := by show (w.alloc ob).heap.size = _; simp
  have hob : ∀ k, (Value.slice (Ao o) xs.size c).ownBlock = some k → o = some k := fun k hk => by cases o <;> simp [Ao, Value.ownBlock] at hk ⊢; exact hk
  have hoQ : some Q ≠ (Value.slice (Ao o) xs.size c).ownBlock := fun e => by
    have h1 := hob Q e.symm
    subst h1
    exact h.row.2.1 rfl
  have hgQ : Q ≠ gg := by
    rcases hat with e | e
    · intro e2; subst e2; exact hoQ e.symm
    · omega
  obtain ⟨hr, hlo⟩ := QRow.of_owns hown (xs := xs.push x) (by simp) (hL.push x)
  have hbase : (w.alloc ob).drew.heap[Q]? = w.heap[Q]? := (below_alloc w ob).drew.block Q hq
  have hblk : w3.heap[Q]? = w.heap[Q]? := (hgr.block Q (by omega) hoQ).trans hbase
  have n01 : (⟨Q, 0, none⟩ : Addr) ≠ ⟨Q, 1, none⟩ := fun e => by have := congrArg Addr.off e; simp at this
  refine ⟨rfl, gg, cap, ⟨?_, ?_, ?_, ?_, hlo, hgQ, ?_⟩, ?_, ?_⟩
  · rw [World.cell?_setCell_same _ _ _ ((World.cell?_of_block hblk).trans h.q0)]; simp
  · rw [World.cell?_setCell_other _ _ _ _ n01]; exact (World.cell?_of_block hblk).trans h.q1
  · simpa using (World.frozen?_of_block (a := ⟨Q, 0, none⟩) hblk).trans h.f0
  · simpa using (World.frozen?_of_block (a := ⟨Q, 1, none⟩) hblk).trans h.f1
  · exact hr.of_block (Below.heap_setCell _ _ _ _ (fun e => hgQ e.symm))
  · rcases hat with e | e
    · exact .inl (hob gg e)
    · exact .inr (by omega)
  · refine ⟨hgr.os, hgr.tape, hgr.output, ?_, fun k hk hkQ hko => ?_⟩
    · have := hgr.size; simp [World.setCell]; omega
    · rw [Below.heap_setCell _ _ _ _ (fun e => hkQ e), hgr.block k (by omega) (fun e => hko (hob k e.symm))]
      exact (below_alloc w ob).drew.block k hk

set_option maxRecDepth 100000 in
set_option maxHeartbeats 4000000 in
theorem ipush_any (Q lo c T n : Nat) (o : Option Nat) (xs : Array It) (x : It) (w : World) (hlo : lo ≤ w.heap.size) (hn : n = xs.size) (hN : n ≤ 1000000) (h : Qu w Q lo o c xs T) :
    Calls Tryz.prog 242 #[Pq Q, .iface 201 (Iv x.key x.turn x.num)] w (PushE w Q lo o (xs.push x) T) := by
  obtain ⟨i0, hi, hz0, hz1, hz2⟩ := info_parts info53
  obtain ⟨L, hown, hL⟩ := h.owns
  have hq0 := h.q0
  have hf0 := h.f0
  have hQ := h.lt
  have hoQ : some Q ≠ (Value.slice (Ao o) n c).ownBlock := fun e => by
    cases o with
    | none => simp [Value.ownBlock] at e
    | some G => simp [Value.ownBlock] at e; exact h.row.2.1 e
  have HOQ := Lib.hid hoQ
  have HF := Lib.hid (fun gg cap w3 ob a b d => pushE_of (gg := gg) (cap := cap) (w3 := w3) (ob := ob) (x := x) h hn hL a b d)
  rw [← hn] at hq0 hown
  have HO := Lib.hid hown
  have HX := Lib.hid (show ∀ j u, [Value.int .i64 x.key, .int .u64 x.turn, .int .i64 x.num][j]? = some u → ((w.alloc (.cells #[.int .i64 x.key, .int .u64 x.turn, .int .i64 x.num] 201)).drew).cell? ((⟨w.heap.size, 0, none⟩ : Addr).add j) = some u from
    World.news_of_block (cs := #[.int .i64 x.key, .int .u64 x.turn, .int .i64 x.num]) (t := 201) (fr := (0, 0)) (heap_alloc_new w _))
  generalize xs.push x = ys at HF ⊢
  clear hn h hown hL hoQ
  obtain ⟨xk, xt, xm⟩ := x
  dsimp only at HF HX ⊢
  have hta := ta_run xk xt xm
  go_enter Tryz.func242, Tryz.ntmps242
  go_wp2_with fail
  go_region_law (refine step_append_lies _ (by rfl) _ _ _ (by rfl) lo 201 i0 _ 3 24 Tryz.underlying193 hi hz0 hz1 hz2 (by rfl) (by decide) _ n L (by rfl) ((HO.out.alloc _).drew) ⟨w.heap.size, 0, none⟩ 1 1 [Value.int .i64 xk, .int .u64 xt, .int .i64 xm] (by rfl) (by rfl) HX.out (by intro u hu; simp at hu; rcases hu with rfl | rfl | rfl <;> rfl) (by omega) (by unfold maxLen; omega) (by omega) (by simp <;> omega) _ rfl ?_; intro gg cap w3 hown1 hgrow hat hlt3; have k0 := (hgrow.cell_far ⟨Q, 0, none⟩ (by simp <;> omega) HOQ.out).trans (((below_alloc w _).drew.cell (p := ⟨Q, 0, none⟩) hQ).trans hq0); have k1 := (hgrow.frozen_far ⟨Q, 0, none⟩ (by simp <;> omega) HOQ.out).trans (((below_alloc w _).drew.frozen (p := ⟨Q, 0, none⟩) hQ).trans hf0))
  all_goals (go_end0; exact HF.out _ _ _ _ hown1 hgrow hat)

theorem Fr.of_grown {w w' : World} {Q G : Nat} (h : w.grownBy w' (some G)) : Fr w w' Q (some G) :=
  ⟨h.os, h.tape, h.output, h.size, fun k hk _ ho => h.block k hk (fun e => ho e.symm)⟩
theorem Fr.trans {w w1 w2 : World} {Q : Nat} {o o1 : Option Nat} (h : Fr w w1 Q o) (h' : Fr w1 w2 Q o1) (ho : ∀ k, o1 = some k → o = some k ∨ w.heap.size ≤ k) : Fr w w2 Q o :=
  ⟨h'.os.trans h.os, h'.tape.trans h.tape, h'.output.trans h.output, Nat.le_trans h.size h'.size, fun k hk hQ hk2 =>
    (h'.block k (Nat.lt_of_lt_of_le hk h.size) hQ (fun e => by rcases ho k e with e | e; exact hk2 e; omega)).trans (h.block k hk hQ hk2)⟩
theorem Fr.below {w w' : World} {Q : Nat} {o : Option Nat} (h : Below w.heap.size w w') : Fr w w' Q o := ⟨h.os, h.tape, h.output, h.size, fun k hk _ _ => h.block k hk⟩
theorem Qu.hp {w : World} {Q lo c T G : Nat} {xs : Array It} (h : Qu w Q lo (some G) c xs T) : Hp w Q G c xs := ⟨h.row.2.2, h.q0, h.row.2.1⟩
theorem Qu.heap {w w' : World} {Q lo c T G : Nat} {xs ys : Array It} (h : Qu w Q lo (some G) c xs T) (hp : Hp w' Q G c ys) (hg : w.grownBy w' (some G)) : Qu w' Q lo (some G) c ys T := by
  have hb : w'.heap[Q]? = w.heap[Q]? := hg.block Q h.lt (fun e => h.row.2.1 (by injection e))
  exact ⟨hp.cell, (World.cell?_of_block hb).trans h.q1, (World.frozen?_of_block (a := ⟨Q, 0, none⟩) hb).trans h.f0, (World.frozen?_of_block (a := ⟨Q, 1, none⟩) hb).trans h.f1, h.row.1, h.row.2.1, hp.row⟩

set_option maxRecDepth 100000 in
set_option maxHeartbeats 2000000 in
theorem hpush_any (Q lo c T n : Nat) (o : Option Nat) (xs : Array It) (x : It) (w : World) (hlo : lo ≤ w.heap.size) (hn : n = xs.size) (hN : n ≤ 900000) (h : Qu w Q lo o c xs T) :
    Calls Tryz.prog 128 #[.iface 199 (Pq Q), .iface 201 (Iv x.key x.turn x.num)] w (PushE w Q lo o (up (xs.push x) n) T) := by
  have E54 := e54
  have E49 := e49
  unfold Enters at E54 E49
  have hm := m_push Q
  have HC := Lib.hid (ipush_any Q lo c T n o xs x w hlo hn (by omega) h)
  have HS := Lib.hid (show (xs.push x).size = n + 1 by simp [hn])
  generalize hys : xs.push x = ys at *
  clear hys hn h
  obtain ⟨xk, xt, xm⟩ := x
  dsimp only at HC ⊢
  go_enter Tryz.func128, Tryz.ntmps128
  go_wp2_with fail
  refine HC.out.mono ?_
  rintro e w1 ⟨rfl, G, c1, hq, ho, hfr⟩
  have HQ := Lib.hid hq
  have hl := m_len Q w1 _ hq.q0
  rw [HS.out] at hl
  have HU := Lib.hid (up_any Q G c1 (n + 1) n ys w1 HS.out.symm (by omega) (by omega) hq.hp)
  have HL := Lib.hid (len_any (Ao (some G)) (n + 1) c1)
  clear hq HC
  go_wp2_with fail
  refine (HL.out _).mono ?_
  rintro e w1' ⟨rfl, rfl⟩
  go_wp2_with fail
  refine HU.out.mono ?_
  rintro e w2 ⟨rfl, hp, hg⟩
  have HR := Lib.hid (show PushE w Q lo o (up ys n) T (.returned (.tuple #[])) w2 from ⟨rfl, G, c1, HQ.out.heap hp hg, ho, hfr.trans (Fr.of_grown hg) (fun k e => by injection e with e; subst e; exact ho)⟩)
  clear hp hg hfr ho
  go_wp2_with fail
  go_end0
  exact HR.out

theorem qpushE_of {w w2 : World} {Q lo T : Nat} {o : Option Nat} {ys : Array It} (h : PushE w Q lo o ys T (.returned (.tuple #[])) w2) :
    PushE w Q lo o ys (T + 1) (.returned (.tuple #[])) (w2.setCell ⟨Q, 1, none⟩ (.int .u64 ((T : Int) + 1))) := by
  obtain ⟨_, G, c', hq, ho, hf⟩ := h
  have n01 : (⟨Q, 1, none⟩ : Addr) ≠ ⟨Q, 0, none⟩ := fun e => by have := congrArg Addr.off e; simp at this
  refine ⟨rfl, G, c', ⟨?_, ?_, by simpa using hq.f0, by simpa using hq.f1, hq.row.1, hq.row.2.1, hq.row.2.2.of_block (Below.heap_setCell _ _ _ _ (fun e => hq.row.2.1 e.symm))⟩, ho, ?_⟩
  · rw [World.cell?_setCell_other _ _ _ _ n01]; exact hq.q0
  · exact (World.cell?_setCell_same _ _ _ hq.q1).trans (by simp)
  · exact ⟨hf.os, hf.tape, hf.output, by have := hf.size; simpa [World.setCell] using this, fun k hk hQ hk2 => by rw [Below.heap_setCell _ _ _ _ (fun e => hQ e)]; exact hf.block k hk hQ hk2⟩

theorem Qu.below {w w' : World} {Q lo c T : Nat} {o : Option Nat} {xs : Array It} (h : Qu w Q lo o c xs T) (hb : Below w.heap.size w w') : Qu w' Q lo o c xs T := by
  have hl := h.lt
  refine ⟨(hb.cell (p := ⟨Q, 0, none⟩) hl).trans h.q0, (hb.cell (p := ⟨Q, 1, none⟩) hl).trans h.q1, (hb.frozen (p := ⟨Q, 0, none⟩) hl).trans h.f0, (hb.frozen (p := ⟨Q, 1, none⟩) hl).trans h.f1, ?_⟩
  cases o with
  | none => exact h.row
  | some G => exact ⟨h.row.1, h.row.2.1, h.row.2.2.of_block (hb.block _ h.row.2.2.lt)⟩
theorem pushE_base {w W w2 : World} {Q lo T : Nat} {o : Option Nat} {ys : Array It} {e : Ending} (hb : Below w.heap.size w W) (h : PushE W Q lo o ys T e w2) : PushE w Q lo o ys T e w2 := by
  obtain ⟨he, G, c', hq, ho, hf⟩ := h
  exact ⟨he, G, c', hq, ho.imp id (fun h => Nat.le_trans hb.size h), (Fr.below hb).trans hf (fun k e => .inl e)⟩
theorem pushE_turns {w w2 : World} {Q lo T : Nat} {o : Option Nat} {ys : Array It} {e : Ending} (h : PushE w Q lo o ys T e w2) : w2.cell? ⟨Q, 1, none⟩ = some (.int .u64 T) ∧ w2.frozen? ⟨Q, 1, none⟩ = false := by
  obtain ⟨he, G, c', hq, ho, hf⟩ := h
  exact ⟨hq.q1, hq.f1⟩

set_option maxRecDepth 100000 in
set_option maxHeartbeats 2000000 in
theorem qpush_any (Q lo c T n : Nat) (o : Option Nat) (xs : Array It) (k m : Int) (w : World) (hlo : lo ≤ w.heap.size) (hn : n = xs.size) (hN : n ≤ 900000) (hT : T ≤ 900000) (h : Qu w Q lo o c xs T) :
    Calls Tryz.prog 76 #[Pq Q, .int .i64 k, .int .i64 m] w (PushE w Q lo o (up (xs.push ⟨k, T, m⟩) n) (T + 1)) := by
  have HC := Lib.hid (fun W (hb : Below w.heap.size w W) => (hpush_any Q lo c T n o xs ⟨k, T, m⟩ W (Nat.le_trans hlo hb.size) hn hN (h.below hb)).mono fun _ _ hE => pushE_base hb hE)
  have q0 := h.q0
  have q1 := h.q1
  have hQ := h.lt
  generalize up (xs.push ⟨k, T, m⟩) n = ys at *
  have HF := Lib.hid (fun w2 (hE : PushE w Q lo o ys T (.returned (.tuple #[])) w2) => qpushE_of hE)
  dsimp only at HC
  clear hn h
  go_enter Tryz.func76, Tryz.ntmps76
  go_wp2_with fail
  go_cut [18] (fun v wx => PushE w Q lo o ys T (.returned (.tuple #[])) wx)
  case first =>
    go_region_with ((go_at_call 128; refine (HC.out _ (Below.refl _ _).drew).mono ?_; rintro e w2 hE; obtain ⟨rfl, hE2⟩ := id hE))
    all_goals (go_wp2_with fail; go_meet; case rel => exact hE)
  case rest =>
    obtain ⟨t0, t1⟩ := pushE_turns hcut
    have HCUT := Lib.hid hcut
    clear hcut HC q0 q1
    go_wp2_with fail
    go_end0
    exact HF.out _ HCUT.out
end Go.Proofs.YtnnaoldpacbagaaGreat.qu
end
section
namespace Go.Proofs.YtnnaoldpacbagaaGreat.qu
open Go.RowKit
set_option linter.unusedVariables false


def ToldE (w : World) (k m : Int) (e : Ending) (w' : World) : Prop := e = .returned (.tuple #[.int .i64 k, .int .i64 m, .bool true]) ∧ Below w.heap.size w w'
set_option maxRecDepth 100000 in
set_option maxHeartbeats 400000 in
theorem told_any (k t m : Int) (w : World) : Calls Tryz.prog 130 #[Iv k t m] w (ToldE w k m) := by
  have hb := below_alloc w (.cells #[.int .i64 k, .int .u64 t, .int .i64 m] 201)
  go_enter Tryz.func130, Tryz.ntmps130
  go_wp2_with fail
  go_quiet (fail)
  go_wp2_with fail
  go_ret3
  exact ⟨rfl, below_step hb ⟨rfl, rfl, rfl, Nat.le_refl _, fun _ _ => rfl⟩⟩

set_option maxRecDepth 100000 in
theorem qlen_any (Q lo c T n : Nat) (o : Option Nat) (xs : Array It) (w : World) (hn : n = xs.size) (h : Qu w Q lo o c xs T) : Calls Tryz.prog 103 #[Pq Q] w (fun e w' => e = .returned (.int .i64 n) ∧ w = w') := by
  have q0 := h.q0
  rw [← hn] at q0
  clear hn h
  go_enter Tryz.func103, Tryz.ntmps103
  go_wp2_with fail
  go_ret
  exact ⟨rfl, rfl⟩

def PeekE (w : World) (xs : Array It) (e : Ending) (w' : World) : Prop :=
  (if xs.size = 0 then e = .returned (.tuple #[.int .i64 0, .int .i64 0, .bool false]) else e = .returned (.tuple #[.int .i64 (g xs 0).key, .int .i64 (g xs 0).num, .bool true])) ∧ Below w.heap.size w w'
theorem peekE_none {w : World} {xs : Array It} (h : xs.size = 0) : PeekE w xs (.returned (.tuple #[.int .i64 0, .int .i64 0, .bool false])) w := ⟨by rw [if_pos h], Below.refl _ _⟩
theorem peekE_some {w w' : World} {xs : Array It} (h : xs.size ≠ 0) (hb : Below w.heap.size w w') : PeekE w xs (.returned (.tuple #[.int .i64 (g xs 0).key, .int .i64 (g xs 0).num, .bool true])) w' := ⟨by rw [if_neg h], hb⟩
set_option maxRecDepth 100000 in
theorem ta_item (k t m : Int) (w : World) : Sem.run Tryz.prog (Instr.typeAssert (.iface 201 (.agg #[.int .i64 k, .int .u64 t, .int .i64 m])) 20 201 false) w = .ok (.agg #[.int .i64 k, .int .u64 t, .int .i64 m]) w := by kernel_rfl
theorem g_pop (xs : Array It) (k : Nat) (hk : k < xs.size - 1) : g xs.pop k = g xs k := by
  rw [g_get (by simp; omega), g_get (by omega)]; simp
theorem QRow.pop {w : World} {G c : Nat} {xs : Array It} (h : QRow w G c xs) : QRow w G c xs.pop := by
  obtain ⟨h1, h2, f, hf, hc⟩ := h
  exact ⟨by simp; omega, h2, f, hf, fun i hi => by rw [g_pop xs i (by simpa using hi)]; exact hc i (by simp at hi; omega)⟩
/-- Behind 'Pop' of the items, and of the heap: the item that is handed back, the items that are left. -/
def PopE (w : World) (Q lo G c T : Nat) (x : It) (ys : Array It) (e : Ending) (w' : World) : Prop :=
  e = .returned (.iface 201 (Iv x.key x.turn x.num)) ∧ Qu w' Q lo (some G) c ys T ∧ Fr w w' Q (some G)
theorem popE_of {w : World} {Q lo G c T n : Nat} {xs : Array It} (h : Qu w Q lo (some G) c xs T) (hn : xs.size = n + 1) (ob : Obj) :
    PopE w Q lo G c T (g xs n) xs.pop (.returned (.iface 201 (Iv (g xs n).key (g xs n).turn (g xs n).num))) ((w.setCell ⟨Q, 0, none⟩ (.slice (some ⟨G, 0, none⟩) n c)).alloc ob) := by
  have n01 : (⟨Q, 0, none⟩ : Addr) ≠ ⟨Q, 1, none⟩ := fun e => by have := congrArg Addr.off e; simp at this
  have h1 : Qu (w.setCell ⟨Q, 0, none⟩ (.slice (some ⟨G, 0, none⟩) n c)) Q lo (some G) c xs.pop T := by
    refine ⟨?_, ?_, by simpa using h.f0, by simpa using h.f1, h.row.1, h.row.2.1, (h.row.2.2.of_block (Below.heap_setCell _ _ _ _ (fun e => h.row.2.1 e.symm))).pop⟩
    · rw [World.cell?_setCell_same _ _ _ h.q0]; simp [hn]
    · rw [World.cell?_setCell_other _ _ _ _ n01]; exact h.q1
  have h2 : Fr w (w.setCell ⟨Q, 0, none⟩ (.slice (some ⟨G, 0, none⟩) n c)) Q (some G) :=
    ⟨rfl, rfl, rfl, by simp [World.setCell], fun k hk hQ _ => by rw [Below.heap_setCell _ _ _ _ (fun e => hQ e)]⟩
  exact ⟨rfl, h1.below (below_alloc _ _), h2.trans (Fr.below (below_alloc _ _)) (fun k e => .inl e)⟩

set_option maxRecDepth 100000 in
set_option maxHeartbeats 1000000 in
theorem ipop_any (Q lo c T n G : Nat) (xs : Array It) (w : World) (hn : xs.size = n + 1) (hN : n ≤ 1000000) (h : Qu w Q lo (some G) c xs T) :
    Calls Tryz.prog 241 #[Pq Q] w (PopE w Q lo G c T (g xs n) xs.pop) := by
  have q0 := h.q0
  have qf := h.f0
  have hQ := h.lt
  have hcap := h.row.2.2.1
  rw [hn] at q0 hcap
  have ha := h.row.2.2.at_ (i := n) (by omega)
  have HE := Lib.hid (fun ob => popE_of h hn ob)
  generalize g xs n = x at *
  obtain ⟨xk, xt, xm⟩ := x
  have f0 := ha.k
  have f1 := ha.t
  have f2 := ha.m
  dsimp only at f0 f1 f2 HE
  have hlen : ((n : Int) + 1 - 1) = n := by omega
  generalize xs.pop = ys at *
  clear hn h ha
  go_enter Tryz.func241, Tryz.ntmps241
  go_wp2_with fail
  go_ret
  exact HE.out _

set_option maxRecDepth 100000 in
set_option maxHeartbeats 2000000 in
theorem hpop_any (Q lo c T n G : Nat) (xs : Array It) (w : World) (hn : xs.size = n + 1) (hN : n ≤ 900000) (h : Qu w Q lo (some G) c xs T) :
    Calls Tryz.prog 129 #[.iface 199 (Pq Q)] w (PopE w Q lo G c T (g (down (swp xs 0 n) 0 n) n) (down (swp xs 0 n) 0 n).pop) := by
  have E49 := e49
  have E51 := e51
  have E53 := e53
  unfold Enters at E49 E51 E53
  have hl := m_len Q w _ h.q0
  have hs := m_swap Q w _ h.q0
  rw [hn] at hl hs
  have hp := m_pop Q
  have HS := Lib.hid (swap_any G c (n + 1) 0 n xs w hn.symm (by omega) (by omega) h.row.2.2 (by omega))
  have HD := Lib.hid (fun W hW => down_any Q G c (n + 1) 0 n (swp xs 0 n) W (by rw [size_swp]; exact hn.symm) (by omega) (by omega) (by omega) hW)
  have HZ := Lib.hid (show (down (swp xs 0 n) 0 n).size = n + 1 by
    have := (down_ok (swp xs 0 n) n n 0 (by rw [size_swp]; omega) (fun k hk h0 h1 => by omega) (fun k hk h0 h1 => by omega)).2.2.1
    rw [this, size_swp]; exact hn)
  have HH := Lib.hid h
  have HLN := Lib.hid (len_any (Ao (some G)) (n + 1) c w)
  have HSZ := Lib.hid (size_swp xs 0 n)
  generalize swp xs 0 n = ys at *
  generalize down ys 0 n = zs at *
  clear hn h
  go_enter Tryz.func129, Tryz.ntmps129
  go_wp2_with fail
  refine HLN.out.mono ?_
  rintro e w' ⟨rfl, rfl⟩
  go_wp2_with fail
  refine HS.out.mono ?_
  rintro e w1 hs1
  obtain ⟨rfl, hs2, hg1⟩ := id hs1
  have hp1 := HH.out.hp.swap hs1 HSZ.out
  have HQ1 := Lib.hid (HH.out.heap hp1 hg1)
  have HD1 := Lib.hid (HD.out w1 hp1)
  have HF1 := Lib.hid (Fr.of_grown (Q := Q) hg1)
  clear hs1 hs2 hg1 hp1 hl hs HLN HS HD
  go_wp2_with fail
  refine HD1.out.mono ?_
  rintro e w2 ⟨⟨b, rfl⟩, hp2, hg2⟩
  have HQ2 := Lib.hid (HQ1.out.heap hp2 hg2)
  have HF2 := Lib.hid (HF1.out.trans (Fr.of_grown hg2) (fun k e => .inl e))
  have HP := Lib.hid (ipop_any Q lo c T n G zs w2 HZ.out (by omega) HQ2.out)
  clear hp2 hg2 HD1
  go_wp2_with fail
  refine HP.out.mono ?_
  rintro e w3 ⟨rfl, hq3, hf3⟩
  have HR := Lib.hid (show PopE w Q lo G c T (g zs n) zs.pop (.returned (.iface 201 (Iv (g zs n).key (g zs n).turn (g zs n).num))) w3 from ⟨rfl, hq3, HF2.out.trans hf3 (fun k e => .inl e)⟩)
  clear hq3 hf3 HP
  go_wp2_with fail
  go_ret
  exact HR.out

def QPopE (w : World) (Q lo : Nat) (o : Option Nat) (T : Nat) (xs : Array It) (e : Ending) (w' : World) : Prop :=
  (xs.size = 0 ∧ e = .returned (.tuple #[.int .i64 0, .int .i64 0, .bool false]) ∧ w = w') ∨
  ∃ n G c', xs.size = n + 1 ∧ o = some G ∧ e = .returned (.tuple #[.int .i64 (g (down (swp xs 0 n) 0 n) n).key, .int .i64 (g (down (swp xs 0 n) 0 n) n).num, .bool true]) ∧
    Qu w' Q lo o c' (down (swp xs 0 n) 0 n).pop T ∧ Fr w w' Q o
set_option maxRecDepth 100000 in
set_option maxHeartbeats 2000000 in
theorem qpop_any (Q lo c T : Nat) (o : Option Nat) (xs : Array It) (w : World) (hN : xs.size ≤ 900000) (h : Qu w Q lo o c xs T) :
    Calls Tryz.prog 80 #[Pq Q] w (QPopE w Q lo o T xs) := by
  have q0 := h.q0
  rcases Nat.eq_zero_or_pos xs.size with h0 | h0
  · rw [h0] at q0
    have HE := Lib.hid (show QPopE w Q lo o T xs (.returned (.tuple #[.int .i64 0, .int .i64 0, .bool false])) w from .inl ⟨h0, rfl, rfl⟩)
    clear h h0
    go_enter Tryz.func80, Tryz.ntmps80
    go_wp2_with fail
    go_ret3
    exact HE.out
  · cases o with
    | none => have := h.row.1; omega
    | some G =>
      obtain ⟨n, hn⟩ : ∃ n, xs.size = n + 1 := ⟨xs.size - 1, by omega⟩
      rw [hn] at q0
      have HP := Lib.hid (hpop_any Q lo c T n G xs w hn (by omega) h)
      have HE := Lib.hid (fun (w1 w' : World) (hq : Qu w1 Q lo (some G) c (down (swp xs 0 n) 0 n).pop T) (hf : Fr w w1 Q (some G)) (hb : Below w1.heap.size w1 w') =>
        (show QPopE w Q lo (some G) T xs (.returned (.tuple #[.int .i64 (g (down (swp xs 0 n) 0 n) n).key, .int .i64 (g (down (swp xs 0 n) 0 n) n).num, .bool true])) w' from
          .inr ⟨n, G, c, hn, rfl, rfl, hq.below hb, hf.trans (Fr.below hb) (fun k e => .inl e)⟩))
      generalize (down (swp xs 0 n) 0 n).pop = ys at *
      generalize g (down (swp xs 0 n) 0 n) n = x at *
      obtain ⟨xk, xt, xm⟩ := x
      dsimp only at HE
      have hta := ta_item xk xt xm
      have hb0 : ((n : Int) + 1 == 0) = false := by simp; omega
      clear h hn h0
      go_enter Tryz.func80, Tryz.ntmps80
      go_wp2_with fail
      refine HP.out.mono ?_
      rintro e w1 ⟨rfl, hq, hf⟩
      have HT := Lib.hid (fun W => told_any xk xt xm W)
      have HQ := Lib.hid hq
      have HFr := Lib.hid hf
      clear hq hf HP
      go_wp2_with fail
      refine (HT.out _).mono ?_
      rintro e w2 ⟨rfl, hb⟩
      have HB := Lib.hid (below_step (below_alloc _ _) hb)
      clear hb HT
      go_wp2_with fail
      go_ret3
      exact HE.out _ _ HQ.out HFr.out HB.out
end Go.Proofs.YtnnaoldpacbagaaGreat.qu
end
section
namespace Go.Proofs.YtnnaoldpacbagaaGreat.qu
open Go.RowKit
set_option linter.unusedVariables false


/-- What a closure over the number m asks of an item. -/
def Asks (f B : Nat) (m : Int) : Prop := ∀ (k t x : Int) (w : World), w.cell? ⟨B, 0, none⟩ = some (.int .i64 m) → Calls Tryz.prog f #[Iv k t x, .pointer (some ⟨B, 0, none⟩)] w (RetB w (x == m))
/-- A slice of items, nil or not. -/
def Sl (w : World) (o : Option Nat) (c : Nat) (xs : Array It) : Prop := match o with | none => xs.size = 0 ∧ c = 0 | some G => QRow w G c xs
theorem Sl.below {w w' : World} {o : Option Nat} {c : Nat} {xs : Array It} (h : Sl w o c xs) (hb : Below w.heap.size w w') : Sl w' o c xs := by
  cases o with
  | none => exact h
  | some G => exact QRow.of_block h (hb.block _ (QRow.lt h))
theorem Qu.sl {w : World} {Q lo c T : Nat} {o : Option Nat} {xs : Array It} (h : Qu w Q lo o c xs T) : Sl w o c xs := by
  cases o with
  | none => exact h.row
  | some G => exact h.row.2.2

/-- The first place at which the number stands, or -1. -/
def IdxE (w : World) (xs : Array It) (m : Int) (e : Ending) (w' : World) : Prop :=
  ((∃ i : Nat, i < xs.size ∧ (g xs i).num = m ∧ (∀ j, j < i → (g xs j).num ≠ m) ∧ e = .returned (.int .i64 i)) ∨ ((∀ j, j < xs.size → (g xs j).num ≠ m) ∧ e = .returned (.int .i64 (-1)))) ∧ Below w.heap.size w w'

end Go.Proofs.YtnnaoldpacbagaaGreat.qu
end
section
namespace Go.Proofs.YtnnaoldpacbagaaGreat.qu
open Go.RowKit
set_option linter.unusedVariables false


theorem any_of {xs : Array It} {m : Int} {i : Nat} (hi : i < xs.size) (h : (g xs i).num = m) : xs.toList.any (fun x => x.num == m) = true := by
  rw [List.any_eq_true]
  exact ⟨g xs i, by rw [g_get hi]; simp, by simpa using h⟩
theorem not_any_of {xs : Array It} {m : Int} (h : ∀ j, j < xs.size → (g xs j).num ≠ m) : xs.toList.any (fun x => x.num == m) = false := by
  rw [List.any_eq_false]
  intro x hx
  obtain ⟨k, hk, e⟩ := List.getElem_of_mem hx
  have hk' : k < xs.size := by simpa using hk
  have := h k hk'
  rw [g_get hk', show xs[k] = x by simpa using e] at this
  simpa using this
/-! ### DeleteFunc -/
def zc3 : List Value := [.int .i64 0, .int .u64 0, .int .i64 0]
theorem QRow.spoil {G c : Nat} {xs : Array It} : ∀ (vs : List Value) (o : Nat) (w : World), QRow w G c xs → xs.size * 3 ≤ o → QRow (w.setCells G o vs) G c xs
  | [], _, _, h, _ => h
  | v :: r, o, w, h, ho => QRow.spoil r (o + 1) _ (by
      obtain ⟨h1, h2, f, hf, hc⟩ := h
      refine ⟨h1, h2, _, hf.set o v, fun i hi => ?_⟩
      obtain ⟨a, b, d⟩ := hc i hi
      have e1 : ¬ i * 3 = o := by omega
      have e2 : ¬ i * 3 + 1 = o := by omega
      have e3 : ¬ i * 3 + 2 = o := by omega
      simp [e1, e2, e3, a, b, d]) (by omega)
theorem grownBy_sets (G : Nat) : ∀ (vs : List Value) (o : Nat) (w : World), w.grownBy (w.setCells G o vs) (some G)
  | [], _, w => grownBy_refl w _
  | v :: r, o, w => grownBy_trans (grownBy_set w G o v) (grownBy_sets G r (o + 1) _)
set_option maxRecDepth 100000 in
theorem zero53 (w : World) : (zeroValue 201).run Tryz.prog w = .ok (Iv 0 0 0) w := by kernel_rfl
set_option maxRecDepth 100000 in
theorem run_clear3 (w : World) (ty : TypeId) (G o n c : Nat) (hn : 0 < n) (hc : ∀ j, j < n * 3 → (w.cell? ⟨G, o + j, none⟩).isSome = true) (hf : ∀ j, w.frozen? ⟨G, j, none⟩ = false) :
    ∃ vs, (Builtin.clear_ #[193] ty #[.slice (some ⟨G, o, none⟩) n c]).run Tryz.prog w = .ok (.tuple #[]) (w.setCells G o vs) := by
  have hz : (Iv 0 0 0).cells = #[.int .i64 0, .int .u64 0, .int .i64 0] := rfl
  have hmem : ∀ v ∈ (Builtin.zeroCells (Iv 0 0 0).cells n).toList, v.oneCell' = true := by
    intro v hv
    rw [hz] at hv
    simp only [Builtin.zeroCells, Array.toList_map, List.mem_map] at hv
    obtain ⟨i, _, rfl⟩ := hv
    have : i % 3 = 0 ∨ i % 3 = 1 ∨ i % 3 = 2 := by omega
    rcases this with e | e | e <;> simp [e] <;> rfl
  have hlen : (Builtin.zeroCells (Iv 0 0 0).cells n).toList.length = n * 3 := by rw [hz]; simp [Builtin.zeroCells]
  have hst := run_storeCells_cells (P := Tryz.prog) G o (Builtin.zeroCells (Iv 0 0 0).cells n).toList 0 w (fun j hj => by rw [Nat.add_zero]; exact hc j (by omega)) (fun j hj => hf _) hmem
  rw [Nat.add_zero] at hst
  refine ⟨(Builtin.zeroCells (Iv 0 0 0).cells n).toList, ?_⟩
  obtain ⟨m, rfl⟩ : ∃ m, n = m + 1 := ⟨n - 1, by omega⟩
  simp [Builtin.clear_, run_underlying Tryz.underlying193, hst]

def keepB (m : Int) (x : It) : Bool := !(x.num == m)
/-- The first i of ys are what stays of the first j of xs; behind j nothing has turned. -/
structure Inv (m : Int) (xs ys : Array It) (i j : Nat) : Prop where
  lt : i < j
  le : j ≤ xs.size
  size : ys.size = xs.size
  front : ys.toList.take i = (xs.toList.take j).filter (keepB m)
  back : ∀ k, j ≤ k → g ys k = g xs k
theorem take_succ_g {xs : Array It} {j : Nat} (hj : j < xs.size) : xs.toList.take (j + 1) = xs.toList.take j ++ [g xs j] := by
  rw [List.take_succ_eq_append_getElem (by simpa using hj), g_get hj]; simp
theorem Inv.start {m : Int} {xs : Array It} {i : Nat} (hi : i < xs.size) (h : (g xs i).num = m) (hb : ∀ j, j < i → (g xs j).num ≠ m) : Inv m xs xs i (i + 1) := by
  refine ⟨by omega, by omega, rfl, ?_, fun _ _ => rfl⟩
  rw [take_succ_g hi, List.filter_append]
  have e1 : (xs.toList.take i).filter (keepB m) = xs.toList.take i := by
    rw [List.filter_eq_self]
    intro x hx
    obtain ⟨k, hk, e⟩ := List.getElem_of_mem hx
    rw [List.length_take] at hk
    have hk' : k < xs.size := by have := hk; simp at this; omega
    have := hb k (by omega)
    rw [g_get hk', show xs[k] = x by rw [← e]; simp] at this
    simpa [keepB] using this
  rw [e1]
  simp [keepB, h]
theorem Inv.skip {m : Int} {xs ys : Array It} {i j : Nat} (h : Inv m xs ys i j) (hj : j < xs.size) (hx : (g xs j).num = m) : Inv m xs ys i (j + 1) := by
  refine ⟨by have := h.lt; omega, by omega, h.size, ?_, fun k hk => h.back k (by omega)⟩
  rw [take_succ_g hj, List.filter_append, ← h.front]
  simp [keepB, hx]
theorem Inv.keep {m : Int} {xs ys : Array It} {i j : Nat} (h : Inv m xs ys i j) (hj : j < xs.size) (hx : (g xs j).num ≠ m) : Inv m xs (ys.setIfInBounds i (g xs j)) (i + 1) (j + 1) := by
  have hlt := h.lt
  have hi : i < ys.size := by rw [h.size]; omega
  refine ⟨by omega, by omega, by simp [h.size], ?_, fun k hk => by rw [g_set hi, if_neg (by omega)]; exact h.back k (by omega)⟩
  rw [take_succ_g hj, List.filter_append, ← h.front, take_succ_g (xs := ys.setIfInBounds i (g xs j)) (by simpa using hi), g_set hi, if_pos rfl]
  rw [Array.toList_setIfInBounds, List.take_set_of_le (Nat.le_refl _)]
  have hk : keepB m (g xs j) = true := by simpa [keepB] using hx
  simp [hk]
theorem Inv.done {m : Int} {xs ys : Array It} {i : Nat} (h : Inv m xs ys i xs.size) : ys.toList.take i = xs.toList.filter (keepB m) := by
  rw [h.front, List.take_of_length_le (by simp)]
def cutA (ys : Array It) (i : Nat) : Array It := (ys.toList.take i).toArray
theorem size_cutA {ys : Array It} {i : Nat} (hi : i ≤ ys.size) : (cutA ys i).size = i := by simp [cutA]; omega
theorem g_cutA {ys : Array It} {i k : Nat} (hi : i ≤ ys.size) (hk : k < i) : g (cutA ys i) k = g ys k := by
  rw [g_get (by rw [size_cutA hi]; exact hk), g_get (by omega)]; simp [cutA]
theorem QRow.cut {w : World} {G c i : Nat} {ys : Array It} (h : QRow w G c ys) (hi : i ≤ ys.size) : QRow w G c (cutA ys i) := by
  obtain ⟨h1, h2, f, hf, hc⟩ := h
  exact ⟨by rw [size_cutA hi]; omega, h2, f, hf, fun k hk => by rw [size_cutA hi] at hk; rw [g_cutA hi hk]; exact hc k (by omega)⟩

/-- What 'DeleteFunc' hands back. -/
def DelE (w : World) (o : Option Nat) (c : Nat) (m : Int) (xs : Array It) (e : Ending) (w' : World) : Prop :=
  ∃ ys, ys.toList = xs.toList.filter (keepB m) ∧ e = .returned (.slice (Ao o) ys.size c) ∧ Sl w' o c ys ∧ w.grownBy w' o
theorem filter_all {m : Int} {xs : Array It} (h : ∀ j, j < xs.size → (g xs j).num ≠ m) : xs.toList = xs.toList.filter (keepB m) := by
  symm
  rw [List.filter_eq_self]
  intro x hx
  obtain ⟨k, hk, e⟩ := List.getElem_of_mem hx
  have hk' : k < xs.size := by simpa using hk
  have := h k hk'
  rw [g_get hk', show xs[k] = x by simpa using e] at this
  simpa [keepB] using this
theorem delE_all {w w' : World} {o : Option Nat} {c : Nat} {m : Int} {xs : Array It} (h : Sl w o c xs) (ha : ∀ j, j < xs.size → (g xs j).num ≠ m) (hb : Below w.heap.size w w') : DelE w o c m xs (.returned (.slice (Ao o) xs.size c)) w' :=
  ⟨xs, filter_all ha, rfl, h.below hb, grownBy_below hb _⟩

theorem QRow.some_ {w : World} {G c : Nat} {xs : Array It} (h : QRow w G c xs) {o : Nat} (ho : o < c * 3) : (w.cell? ⟨G, o, none⟩).isSome = true := by
  obtain ⟨h1, h2, f, hf, hc⟩ := h
  rw [hf.cell ho]; rfl
theorem delE_some {w wr : World} {G c i n : Nat} {m : Int} {xs ys : Array It} {vs : List Value} (hV : Inv m xs ys i xs.size) (hn : ys.size = n) (hin : i < n) (hR : QRow wr G c ys) (hG : w.grownBy wr (some G)) :
    DelE w (some G) c m xs (.returned (.slice (some ⟨G, 0, none⟩) i c)) (wr.setCells G (i * 3) vs) :=
  ⟨cutA ys i, by rw [← hV.done]; simp [cutA], by rw [size_cutA (by omega)]; rfl, QRow.spoil vs (i * 3) wr (hR.cut (by omega)) (by rw [size_cutA (by omega)]; exact Nat.le_refl _), grownBy_trans hG (grownBy_sets G vs _ _)⟩

end Go.Proofs.YtnnaoldpacbagaaGreat.qu
end
section
namespace Go.Proofs.YtnnaoldpacbagaaGreat.qu
open Go.RowKit
set_option linter.unusedVariables false


def InitE (w : World) (Q lo : Nat) (o : Option Nat) (c T : Nat) (ys : Array It) (e : Ending) (w' : World) : Prop := e = .returned (.tuple #[]) ∧ Qu w' Q lo o c ys T ∧ Fr w w' Q o
theorem Fr.refl (w : World) (Q : Nat) (o : Option Nat) : Fr w w Q o := ⟨rfl, rfl, rfl, Nat.le_refl _, fun _ _ _ _ => rfl⟩
theorem down_size {xs : Array It} {i n : Nat} (hn : n ≤ xs.size) : (down xs i n).size = xs.size :=
  (down_ok xs n (n + i + 1) i hn (fun k hk h0 h1 => by omega) (fun k hk h0 h1 h2 h3 => by omega)).2.2.1

set_option maxRecDepth 100000 in
theorem new_any (w : World) (lo : Nat) (hlo : lo ≤ w.heap.size) : Calls Tryz.prog 74 #[] w (fun e w' => ∃ ob, e = .returned (Pq w.heap.size) ∧ Qu w' w.heap.size lo none 0 #[] 0 ∧ w' = w.alloc ob) := by
  have HQ := Lib.hid (show Qu (w.alloc (.cells #[.slice none 0 0, .int .u64 0] 195)) w.heap.size lo none 0 #[] 0 from ⟨by simp, by simp, by simp, by simp, ⟨rfl, rfl⟩⟩)
  go_enter Tryz.func74, Tryz.ntmps74
  go_wp2_with fail
  go_ret
  exact ⟨_, rfl, HQ.out, rfl⟩

def DropE (w : World) (Q lo : Nat) (o : Option Nat) (c T : Nat) (m : Int) (xs : Array It) (e : Ending) (w' : World) : Prop :=
  ∃ ys, ys.toList = xs.toList.filter (keepB m) ∧ e = .returned (.int .i64 ((xs.size : Int) - (ys.size : Int))) ∧ Qu w' Q lo o c (initN ys.size (ys.size / 2) ys) T ∧ Fr w w' Q o
theorem Qu.deleted {w w1 : World} {Q lo c T : Nat} {o : Option Nat} {xs ys : Array It} (h : Qu w Q lo o c xs T) (hs : Sl w1 o c ys) (hQ : w1.heap[Q]? = w.heap[Q]?) :
    Qu (w1.setCell ⟨Q, 0, none⟩ (.slice (Ao o) ys.size c)) Q lo o c ys T := by
  have n01 : (⟨Q, 0, none⟩ : Addr) ≠ ⟨Q, 1, none⟩ := fun e => by have := congrArg Addr.off e; simp at this
  refine ⟨?_, ?_, ?_, ?_, ?_⟩
  · exact World.cell?_setCell_same _ _ _ ((World.cell?_of_block hQ).trans h.q0)
  · rw [World.cell?_setCell_other _ _ _ _ n01]; exact (World.cell?_of_block hQ).trans h.q1
  · simpa using (World.frozen?_of_block (a := ⟨Q, 0, none⟩) hQ).trans h.f0
  · simpa using (World.frozen?_of_block (a := ⟨Q, 1, none⟩) hQ).trans h.f1
  · cases o with
    | none => exact hs
    | some G => exact ⟨h.row.1, h.row.2.1, QRow.of_block hs (Below.heap_setCell _ _ _ _ (fun e => h.row.2.1 e.symm))⟩
theorem Qu.notQ {w : World} {Q lo c T : Nat} {o : Option Nat} {xs : Array It} (h : Qu w Q lo o c xs T) : some Q ≠ o := by
  cases o with
  | none => simp
  | some G => intro e; injection e with e; exact h.row.2.1 e
theorem Qu.old {w : World} {Q lo c T : Nat} {o : Option Nat} {xs : Array It} (h : Qu w Q lo o c xs T) : ∀ G, o = some G → G < w.heap.size := by
  intro G e; subst e; exact h.row.2.2.lt
theorem Fr.grown {w w' : World} {Q : Nat} {o : Option Nat} (h : w.grownBy w' o) : Fr w w' Q o := ⟨h.os, h.tape, h.output, h.size, fun k hk _ ho => h.block k hk (fun e => ho e.symm)⟩
theorem Fr.setQ (w : World) (Q : Nat) (o : Option Nat) (v : Value) : Fr w (w.setCell ⟨Q, 0, none⟩ v) Q o :=
  ⟨rfl, rfl, rfl, by simp [World.setCell], fun k _ hQ _ => by rw [Below.heap_setCell _ _ _ _ (fun e => hQ e)]⟩
theorem size_initN {n i : Nat} {xs : Array It} (hn : n ≤ xs.size) : (initN n i xs).size = xs.size := by
  induction i generalizing xs with
  | zero => rfl
  | succ i ih => unfold initN; rw [ih (by rw [down_size hn]; exact hn), down_size hn]

end Go.Proofs.YtnnaoldpacbagaaGreat.qu
end
section
namespace Go.Proofs.YtnnaoldpacbagaaGreat.qu
open Go.RowKit
set_option linter.unusedVariables false


/-- The queue at Q is the list L; T were pushed. -/
def QL (w : World) (Q lo : Nat) (o : Option Nat) (L : List KN) (T : Nat) : Prop := ∃ c xs, Qu w Q lo o c xs T ∧ Rep xs T L ∧ L.length ≤ T
theorem QL.lt {w : World} {Q lo T : Nat} {o : Option Nat} {L : List KN} (h : QL w Q lo o L T) : Q < w.heap.size := by
  obtain ⟨c, xs, h, _⟩ := h; exact h.lt
theorem QL.old {w : World} {Q lo T : Nat} {o : Option Nat} {L : List KN} (h : QL w Q lo o L T) : ∀ G, o = some G → G < w.heap.size ∧ lo ≤ G ∧ Q ≠ G := by
  obtain ⟨c, xs, h, _⟩ := h
  intro G e
  exact ⟨h.old G e, by subst e; exact h.row.1, by subst e; exact h.row.2.1⟩
theorem QL.below {w w' : World} {Q lo T : Nat} {o : Option Nat} {L : List KN} (h : QL w Q lo o L T) (hb : Below w.heap.size w w') : QL w' Q lo o L T := by
  obtain ⟨c, xs, h, r⟩ := h; exact ⟨c, xs, h.below hb, r⟩
/-- Another queue's doings leave this one as it is. -/
theorem QL.other {w w' : World} {Q P lo T : Nat} {o o2 : Option Nat} {L : List KN} (h : QL w P lo o2 L T) (hf : Fr w w' Q o) (hPQ : P ≠ Q) (h1 : o ≠ some P) (h2 : ∀ G, o2 = some G → G ≠ Q ∧ o ≠ some G) : QL w' P lo o2 L T := by
  obtain ⟨c, xs, h, r⟩ := h
  have hb := hf.block P h.lt hPQ h1
  refine ⟨c, xs, ⟨(World.cell?_of_block hb).trans h.q0, (World.cell?_of_block hb).trans h.q1, (World.frozen?_of_block (a := ⟨P, 0, none⟩) hb).trans h.f0, (World.frozen?_of_block (a := ⟨P, 1, none⟩) hb).trans h.f1, ?_⟩, r⟩
  cases o2 with
  | none => exact h.row
  | some G => exact ⟨h.row.1, h.row.2.1, h.row.2.2.of_block (hf.block G h.row.2.2.lt (h2 G rfl).1 (h2 G rfl).2)⟩

def popV : List KN → Value
  | [] => .tuple #[.int .i64 0, .int .i64 0, .bool false]
  | a :: _ => .tuple #[.int .i64 a.1, .int .i64 a.2, .bool true]
/-- Behind a call that may have turned the queue. -/
def StepE (w : World) (Q lo : Nat) (o : Option Nat) (v : Value) (L : List KN) (T : Nat) (e : Ending) (w' : World) : Prop :=
  e = .returned v ∧ ∃ o', QL w' Q lo o' L T ∧ (∀ G, o' = some G → o = some G ∨ w.heap.size ≤ G) ∧ Fr w w' Q o

theorem ins_length (x : KN) (L : List KN) : (ins x L).length = L.length + 1 := by
  induction L with
  | nil => rfl
  | cons y l ih => unfold ins; split <;> simp [ih]
set_option maxRecDepth 100000 in
theorem lnew (w : World) (lo : Nat) (hlo : lo ≤ w.heap.size) : Calls Tryz.prog 74 #[] w (fun e w' => e = .returned (Pq w.heap.size) ∧ QL w' w.heap.size lo none [] 0 ∧ Below w.heap.size w w') :=
  (new_any w lo hlo).mono fun _ _ ⟨ob, he, hq, hw⟩ => ⟨he, ⟨0, #[], hq, Rep.nil _, Nat.le_refl _⟩, by rw [hw]; exact below_alloc _ _⟩
set_option maxRecDepth 100000 in
theorem lpush (Q lo T : Nat) (o : Option Nat) (L : List KN) (k m : Int) (w : World) (hlo : lo ≤ w.heap.size) (hT : T ≤ 900000) (h : QL w Q lo o L T) :
    Calls Tryz.prog 76 #[Pq Q, .int .i64 k, .int .i64 m] w (StepE w Q lo o (.tuple #[]) (ins (k, m) L) (T + 1)) := by
  obtain ⟨c, xs, h, r, hl⟩ := h
  have hz := r.size
  refine (qpush_any Q lo c T xs.size o xs k m w hlo rfl (by omega) hT h).mono ?_
  rintro e w' ⟨he, G, c', hq, ho, hf⟩
  obtain ⟨r1, r2⟩ := r.push (Int.natCast_nonneg T) k m
  exact ⟨he, some G, ⟨c', _, hq, by simpa using r1, by rw [ins_length]; omega⟩, fun G' e => by injection e with e; subst e; exact ho, hf⟩
theorem rep_popV {xs : Array It} {T : Int} {L : List KN} (r : Rep xs T L) : popV L = (if xs.size = 0 then .tuple #[.int .i64 0, .int .i64 0, .bool false] else .tuple #[.int .i64 (g xs 0).key, .int .i64 (g xs 0).num, .bool true]) := by
  have hz := r.size
  cases L with
  | nil => rw [if_pos (show xs.size = 0 from hz)]; rfl
  | cons a l =>
    have h0 : 0 < xs.size := by rw [hz]; simp
    rw [if_neg (by omega)]
    have := (r.pop h0).2.2.2
    simp at this
    subst this
    rfl
set_option maxRecDepth 100000 in
theorem lpop (Q lo T : Nat) (o : Option Nat) (L : List KN) (w : World) (hT : T ≤ 900000) (h : QL w Q lo o L T) : Calls Tryz.prog 80 #[Pq Q] w (StepE w Q lo o (popV L) L.tail T) := by
  obtain ⟨c, xs, h, r, hl⟩ := h
  have hz := r.size
  refine (qpop_any Q lo c T o xs w (by omega) h).mono ?_
  rintro e w' (⟨h0, he, hw⟩ | ⟨n, G, c', hn, ho, he, hq, hf⟩)
  · subst hw
    have hL : L = [] := List.eq_nil_of_length_eq_zero (by omega)
    subst hL
    exact ⟨he, o, ⟨c, xs, h, r, hl⟩, fun G e => .inl e, Fr.refl _ _ _⟩
  · obtain ⟨r1, r2, r3, r4⟩ := r.pop (by omega)
    rw [hn, Nat.add_sub_cancel] at r1 r2
    refine ⟨?_, o, ⟨c', _, hq, r1, by rw [List.length_tail]; omega⟩, fun G e => .inl e, hf⟩
    rw [rep_popV r, if_neg (by omega), he, r2]
set_option maxRecDepth 100000 in
theorem llen (Q lo T : Nat) (o : Option Nat) (L : List KN) (w : World) (h : QL w Q lo o L T) : Calls Tryz.prog 103 #[Pq Q] w (fun e w' => e = .returned (.int .i64 L.length) ∧ w = w') := by
  obtain ⟨c, xs, h, r, hl⟩ := h
  have := qlen_any Q lo c T xs.size o xs w rfl h
  rw [r.size] at this
  exact this
def keepN (m : Int) (x : KN) : Bool := !(x.2 == m)
end Go.Proofs.YtnnaoldpacbagaaGreat.qu
end
