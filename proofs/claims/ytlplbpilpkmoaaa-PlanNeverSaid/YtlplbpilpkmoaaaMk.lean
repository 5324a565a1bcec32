/- 'Lock'. -/
import Derived.Test.YtlplbpilpkmoaaaMj
import Derived.Test.YtlplbpilpkmoaaaMr
import Derived.Deep.RegionLaw
import Derived.Deep.AppendLies
namespace Go.Proofs.Ytlplbpilpkmoaaa.sc
open Go.RowKit Go.Shelf
set_option linter.unusedVariables false
set_option linter.unusedSimpArgs false

theorem info60p : (Try.prog.info? 80).map (fun i => (i.zero, i.size, i.bytes)) = some (some (Cv 0 false false), 3, 16) := by kernel_rfl
/-- What a call leaves: the schedule's own blocks turned, none of the others its. -/
structure Kp (tg tg' : Nat → Tag) (w w' : World) : Prop where
  only : Only (fun b => tg b ≠ .no) w w'
  tag : ∀ b, b < w.heap.size → tg' b ≠ .no → tg b ≠ .no
theorem Kp.refl (tg : Nat → Tag) (w : World) : Kp tg tg w w := ⟨Only.refl _ _, fun _ _ h => h⟩
theorem Kp.of_only {tg : Nat → Tag} {w w' : World} (h : Only (fun b => tg b ≠ .no) w w') : Kp tg tg w w' := ⟨h, fun _ _ h => h⟩
theorem Kp.trans {tg tg1 tg2 : Nat → Tag} {w w1 w2 : World} (h : Kp tg tg1 w w1) (k : Kp tg1 tg2 w1 w2) : Kp tg tg2 w w2 := by
  refine ⟨⟨k.only.os.trans h.only.os, k.only.tape.trans h.only.tape, k.only.output.trans h.only.output, Nat.le_trans h.only.size k.only.size, fun b hb hF => ?_⟩, fun b hb e => h.tag b hb (k.tag b (Nat.lt_of_lt_of_le hb h.only.size) e)⟩
  exact (k.only.block b (Nat.lt_of_lt_of_le hb h.only.size) (fun e => hF (h.tag b hb e))).trans (h.only.block b hb hF)
section
variable {w0 w : World} {P B M : Nat} {tg : Nat → Tag} {f : Int → Option Value} {s : Sd}
theorem SbX.look_at (h : SbX w0 w P B M tg f s) {w' : World} (hM : w'.heap[M]? = w.heap[M]?) {l : Int} (hl : Wf l) : (Instr.lookup 69 (.map (some M)) (.int .i64 l) false).run Try.prog w' = .ok ((f l).getD (.slice none 0 0)) w' := by
  obtain ⟨S, hm⟩ := h.map
  exact (hm.of_block hM).look Try.underlying69 (zero58 w') hl
/-- The box and the map stay through an append to a lock's row. -/
theorem SbX.through (h : SbX w0 w P B M tg f s) {l : Int} {o : Option Nat} {c n : Nat} {ob : Obj} {w3 : World} (ht : ∀ G, o = some G → tg G = .row l) (hgr : ((w.alloc ob).drew).grownBy w3 (Value.slice (Ao o) n c).ownBlock) : w3.heap[P]? = w.heap[P]? ∧ w3.heap[M]? = w.heap[M]? := by
  have hbA : Below w.heap.size w (w.alloc ob).drew := (below_alloc w ob).drew
  have hob : ∀ k, (Value.slice (Ao o) n c).ownBlock = some k → tg k = .row l := fun k hk => by
    cases o with
    | none => simp [Ao, Value.ownBlock] at hk
    | some G => simp [Ao, Value.ownBlock] at hk; exact hk ▸ ht G rfl
  have hk : ∀ b, tg b ≠ .no → tg b ≠ .row l → w3.heap[b]? = w.heap[b]? := fun b h1 h2 => (hgr.block b (Nat.lt_of_lt_of_le (h.own b h1).2 hbA.size) (fun e => h2 (hob b e.symm))).trans (hbA.block b (h.own b h1).2)
  exact ⟨hk P (by rw [h.tP]; simp) (by rw [h.tP]; simp), hk M (by rw [h.tM]; simp) (by rw [h.tM]; simp)⟩
/-- Behind the append and the entry's update. -/
theorem SbX.came (h : SbX w0 w P B M tg f s) {l : Int} {o : Option Nat} {c n gg cap : Nat} {x : Cl} {ob : Obj} {L : List Value} {w3 : World} (hl : Wf l) (hN : s.N ≤ 1000000) (hv : (f l).getD (.slice none 0 0) = .slice (Ao o) n c) (ht : ∀ G, o = some G → tg G = .row l) (hn : (s.cl l).length = n) (hx : x.task < s.n) (hL : CellsL L (s.cl l))
    (hown : w3.ownsRow w0.heap.size 80 3 (.slice (some ⟨gg, 0, none⟩) (n + 1) cap) (n + 1) (L ++ [.int .i64 (x.task : Int), .bool x.write, .bool x.held]))
    (hgr : (w.alloc ob).drew.grownBy w3 (Value.slice (Ao o) n c).ownBlock) (hat : (Value.slice (Ao o) n c).ownBlock = some gg ∨ gg = (w.alloc ob).drew.heap.size) :
    ∃ w4 tg', (Instr.mapUpdate 69 (.map (some M)) (.int .i64 l) (.slice (some ⟨gg, 0, none⟩) (n + 1) cap)).run Try.prog w3 = .ok () w4 ∧ SbX w0 w4 P B M tg' (ups f l (.slice (some ⟨gg, 0, none⟩) (n + 1) cap)) { s with cl := upc s.cl l (s.cl l ++ [x]), N := s.N + 1 } ∧ Kp tg tg' w w4 := by
  have hbA : Below w.heap.size w (w.alloc ob).drew := (below_alloc w ob).drew
  have hz : (w.alloc ob).drew.heap.size = w.heap.size + 1 := by show (w.alloc ob).heap.size = _; simp
  have hob : ∀ k, (Value.slice (Ao o) n c).ownBlock = some k → tg k = .row l := fun k hk => by
    cases o with
    | none => simp [Ao, Value.ownBlock] at hk
    | some G => simp [Ao, Value.ownBlock] at hk; exact hk ▸ ht G rfl
  obtain ⟨hr, hlo⟩ := QRow.of_owns hown (xs := s.cl l ++ [x]) (by simp [hn]) (hL.push x)
  have hgl : gg < w3.heap.size := hr.lt
  have hb1 : ∀ b, b < w.heap.size → (w.alloc ob).drew.heap[b]? = w.heap[b]? := fun b hb => hbA.block b hb
  have hk3 : ∀ b, b < w.heap.size → tg b ≠ .row l → w3.heap[b]? = w.heap[b]? := fun b hb hne => (hgr.block b (by omega) (fun e => hne (hob b e.symm))).trans (hb1 b hb)
  obtain ⟨S, hm⟩ := h.map
  have hMlt := hm.lt
  have hm3 : MapV w3 M s.N S f := hm.of_block (hk3 M hMlt (by rw [h.tM]; simp))
  obtain ⟨w4, hput, hm4, hg4⟩ := hm3.put Try.underlying69 hN hl (.slice (some ⟨gg, 0, none⟩) (n + 1) cap)
  have hgM : gg ≠ M := by
    rcases hat with e | e
    · intro e2; have := hob gg e; rw [e2, h.tM] at this; cases this
    · omega
  have hggt : gg < w.heap.size → tg gg = .row l := fun hlt => by
    rcases hat with e | e
    · exact hob gg e
    · omega
  have hk4 : ∀ b, b < w.heap.size → tg b ≠ .row l → b ≠ M → w4.heap[b]? = w.heap[b]? := fun b hb h1 h2 => (hg4.block b (by have := hgr.size; omega) (fun e => h2 (by injection e))).trans (hk3 b hb h1)
  have hsz : w.heap.size ≤ w4.heap.size := by have := hgr.size; have := hg4.size; omega
  have hP := h.own P (by rw [h.tP]; simp)
  have hB := h.own B (by rw [h.tB]; simp)
  have kP := hk4 P hP.2 (by rw [h.tP]; simp) h.ne.2.1
  have kB := hk4 B hB.2 (by rw [h.tB]; simp) h.ne.2.2
  have ho : Only (fun b => tg b ≠ .no) w w4 := ⟨hg4.os.trans (hgr.os.trans hbA.os), hg4.tape.trans (hgr.tape.trans hbA.tape), hg4.output.trans (hgr.output.trans hbA.output), hsz, fun b hb hF => hk4 b hb (fun e => hF (by rw [e]; simp)) (fun e => hF (by rw [e, h.tM]; simp))⟩
  refine ⟨w4, fun b => if b = gg then .row l else tg b, hput, ⟨fun b hb => ?_, ho.below h.bel (fun b hb => (h.own b hb).1), ?_, ?_, ?_, ?_, ?_, ?_, ⟨_, hm4⟩, fun y => ?_, fun y => ?_, fun y => ?_, h.n64⟩, ⟨ho, fun b hb e => ?_⟩⟩
  · by_cases e : b = gg
    · subst e; exact ⟨hlo, by have := hg4.size; omega⟩
    · simp only [if_neg e] at hb; exact ⟨(h.own b hb).1, Nat.lt_of_lt_of_le (h.own b hb).2 hsz⟩
  · show (if P = gg then _ else _) = _
    rw [if_neg (fun e => by have := hggt (e ▸ hP.2); rw [← e, h.tP] at this; cases this)]; exact h.tP
  · show (if B = gg then _ else _) = _
    rw [if_neg (fun e => by have := hggt (e ▸ hB.2); rw [← e, h.tB] at this; cases this)]; exact h.tB
  · show (if M = gg then _ else _) = _
    rw [if_neg (fun e => hgM e.symm)]; exact h.tM
  · exact (World.cell?_of_block (a := ⟨P, 0, none⟩) kP).trans h.p0
  · exact (World.cell?_of_block (a := ⟨P, 1, none⟩) kP).trans h.p1
  · exact h.tsk.of_block kB
  · by_cases e : y = l
    · subst e
      show CS w4 _ y (ups f y _ y) (upc s.cl y _ y)
      rw [upc_self]
      refine ⟨some gg, cap, by simp [ups, hn], hr.of_block (hg4.block gg hgl (fun e => hgM (by injection e))), fun G e => ?_⟩
      injection e with e
      show (if G = gg then _ else _) = _
      rw [if_pos e.symm]
    · show CS w4 _ y (ups f l _ y) (upc s.cl l _ y)
      rw [upc_ne e, show ups f l (.slice (some ⟨gg, 0, none⟩) (n + 1) cap) y = f y by simp [ups, e]]
      refine (h.row y).keep fun b hb => ⟨?_, ?_⟩
      · exact hk4 b (h.own b (by rw [hb]; simp)).2 (by rw [hb]; intro e2; injection e2 with e2; exact e e2) (fun e2 => by rw [e2, h.tM] at hb; cases hb)
      · show (if b = gg then _ else _) = _
        rw [if_neg (fun e2 => by
          have := hggt (e2 ▸ (h.own b (by rw [hb]; simp)).2)
          rw [← e2, hb] at this; injection this with this; exact e this)]
        exact hb
  · show ∀ d ∈ upc s.cl l (s.cl l ++ [x]) y, d.task < s.n
    unfold upc; split
    · intro d hd
      rcases List.mem_append.1 hd with h1 | h1
      · exact h.fit l d h1
      · simp at h1; subst h1; exact hx
    · exact h.fit y
  · show (upc s.cl l (s.cl l ++ [x]) y).length ≤ s.N + 1
    unfold upc; split
    · rw [List.length_append]; have := h.few l; simp; omega
    · have := h.few y; omega
  · change (if b = gg then Tag.row l else tg b) ≠ .no at e
    by_cases e2 : b = gg
    · subst e2; rw [hggt hb]; simp
    · rw [if_neg e2] at e; exact e
end
def LockE (w0 w : World) (P B M : Nat) (tg : Nat → Tag) (r : Bool × Int × Sd) (e : Ending) (w' : World) : Prop := e = .returned (.tuple #[.bool r.1, .int .i64 r.2.1]) ∧ ∃ tg' f', SbX w0 w' P B M tg' f' r.2.2 ∧ Kp tg tg' w w'
section
variable {w0 w : World} {P B M : Nat} {tg : Nat → Tag} {f : Int → Option Value} {s : Sd}
set_option maxHeartbeats 4000000 in
theorem lock_out (h : SbX w0 w P B M tg f s) {t l : Int} (hl : Wf l) (wr : Bool) (ht : ¬ s.ok t) : Calls Try.prog 24 #[Pq P, .int .i64 t, .int .i64 l, .bool wr] w (LockE w0 w P B M tg (s.lock t l wr)) := by
  have HA := Lib.hid (at_out h ht)
  have HF := Lib.hid (show LockE w0 w P B M tg (s.lock t l wr) (.returned (.tuple #[.bool false, .int .i64 22])) w from by
    rw [show s.lock t l wr = (false, 22, s) by unfold Sd.lock; rw [if_neg (fun e => ht e.1)]]
    exact ⟨rfl, tg, f, h, Kp.refl _ _⟩)
  unfold StE at HA
  generalize s.lock t l wr = r at *
  clear h ht hl
  go_enter Try.func24, Try.ntmps24
  go_wp2_with fail
  refine HA.out.mono ?_
  rintro e w2 ⟨rfl, rfl⟩
  go_wp2_with fail
  go_ret2
  exact HF.out
theorem ok_nat {s : Sd} {t : Int} (ht : s.ok t) : ∃ k : Nat, t = (k : Int) ∧ k < s.n := ⟨t.toNat, by have := ht.1; omega, by have := ht.1; have := ht.2; omega⟩
theorem ok_of {s : Sd} {k : Nat} (hk : k < s.n) : s.ok (k : Int) := ⟨by omega, by omega⟩
set_option maxHeartbeats 4000000 in
theorem lock_busy (h : SbX w0 w P B M tg f s) {k : Nat} {l : Int} (hl : Wf l) (wr : Bool) (hk : k < s.n) (hst : s.T.st k ≠ 0) : Calls Try.prog 24 #[Pq P, .int .i64 (k : Int), .int .i64 l, .bool wr] w (LockE w0 w P B M tg (s.lock k l wr)) := by
  have HA := Lib.hid (at_in h hk)
  have c0 := (h.tsk.1 k hk).1
  have HF := Lib.hid (show LockE w0 w P B M tg (s.lock k l wr) (.returned (.tuple #[.bool false, .int .i64 22])) w from by
    rw [show s.lock k l wr = (false, 22, s) by unfold Sd.lock; rw [if_neg (fun e => hst (by simpa using e.2))]]
    exact ⟨rfl, tg, f, h, Kp.refl _ _⟩)
  have hb0 : (((s.T.st k : Nat) : Int) == 0) = false := beq_eq_false_iff_ne.2 (by omega)
  have hb1 : (((s.T.st k : Nat) : Int) != 0) = true := by simp [hst]
  unfold StE at HA
  generalize s.T.st k = st at *
  generalize s.lock k l wr = r at *
  clear h hk hl
  go_enter Try.func24, Try.ntmps24
  go_wp2_with fail
  refine HA.out.mono ?_
  rintro e w2 ⟨rfl, rfl⟩
  go_wp2_with fail
  go_ret2
  exact HF.out
set_option maxHeartbeats 4000000 in
theorem lock_has (h : SbX w0 w P B M tg f s) (hN : s.N ≤ 1000000) {k : Nat} {l : Int} (hl : Wf l) (wr : Bool) (hk : k < s.n) (hst : s.T.st k = 0) (hh : s.has k l = true) : Calls Try.prog 24 #[Pq P, .int .i64 (k : Int), .int .i64 l, .bool wr] w (LockE w0 w P B M tg (s.lock k l wr)) := by
  have HA := Lib.hid (at_in h hk)
  have c0 := (h.tsk.1 k hk).1
  have HC := Lib.hid (has_any h hN k hl)
  rw [hh] at HC
  rw [hst] at c0
  have HF := Lib.hid (show ∀ w', Below w.heap.size w w' → LockE w0 w P B M tg (s.lock k l wr) (.returned (.tuple #[.bool false, .int .i64 16])) w' from fun w' hb => by
    rw [show s.lock k l wr = (false, 16, s) by unfold Sd.lock; rw [if_pos ⟨ok_of hk, by simpa using hst⟩, if_pos (by simpa using hh)]]
    exact ⟨rfl, tg, f, h.below hb, Kp.of_only (Only.of_below hb)⟩)
  unfold StE at HA
  generalize s.lock k l wr = r at *
  clear h hk hl hst hh
  go_enter Try.func24, Try.ntmps24
  go_wp2_with fail
  refine HA.out.mono ?_
  rintro e w2 ⟨rfl, rfl⟩
  go_wp2_with fail
  refine HC.out.mono ?_
  rintro e w3 ⟨rfl, hb⟩
  have HB := Lib.hid hb
  clear hb
  go_wp2_with fail
  go_ret2
  exact HF.out _ HB.out
set_option maxHeartbeats 8000000 in
theorem lock_take (h : SbX w0 w P B M tg f s) (hN : s.N ≤ 900000) {k : Nat} {l : Int} (hl : Wf l) (wr : Bool) (hk : k < s.n) (hst : s.T.st k = 0) (hh : s.has k l = false) : Calls Try.prog 24 #[Pq P, .int .i64 (k : Int), .int .i64 l, .bool wr] w (LockE w0 w P B M tg (s.lock k l wr)) := by
  have HA := Lib.hid (at_in h hk)
  have c0 := (h.tsk.1 k hk).1
  have HC := Lib.hid (has_any h (by omega) k hl)
  rw [hh] at HC
  rw [hst] at c0
  have HR := Lib.hid (show s.lock k l wr = (decide (((s.come k l wr).admit l).T.st k = 0), 0, (s.come k l wr).admit l) by unfold Sd.lock; rw [if_pos ⟨ok_of hk, by simpa using hst⟩, if_neg (by simpa using hh)]; rfl)
  have HX := Lib.hid h
  have HL := Lib.hid hl
  have HK := Lib.hid hk
  unfold StE at HA
  generalize s.lock k l wr = r at *
  clear h hk hl hst hh
  go_enter Try.func24, Try.ntmps24
  go_wp2_with fail
  refine HA.out.mono ?_
  rintro e w2 ⟨rfl, rfl⟩
  go_wp2_with fail
  refine HC.out.mono ?_
  rintro e w3 ⟨rfl, hb⟩
  have HX3 := Lib.hid (HX.out.below hb)
  have HO3 := Lib.hid (show Only (fun b => tg b ≠ .no) w2 w3 from Only.of_below hb)
  have d0 := (HX3.out.tsk.1 k HK.out).1
  have df := HX3.out.tsk.2
  obtain ⟨w4, hw4⟩ : ∃ w4, w3.setCell ⟨B, k * 2, none⟩ (.int .i64 1) = w4 := ⟨_, rfl⟩
  have HX4 := Lib.hid (show SbX w0 w4 P B M tg f { s with T := s.T.put k 1 } from by
    rw [← hw4]
    exact HX3.out.turnT (only_cell w3 ⟨B, k * 2, none⟩ (.int .i64 1)) (HX3.out.tsk.put HK.out 1))
  have HO4 := Lib.hid (show Only (fun b => tg b ≠ .no) w2 w4 from by
    rw [← hw4]
    exact HO3.out.trans ((only_cell w3 ⟨B, k * 2, none⟩ _).mono fun b e => by rw [show b = B from e, HX3.out.tB]; simp))
  clear hb HA HC c0
  go_upto_region 7 with fail
  try rw [hw4]
  clear hw4 d0 df
  obtain ⟨o, c, hv, hs, ht⟩ := HX4.out.row l
  have HV := Lib.hid hv
  have HT := Lib.hid ht
  obtain ⟨L, hL1, hL2⟩ := hs.owns (lo := w0.heap.size) (fun G e => (HX4.out.own G (by rw [ht G e]; simp)).1)
  have hlk := HX4.out.look HL.out
  rw [hv] at hlk
  obtain ⟨n, hn⟩ : ∃ n, (s.cl l).length = n := ⟨_, rfl⟩
  have hfew := HX4.out.few l
  change (s.cl l).length ≤ s.N at hfew
  change (Instr.lookup 69 (.map (some M)) (.int .i64 l) false).run Try.prog w4 = .ok (.slice (Ao o) (s.cl l).length c) w4 at hlk
  change w4.ownsRow w0.heap.size 80 3 (.slice (Ao o) (s.cl l).length c) (s.cl l).length L at hL1
  rw [hn] at hlk hL1 hfew
  have HL1 := Lib.hid hL1
  have HL2 := Lib.hid hL2
  have HN := Lib.hid hn
  obtain ⟨i0, hi, hz0, hz1, hz2⟩ := info_parts info60p
  have S1 : w4.drew.cell? ⟨P, 1, none⟩ = some (.map (some M)) ∧ (Instr.lookup 69 (.map (some M)) (.int .i64 l) false).run Try.prog w4.drew = .ok (.slice (Ao o) n c) w4.drew := by
    have hX := HX4.out.below (Below.refl _ _).drew
    refine ⟨hX.p1, ?_⟩
    rw [hX.look HL.out, hv]
    show Result.ok (Value.slice (Ao o) (s.cl l).length c) _ = _
    rw [hn]
  clear hv hs ht hL1 hL2 hn hlk
  refine rh.region_T (S := (fun W => W.cell? ⟨P, 1, none⟩ = some (.map (some M)) ∧ (Instr.lookup 69 (.map (some M)) (.int .i64 l) false).run Try.prog W = .ok (.slice (Ao o) n c) W)) (z := 16) (by kernel_rfl) ?_
  simp only [List.size_toArray, List.length_cons, List.length_nil, Nat.zero_add, Nat.reduceAdd]
  rw [show Array.replicate 17 false = #[false, false, false, false, false, false, false, false, false, false, false, false, false, false, false, false, false] from rfl]
  refine rh.take_T (i := 0) (Pq P) rfl (by kernel_rfl) (by kernel_rfl) (by kernel_rfl) (by kernel_rfl) (fun _ _ _ h => h) (Or.inl ⟨by rfl, by intro w' hSw; (try dsimp only at hSw); go_simp⟩) S1 ?_
  simp only [Act.put, List.setIfInBounds_toArray, List.set_cons_zero, List.set_cons_succ]
  refine rh.take_T (i := 1) (Pq P) rfl (by kernel_rfl) (by kernel_rfl) (by kernel_rfl) (by kernel_rfl) (fun _ _ _ h => h) (Or.inl ⟨by rfl, by intro w' hSw; (try dsimp only at hSw); go_simp⟩) S1 ?_
  simp only [Act.put, List.setIfInBounds_toArray, List.set_cons_zero, List.set_cons_succ]
  refine rh.take_T (i := 2) (.pointer (some ⟨P, 1, none⟩)) rfl (by kernel_rfl) (by kernel_rfl) (by kernel_rfl) (by kernel_rfl) (fun _ _ _ h => h) (Or.inl ⟨by rfl, by intro w' hSw; (try dsimp only at hSw); go_simp⟩) S1 ?_
  simp only [Act.put, List.setIfInBounds_toArray, List.set_cons_zero, List.set_cons_succ]
  refine rh.take_T (i := 3) (.map (some M)) rfl (by kernel_rfl) (by kernel_rfl) (by kernel_rfl) (by kernel_rfl) (fun _ _ _ h => h) (Or.inl ⟨by rfl, by intro w' hSw; (try dsimp only at hSw); go_simp⟩) S1 ?_
  simp only [Act.put, List.setIfInBounds_toArray, List.set_cons_zero, List.set_cons_succ]
  refine rh.take_T (i := 4) (.int .i64 l) rfl (by kernel_rfl) (by kernel_rfl) (by kernel_rfl) (by kernel_rfl) (fun _ _ _ h => h) (Or.inl ⟨by rfl, by intro w' hSw; (try dsimp only at hSw); go_simp⟩) S1 ?_
  simp only [Act.put, List.setIfInBounds_toArray, List.set_cons_zero, List.set_cons_succ]
  refine rh.take_T (i := 5) (Pq P) rfl (by kernel_rfl) (by kernel_rfl) (by kernel_rfl) (by kernel_rfl) (fun _ _ _ h => h) (Or.inl ⟨by rfl, by intro w' hSw; (try dsimp only at hSw); go_simp⟩) S1 ?_
  simp only [Act.put, List.setIfInBounds_toArray, List.set_cons_zero, List.set_cons_succ]
  refine rh.take_T (i := 6) (Pq P) rfl (by kernel_rfl) (by kernel_rfl) (by kernel_rfl) (by kernel_rfl) (fun _ _ _ h => h) (Or.inl ⟨by rfl, by intro w' hSw; (try dsimp only at hSw); go_simp⟩) S1 ?_
  simp only [Act.put, List.setIfInBounds_toArray, List.set_cons_zero, List.set_cons_succ]
  refine rh.take_T (i := 7) (.pointer (some ⟨P, 1, none⟩)) rfl (by kernel_rfl) (by kernel_rfl) (by kernel_rfl) (by kernel_rfl) (fun _ _ _ h => h) (Or.inl ⟨by rfl, by intro w' hSw; (try dsimp only at hSw); go_simp⟩) S1 ?_
  simp only [Act.put, List.setIfInBounds_toArray, List.set_cons_zero, List.set_cons_succ]
  refine rh.take_T (i := 8) (.map (some M)) rfl (by kernel_rfl) (by kernel_rfl) (by kernel_rfl) (by kernel_rfl) (fun _ _ _ h => h) (Or.inl ⟨by rfl, by intro w' hSw; (try dsimp only at hSw); go_simp⟩) S1 ?_
  simp only [Act.put, List.setIfInBounds_toArray, List.set_cons_zero, List.set_cons_succ]
  refine rh.take_T (i := 9) (.int .i64 l) rfl (by kernel_rfl) (by kernel_rfl) (by kernel_rfl) (by kernel_rfl) (fun _ _ _ h => h) (Or.inl ⟨by rfl, by intro w' hSw; (try dsimp only at hSw); go_simp⟩) S1 ?_
  simp only [Act.put, List.setIfInBounds_toArray, List.set_cons_zero, List.set_cons_succ]
  refine rh.take_T (i := 10) (.slice (Ao o) n c) rfl (by kernel_rfl) (by kernel_rfl) (by kernel_rfl) (by kernel_rfl) (fun _ _ _ h => h) (Or.inl ⟨by rfl, by intro w' hSw; (try dsimp only at hSw); go_simp⟩) S1 ?_
  simp only [Act.put, List.setIfInBounds_toArray, List.set_cons_zero, List.set_cons_succ]
  refine rh.take_T (i := 11) (.int .i64 (k : Int)) rfl (by kernel_rfl) (by kernel_rfl) (by kernel_rfl) (by kernel_rfl) (fun _ _ _ h => h) (Or.inl ⟨by rfl, by intro w' hSw; (try dsimp only at hSw); go_simp⟩) S1 ?_
  simp only [Act.put, List.setIfInBounds_toArray, List.set_cons_zero, List.set_cons_succ]
  refine rh.take_T (i := 12) (.bool wr) rfl (by kernel_rfl) (by kernel_rfl) (by kernel_rfl) (by kernel_rfl) (fun _ _ _ h => h) (Or.inl ⟨by rfl, by intro w' hSw; (try dsimp only at hSw); go_simp⟩) S1 ?_
  simp only [Act.put, List.setIfInBounds_toArray, List.set_cons_zero, List.set_cons_succ]
  refine rh.take_T (i := 13) (Cv k wr false) rfl (by kernel_rfl) (by kernel_rfl) (by kernel_rfl) (by kernel_rfl) (fun _ _ _ h => h) (Or.inl ⟨by rfl, by intro w' hSw; (try dsimp only at hSw); go_simp⟩) S1 ?_
  simp only [Act.put, List.setIfInBounds_toArray, List.set_cons_zero, List.set_cons_succ]
  refine rh.step_T (i := 14) (by kernel_rfl) rfl fun K hK => ?_
  go_simp
  obtain ⟨w5, hw5⟩ : ∃ w5, (w4.alloc (.cells #[.int .i64 (k : Int), .bool wr, .bool false] 80)).drew = w5 := ⟨_, rfl⟩
  have hb5 : Below w4.heap.size w4 w5 := by rw [← hw5]; exact (below_alloc _ _).drew
  have HX5 := Lib.hid (HX4.out.below hb5)
  have HL5 := Lib.hid (show w5.ownsRow w0.heap.size 80 3 (.slice (Ao o) n c) n L from by rw [← hw5]; exact (HL1.out.alloc _).drew)
  have S5 : w5.cell? ⟨P, 1, none⟩ = some (.map (some M)) ∧ (Instr.lookup 69 (.map (some M)) (.int .i64 l) false).run Try.prog w5 = .ok (.slice (Ao o) n c) w5 := by
    refine ⟨HX5.out.p1, ?_⟩
    rw [HX5.out.look HL.out, HV.out]
    show Result.ok (Value.slice (Ao o) (s.cl l).length c) _ = _
    rw [HN.out]
  have HC5 := Lib.hid (show ∀ j u, [Value.int .i64 (k : Int), .bool wr, .bool false][j]? = some u → w5.cell? ((⟨w4.heap.size, 0, none⟩ : Addr).add j) = some u from by
    rw [← hw5]
    exact World.news_of_block (cs := #[.int .i64 (k : Int), .bool wr, .bool false]) (t := 80) (fr := (0, 0)) (heap_alloc_new w4 _))
  have HLO := Lib.hid (show w0.heap.size ≤ w5.heap.size from HX5.out.bel.size)
  have HW5 := Lib.hid hw5
  try rw [hw5]
  refine hK.out _ _ (.inr S5) ?_
  clear hK K hw5 hb5 S1
  simp only [Act.put, List.setIfInBounds_toArray, List.set_cons_zero, List.set_cons_succ]
  refine rh.step_T (i := 15) (by kernel_rfl) rfl fun K hK => ?_
  refine step_append_lies _ rfl (.tmp 42) (.tmp 46) 78 rfl w0.heap.size 80 i0 _ 3 16 Try.underlying78 hi hz0 hz1 hz2 rfl (by decide) (.slice (Ao o) n c) n L rfl HL5.out ⟨w4.heap.size, 0, none⟩ 1 1 [.int .i64 (k : Int), .bool wr, .bool false] rfl rfl HC5.out (by intro u hu; simp at hu; rcases hu with rfl | rfl | rfl <;> rfl) (by omega) (by unfold maxLen; omega) (by omega) HLO.out _ rfl ?_
  intro gg cap w6 hown hgr hat hlt
  obtain ⟨w7, tg', hput, hX7, hK7⟩ := HX4.out.came (x := ⟨k, wr, false⟩) HL.out (by show s.N ≤ _; omega) (HV.out.trans (by show Value.slice (Ao o) (s.cl l).length c = .slice (Ao o) n c; rw [HN.out])) HT.out HN.out HK.out HL2.out hown (by rw [HW5.out]; exact hgr) (by rw [HW5.out]; exact hat)
  have HX7 := Lib.hid hX7
  have HK7 := Lib.hid hK7
  have HTH := Lib.hid (HX4.out.through HT.out (by rw [HW5.out]; exact hgr))
  have S6 : w6.cell? ⟨P, 1, none⟩ = some (.map (some M)) ∧ (Instr.lookup 69 (.map (some M)) (.int .i64 l) false).run Try.prog w6 = .ok (.slice (Ao o) n c) w6 := by
    refine ⟨(World.cell?_of_block (a := ⟨P, 1, none⟩) HTH.out.1).trans HX4.out.p1, ?_⟩
    rw [HX4.out.look_at HTH.out.2 HL.out, HV.out]
    show Result.ok (Value.slice (Ao o) (s.cl l).length c) _ = _
    rw [HN.out]
  refine hK.out _ _ (.inr S6) ?_
  clear hK K hown hgr hat hlt S5 S6 hX7 hK7
  simp only [Act.put, List.setIfInBounds_toArray, List.set_cons_zero, List.set_cons_succ]
  refine rh.step_T (i := 16) (by kernel_rfl) rfl fun K hK => ?_
  go_simp
  refine hK.out _ _ (.inl rfl) ?_
  clear hK K
  refine rh.done_T (by kernel_rfl) ?_
  have HAD := Lib.hid (admit_any HX7.out (by show s.N + 1 ≤ _; omega) HL.out)
  clear hput
  go_wp2_with fail
  refine HAD.out.mono ?_
  rintro e w8 ⟨rfl, hX8, ho8⟩
  have HX8 := Lib.hid hX8
  have e0 := (hX8.tsk.1 k HK.out).1
  have HF := Lib.hid (show LockE w0 w2 P B M tg r (.returned (.tuple #[.bool (decide (((s.come k l wr).admit l).T.st k = 0)), .int .i64 0])) w8 from by
    rw [HR.out]
    exact ⟨rfl, tg', _, hX8, (Kp.of_only HO4.out).trans (HK7.out.trans (Kp.of_only ho8))⟩)
  have HE := Lib.hid (show ((((s.come k l wr).admit l).T.st k : Nat) == 0) = decide (((s.come k l wr).admit l).T.st k = 0) by rfl)
  change w8.cell? ⟨B, k * 2, none⟩ = some (.int .i64 ((((s.come k l wr).admit l).T.st k : Nat) : Int)) at e0
  generalize ((s.come k l wr).admit l).T.st k = st at *
  clear hX8 ho8 HAD HR
  by_cases hs : st = 0
  · have HF2 := Lib.hid (show LockE w0 w2 P B M tg r (.returned (.tuple #[.bool true, .int .i64 0])) w8 by have := HF.out; rw [show decide (st = 0) = true by simpa using hs] at this; exact this)
    have hb1 : ((st : Int) == 0) = true := by simp [hs]
    clear HF HE hs
    go_wp2_with fail
    go_ret2
    exact HF2.out
  · have HF2 := Lib.hid (show LockE w0 w2 P B M tg r (.returned (.tuple #[.bool false, .int .i64 0])) w8 by have := HF.out; rw [show decide (st = 0) = false by simpa using hs] at this; exact this)
    have hb1 : ((st : Int) == 0) = false := beq_eq_false_iff_ne.2 (by omega)
    clear HF HE hs
    go_wp2_with fail
    go_ret2
    exact HF2.out
theorem lock_any (h : SbX w0 w P B M tg f s) (hN : s.N ≤ 900000) {t l : Int} (hl : Wf l) (wr : Bool) : Calls Try.prog 24 #[Pq P, .int .i64 t, .int .i64 l, .bool wr] w (LockE w0 w P B M tg (s.lock t l wr)) := by
  by_cases ht : s.ok t
  · obtain ⟨k, rfl, hk⟩ := ok_nat ht
    by_cases hst : s.T.st k = 0
    · cases hh : s.has k l with
      | true => exact lock_has h (by omega) hl wr hk hst hh
      | false => exact lock_take h hN hl wr hk hst hh
    · exact lock_busy h hl wr hk hst
  · exact lock_out h hl wr ht
end

end Go.Proofs.Ytlplbpilpkmoaaa.sc
