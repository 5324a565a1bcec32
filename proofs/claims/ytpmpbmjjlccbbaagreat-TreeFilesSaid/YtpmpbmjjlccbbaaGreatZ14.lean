/- Part 14 of what is known of the program's functions and of the document's words: contracts, and the mathematics beneath them. -/
import Derived.Test.YtpmpbmjjlccbbaaGreatProg
import Derived.Test.YtpmpbmjjlccbbaaGreatZ13
import Derived.OwnWalk
import Derived.LaidEqlPtr
set_option linter.unusedVariables false
set_option linter.unusedSimpArgs false
set_option maxRecDepth 100000
set_option maxHeartbeats 8000000
namespace Go.Proofs.YtpmpbmjjlccbbaaGreat.cb
open Go.RowKit
open qu (KN ins QL)
open dn (Du En lget lset ldel getV nerr dotB Sorted)
open bl (AB Bod BodC StoC Only Pq)
open br
structure Stp (w w' : World) (tag tag' : Nat → Nat) : Prop where
 tg : ∀ b, b < w.heap.size → tag' b = tag b
 o : Only (fun b => tag b ≠ 0) w w'
theorem Stp.refl (w : World) (tag : Nat → Nat) : Stp w w tag tag := ⟨fun _ _ => rfl, Only.refl _ _⟩
theorem Stp.trans {w w1 w2 : World} {t t1 t2 : Nat → Nat} (a : Stp w w1 t t1) (b : Stp w1 w2 t1 t2) : Stp w w2 t t2 :=
 ⟨fun k hk => (b.tg k (Nat.lt_of_lt_of_le hk a.o.size)).trans (a.tg k hk),
  ⟨b.o.os.trans a.o.os, b.o.tape.trans a.o.tape, b.o.output.trans a.o.output, Nat.le_trans a.o.size b.o.size, fun k hk hF => (b.o.block k (Nat.lt_of_lt_of_le hk a.o.size) (by rw [a.tg k hk]; exact hF)).trans (a.o.block k hk hF)⟩⟩
theorem Stp.below {w w' : World} {tag : Nat → Nat} (hb : Below w.heap.size w w') : Stp w w' tag tag := ⟨fun _ _ => rfl, Only.of_below hb⟩
def Nx (w w' : World) (P lo st qb : Nat) (pl : Nat → Pl) (tag : Nat → Nat) (S' : BS) (room : Nat) (L' : List KN) (T' : Nat) : Prop :=
 ∃ qo' pl' tag', CB w' P lo st qb qo' pl' tag' S' room L' T' ∧ Stp w w' tag tag' ∧ ∀ j, (S'.ino j).kind ≠ 0 → (pl' j).nd = (pl j).nd
section
variable {w w' : World} {P lo st qb room T : Nat} {qo : Option Nat} {pl : Nat → Pl} {tag : Nat → Nat} {S : BS} {L : List KN}
theorem pl_same (pl : Nat → Pl) (k : Nat) : (fun j => if j = k then pl k else pl j) = pl := by
 funext j; split
 ·next e => rw [e]
 ·rfl
theorem CB.plt (h : CB w P lo st qb qo pl tag S room L T) : P < w.heap.size ∧ lo ≤ P := ⟨h.lt (by rw [h.tP]; decide), h.ge (by rw [h.tP]; decide)⟩
theorem CB.dstep (h : CB w P lo st qb qo pl tag S room L T) {D : Nat} (hk : D ≤ 200) (hD : (S.ino D).kind = 2) {K : List En} {v : Value} {e : Ending} (hs : dn.StepE w (pl D).di lo (pl D).dr v K e w') :
  e = .returned v ∧ Nx w w' P lo st qb pl tag ⟨upd S.ino D { S.ino D with dir := K }, S.used⟩ room L T := by
 obtain ⟨he, o', c', hd, ho, hf⟩ := hs
 have hn0 : (S.ino D).kind ≠ 0 := by rw [hD]; decide
 have hi := h.ino D hk hn0
 have t := h.ti D hk hn0
 have hO : Only (fun b => b = (pl D).di ∨ (pl D).dr = some b) w w' := ⟨hf.os, hf.tape, hf.output, hf.size, fun k hk hF => hf.block k hk (fun e => hF (.inl e)) (fun e => hF (.inr e))⟩
 have hF : ∀ b, (b = (pl D).di ∨ (pl D).dr = some b) → tag b = 5 * D + 8 ∨ tag b = 5 * D + 9 := by
  rintro b (rfl | e)
  ·exact .inl (t.d hD).1
  ·exact .inr ((t.d hD).2 b e)
 have oth : ∀ b, tag b ≠ 0 → tag b ≠ 5 * D + 8 → tag b ≠ 5 * D + 9 → w'.heap[b]? = w.heap[b]? := fun b h1 h2 h3 => h.block hO h1 (fun hf => by rcases hF b hf with e | e <;> omega)
 have hnd := oth (pl D).nd (by rw [t.n]; omega) (by rw [t.n]; omega) (by rw [t.n]; omega)
 have e1 : ∀ j, w'.cell? ⟨(pl D).nd, j, none⟩ = w.cell? ⟨(pl D).nd, j, none⟩ := fun j => World.cell?_of_block (a := ⟨(pl D).nd, j, none⟩) hnd
 have hx : InoC w' st lo { pl D with dr := o', dc := c' } { S.ino D with dir := K } :=
  ⟨(e1 0).trans hi.c0, (e1 1).trans hi.c1, (e1 2).trans hi.c2, (e1 3).trans hi.c3, (e1 4).trans hi.c4, (e1 5).trans hi.c5, (e1 6).trans hi.c6, (e1 7).trans hi.c7, fun j => (World.frozen?_of_block (a := ⟨(pl D).nd, j, none⟩) hnd).trans (hi.f j),
   fun k => by have k' : (S.ino D).kind = 1 := k; omega, fun _ => hd⟩
 obtain ⟨tg, tyes, tno⟩ : ∃ tg : Nat → Nat, (∀ b, o' = some b → tg b = 5 * D + 9) ∧ (∀ b, o' ≠ some b → tg b = tag b) := ⟨fun b => if o' = some b then 5 * D + 9 else tag b, fun b e => if_pos e, fun b e => if_neg e⟩
 have tt : ∀ b, b < w.heap.size → tg b = tag b := fun b hb => by
  by_cases e : o' = some b
  ·rw [tyes b e]
   rcases ho b e with e1 | e1
   ·exact ((t.d hD).2 b e1).symm
   ·omega
  ·exact tno b e
 refine ⟨he, qo, _, tg, h.turn (p := { pl D with dr := o', dc := c' }) (x := { S.ino D with dir := K }) hk hO (fun b hb => by rcases hF b hb with e | e <;> omega) hn0 (by exact hn0) rfl (StoC.keep h.sto (oth st (by rw [h.tS]; decide) (by rw [h.tS]; omega) (by rw [h.tS]; omega))) hx ?_ tt (fun b hb => ?_), ⟨tt, hO.mono fun b hb => by rcases hF b hb with e | e <;> omega⟩, fun j hj => ?_⟩
 ·refine ⟨(tt _ hi.nlt).trans t.n, fun k => by have k' : (S.ino D).kind = 1 := k; omega, fun _ => ⟨(tt _ (hi.dlt hD).1).trans (t.d hD).1, fun G e => tyes G e⟩⟩
 ·rw [tno, h.hi b (Nat.le_trans hf.size hb)]
  intro e
  have := (hd.glt b e).1
  omega
 ·show (if j = D then _ else pl j).nd = _
  split
  ·next e => rw [e]
  ·rfl
theorem CB.setf (h : CB w P lo st qb qo pl tag S room L T) {k : Nat} (hk : k ≤ 200) (hn0 : (S.ino k).kind ≠ 0) (j : Nat) (v : Value) {x : Ino} (hx : (w.setCell ⟨(pl k).nd, j, none⟩ v).cell? ⟨(pl k).nd, 1, none⟩ = some (.int .i64 x.links) ∧ (w.setCell ⟨(pl k).nd, j, none⟩ v).cell? ⟨(pl k).nd, 2, none⟩ = some (.int .i64 x.holds) ∧
   (w.setCell ⟨(pl k).nd, j, none⟩ v).cell? ⟨(pl k).nd, 3, none⟩ = some (.int .i64 x.marks) ∧ (w.setCell ⟨(pl k).nd, j, none⟩ v).cell? ⟨(pl k).nd, 6, none⟩ = some (.int .i64 x.parent))
  (hj : j = 1 ∨ j = 2 ∨ j = 3 ∨ j = 6) (e1 : x.kind = (S.ino k).kind) (e2 : x.body = (S.ino k).body) (e3 : x.dir = (S.ino k).dir) (e4 : x.target = (S.ino k).target) :
  CB (w.setCell ⟨(pl k).nd, j, none⟩ v) P lo st qb qo pl tag ⟨upd S.ino k x, S.used⟩ room L T ∧ Stp w (w.setCell ⟨(pl k).nd, j, none⟩ v) tag tag := by
 have hi := h.ino k hk hn0
 have t := h.ti k hk hn0
 have hO : Only (fun b => b = (pl k).nd) w (w.setCell ⟨(pl k).nd, j, none⟩ v) := ⟨rfl, rfl, rfl, by simp [World.setCell], fun b hb hF => Below.heap_setCell _ _ _ _ hF⟩
 have oth : ∀ b, tag b ≠ 5 * k + 5 → (w.setCell ⟨(pl k).nd, j, none⟩ v).heap[b]? = w.heap[b]? := fun b h1 => Below.heap_setCell _ _ _ _ (fun e => h1 (by rw [e]; exact t.n))
 have eo : ∀ i, i ≠ j → (w.setCell ⟨(pl k).nd, j, none⟩ v).cell? ⟨(pl k).nd, i, none⟩ = w.cell? ⟨(pl k).nd, i, none⟩ := fun i hi => World.cell?_setCell_other _ _ _ _ (fun e => hi (by injection e with _ e _; exact e.symm))
 have hb : bpV (pl k) x = bpV (pl k) (S.ino k) := by unfold bpV; rw [e1]
 have hd : dpV (pl k) x = dpV (pl k) (S.ino k) := by unfold dpV; rw [e1]
 have hX : InoC (w.setCell ⟨(pl k).nd, j, none⟩ v) st lo (pl k) x := by
  refine ⟨by rw [eo 0 (by omega), hi.c0, e1], hx.1, hx.2.1, hx.2.2.1, by rw [eo 4 (by omega), hi.c4, hb], by rw [eo 5 (by omega), hi.c5, hd], hx.2.2.2, by rw [eo 7 (by omega), hi.c7, e4], fun i => by rw [World.frozen?_setCell]; exact hi.f i, fun k1 => ?_, fun k1 => ?_⟩
  ·rw [e1] at k1
   rw [e2]
   exact (hi.bod k1).keep (oth _ (by rw [(t.b k1).1]; omega)) (oth _ (by rw [(t.b k1).2]; omega))
  ·rw [e1] at k1
   rw [e3]
   exact (hi.dir k1).of_blocks (oth _ (by rw [(t.d k1).1]; omega)) (fun G e => oth _ (by rw [(t.d k1).2 G e]; omega))
 have hs : (w.setCell ⟨(pl k).nd, j, none⟩ v).heap.size = w.heap.size := by simp [World.setCell]
 have := h.turn hk hO (fun b hb => .inr (.inr (by rw [hb, t.n]; omega))) hn0 (by rw [e1]; exact hn0) rfl (StoC.keep h.sto (oth st (by rw [h.tS]; omega))) hX (tag' := tag) ⟨t.n, fun k1 => t.b (by rw [← e1]; exact k1), fun k1 => t.d (by rw [← e1]; exact k1)⟩ (fun _ _ => rfl) (fun b hb => h.hi b (by omega))
 rw [pl_same] at this
 exact ⟨this, fun _ _ => rfl, hO.mono fun b hb => by rw [hb, t.n]; omega⟩
theorem CB.bstep (h : CB w P lo st qb qo pl tag S room L T) {k : Nat} (hk : k ≤ 200) (hf : (S.ino k).kind = 1) {b' : AB} (hb : bl.BodE w st (pl k).bo (pl k).bm room S.used (S.ino k).body b' w') :
  CB w' P lo st qb qo pl tag ⟨upd S.ino k { S.ino k with body := b' }, S.used + b'.n - (S.ino k).body.n⟩ room L T ∧ Stp w w' tag tag := by
 have hn0 : (S.ino k).kind ≠ 0 := by rw [hf]; decide
 have hi := h.ino k hk hn0
 have t := h.ti k hk hn0
 have hF : ∀ b, bl.fp st (pl k).bo (pl k).bm b → tag b = 2 ∨ tag b = 5 * k + 6 ∨ tag b = 5 * k + 7 := by
  rintro b (rfl | rfl | rfl)
  ·exact .inl h.tS
  ·exact .inr (.inl (t.b hf).1)
  ·exact .inr (.inr (t.b hf).2)
 have oth : ∀ b, tag b ≠ 0 → tag b ≠ 2 → tag b ≠ 5 * k + 6 → tag b ≠ 5 * k + 7 → w'.heap[b]? = w.heap[b]? := fun b h1 h2 h3 h4 => h.block hb.o h1 (fun hf => by rcases hF b hf with e | e | e <;> omega)
 have hnd := oth (pl k).nd (by rw [t.n]; omega) (by rw [t.n]; omega) (by rw [t.n]; omega) (by rw [t.n]; omega)
 have e1 : ∀ j, w'.cell? ⟨(pl k).nd, j, none⟩ = w.cell? ⟨(pl k).nd, j, none⟩ := fun j => World.cell?_of_block (a := ⟨(pl k).nd, j, none⟩) hnd
 have hx : InoC w' st lo (pl k) { S.ino k with body := b' } :=
  ⟨(e1 0).trans hi.c0, (e1 1).trans hi.c1, (e1 2).trans hi.c2, (e1 3).trans hi.c3, (e1 4).trans hi.c4, (e1 5).trans hi.c5, (e1 6).trans hi.c6, (e1 7).trans hi.c7, fun j => (World.frozen?_of_block (a := ⟨(pl k).nd, j, none⟩) hnd).trans (hi.f j),
   fun _ => hb.b, fun k' => by have k'' : (S.ino k).kind = 2 := k'; omega⟩
 have := h.turn hk hb.o (fun b hb' => by rcases hF b hb' with e | e | e <;> omega) hn0 (by exact hn0) rfl hb.s hx (tag' := tag) ⟨t.n, t.b, t.d⟩ (fun _ _ => rfl) (fun b hb' => h.hi b (Nat.le_trans hb.o.size hb'))
 rw [pl_same] at this
 exact ⟨this, fun _ _ => rfl, hb.o.mono fun b hb' => by rcases hF b hb' with e | e | e <;> omega⟩
theorem CB.qstep (h : CB w P lo st qb qo pl tag S room L T) {v : Value} {L' : List KN} {T' : Nat} {e : Ending} (hs : qu.StepE w qb lo qo v L' T' e w') : e = .returned v ∧ Nx w w' P lo st qb pl tag S room L' T' := by
 obtain ⟨he, o', hq, ho, hf⟩ := hs
 obtain ⟨tag', h1, h2, h3⟩ := h.queue hq ho hf
 exact ⟨he, o', pl, tag', h1, ⟨h2, h3⟩, fun _ _ => rfl⟩
end
end Go.Proofs.YtpmpbmjjlccbbaaGreat.cb
namespace Go.Proofs.YtpmpbmjjlccbbaaGreat.cb
open Go.RowKit
open qu (KN ins QL)
open dn (Du En lget lset ldel getV nerr dotB Sorted RetV)
open bl (AB Bod BodC StoC Only Pq)
open br
def atV (S : BS) (pl : Nat → Pl) (i : Int) : Value := if S.isI i = true then Pq (pl i.toNat).nd else .pointer none
section
variable {w w' : World} {P lo st qb room T : Nat} {qo : Option Nat} {pl : Nat → Pl} {tag : Nat → Nat} {S : BS} {L : List KN}
theorem atV_yes {k : Nat} (h1 : 1 ≤ k) (h2 : k ≤ 200) (hk : (S.ino k).kind ≠ 0) : atV S pl (k : Int) = Pq (pl k).nd := by
 unfold atV BS.isI
 rw [if_pos (by simp only [at_nat, decide_eq_true_eq]; exact ⟨by omega, by omega, hk⟩)]; rfl
theorem atV_no {i : Int} (h : S.isI i = false) : atV S pl i = .pointer none := by unfold atV; rw [if_neg (by rw [h]; decide)]
theorem at_any (h : CB w P lo st qb qo pl tag S room L T) (h0 : (S.ino 0).kind = 0) (i : Int) : Calls Tryz.prog 104 #[Pq P, .int .i64 i] w (fun e w' => e = .returned (atV S pl i) ∧ w' = w) := by
 by_cases h1 : i < 0
 ·have hv := Lib.hid (atV_no (pl := pl) (show S.isI i = false by unfold BS.isI; simp; omega))
  clear h h0
  go_enter Tryz.func104, Tryz.ntmps104
  go_wp2_with fail
  go_ret
  exact ⟨by rw [hv.out]; rfl, rfl⟩
 ·by_cases h2 : 200 < i
  ·have hv := Lib.hid (atV_no (pl := pl) (show S.isI i = false by unfold BS.isI; simp; omega))
   clear h h0
   go_enter Tryz.func104, Tryz.ntmps104
   go_wp2_with fail
   go_ret
   exact ⟨by rw [hv.out]; rfl, rfl⟩
  ·obtain ⟨k, rfl⟩ : ∃ k : Nat, i = (k : Int) := ⟨i.toNat, by omega⟩
   have hk : k ≤ 200 := by omega
   have hc := h.ci k hk
   have hv := Lib.hid (show atV S pl (k : Int) = ptV (pl k).nd (S.ino k) by
    by_cases e : (S.ino k).kind = 0
    ·rw [ptV_no e, atV_no (by unfold BS.isI; simp [at_nat]; intro _ _; exact e)]
    ·rw [ptV_yes e, atV_yes (by rcases Nat.eq_zero_or_pos k with e1 | e1; subst e1; exact absurd h0 e; exact e1) hk e])
   generalize ptV (pl k).nd (S.ino k) = v at hc hv
   clear h h0 h1 h2
   go_enter Tryz.func104, Tryz.ntmps104
   go_wp2_with fail
   go_ret
   exact ⟨by rw [hv.out]; rfl, rfl⟩
def listV (S : BS) (pl : Nat → Pl) (d : Int) (c : Bool) : Value := .tuple #[if S.dirE d c = 0 then Pq (pl d.toNat).nd else .pointer none, .int .i64 (S.dirE d c)]
theorem dirE_cases (S : BS) (d : Int) : (S.isI d = false ∧ ∀ c, S.dirE d c = 2) ∨ ∃ D : Nat, d = (D : Int) ∧ 1 ≤ D ∧ D ≤ 200 ∧ S.isI d = true ∧ (S.ino D).kind ≠ 0 ∧ (((S.ino D).kind ≠ 2 ∧ ∀ c, S.dirE d c = 20) ∨
  ((S.ino D).kind = 2 ∧ S.dirE d false = 0 ∧ (((S.ino D).links = 0 ∧ S.dirE d true = 2) ∨ ((S.ino D).links ≠ 0 ∧ S.dirE d true = 0)))) := by
 cases h : S.isI d
 ·exact .inl ⟨rfl, fun c => by unfold BS.dirE; rw [if_pos h]⟩
 ·obtain ⟨D, rfl, h1, h2, h3⟩ := isI_yes h
  refine .inr ⟨D, rfl, h1, h2, rfl, h3, ?_⟩
  have hn : ¬ (S.isI (D : Int) = false) := by rw [h]; decide
  unfold BS.dirE
  simp only [if_neg hn, at_nat]
  by_cases e : (S.ino D).kind = 2
  ·refine .inr ⟨e, by simp [e], ?_⟩
   by_cases e2 : (S.ino D).links = 0
   ·exact .inl ⟨e2, by simp [e, e2]⟩
   ·exact .inr ⟨e2, by simp [e, e2]⟩
  ·exact .inl ⟨e, fun c => by rw [if_pos e]⟩
theorem listed_any (h : CB w P lo st qb qo pl tag S room L T) (h0 : (S.ino 0).kind = 0) (d : Int) : Calls Tryz.prog 109 #[Pq P, .int .i64 d] w (fun e w' => e = .returned (listV S pl d false) ∧ w' = w) := by
 have HA := Lib.hid (at_any h h0 d)
 rcases dirE_cases S d with ⟨h1, h2⟩ | ⟨D, rfl, d1, d2, h1, h3, h4⟩
 ·have hv := Lib.hid (show listV S pl d false = .tuple #[.pointer none, .int .i64 2] by unfold listV; rw [h2]; rfl)
  rw [atV_no h1] at HA
  clear h h0
  go_enter Tryz.func109, Tryz.ntmps109
  go_wp2_with fail
  refine HA.out.mono ?_
  rintro e w2 ⟨rfl, rfl⟩
  go_wp2_with fail
  go_ret2
  exact ⟨by rw [hv.out]; rfl, rfl⟩
 ·have hi := h.ino D d2 h3
  have hc := hi.c0
  have hn : atV S pl (D : Int) = Pq (pl D).nd := atV_yes d1 d2 h3
  rw [hn] at HA
  rcases h4 with ⟨h4, h5⟩ | ⟨h4, h5, _⟩
  ·have hv := Lib.hid (show listV S pl (D : Int) false = .tuple #[.pointer none, .int .i64 20] by unfold listV; rw [h5]; rfl)
   generalize (pl D).nd = N at *
   generalize (S.ino D).kind = K at *
   clear h h0 hi h5 h3
   go_enter Tryz.func109, Tryz.ntmps109
   go_wp2_with fail
   refine HA.out.mono ?_
   rintro e w2 ⟨rfl, rfl⟩
   go_wp2_with fail
   go_ret2
   exact ⟨by rw [hv.out]; rfl, rfl⟩
  ·have hv := Lib.hid (show listV S pl (D : Int) false = .tuple #[Pq (pl D).nd, .int .i64 0] by unfold listV; rw [h5]; rfl)
   generalize (pl D).nd = N at *
   rw [h4] at hc
   clear h h0 hi h5 h3 h4
   go_enter Tryz.func109, Tryz.ntmps109
   go_wp2_with fail
   refine HA.out.mono ?_
   rintro e w2 ⟨rfl, rfl⟩
   go_wp2_with fail
   go_ret2
   exact ⟨by rw [hv.out]; rfl, rfl⟩
theorem changed_any (h : CB w P lo st qb qo pl tag S room L T) (h0 : (S.ino 0).kind = 0) (d : Int) : Calls Tryz.prog 180 #[Pq P, .int .i64 d] w (fun e w' => e = .returned (listV S pl d true) ∧ w' = w) := by
 have HA := Lib.hid (listed_any h h0 d)
 have bad : ∀ r : Int, r ≠ 0 → S.dirE d false = r → S.dirE d true = r → Calls Tryz.prog 180 #[Pq P, .int .i64 d] w (fun e w' => e = .returned (listV S pl d true) ∧ w' = w) := by
  intro r hr e1 e2
  have hv := Lib.hid (show listV S pl d true = .tuple #[.pointer none, .int .i64 r] by unfold listV; rw [e2, if_neg hr])
  have hl : listV S pl d false = .tuple #[.pointer none, .int .i64 r] := by unfold listV; rw [e1, if_neg hr]
  rw [hl] at HA
  clear h h0 hl e1 e2
  go_enter Tryz.func180, Tryz.ntmps180
  go_wp2_with fail
  refine HA.out.mono ?_
  rintro e w2 ⟨rfl, rfl⟩
  go_wp2_with fail
  go_ret2
  exact ⟨by rw [hv.out]; rfl, rfl⟩
 rcases dirE_cases S d with ⟨h1, h2⟩ | ⟨D, rfl, d1, d2, h1, h3, h4⟩
 ·exact bad 2 (by decide) (h2 _) (h2 _)
 ·have hi := h.ino D d2 h3
  have hc := hi.c1
  rcases h4 with ⟨h4, h5⟩ | ⟨h4, h5, ⟨h6, h7⟩ | ⟨h6, h7⟩⟩
  ·exact bad 20 (by decide) (h5 _) (h5 _)
  ·have hv := Lib.hid (show listV S pl (D : Int) true = .tuple #[.pointer none, .int .i64 2] by unfold listV; rw [h7]; rfl)
   have hl : listV S pl (D : Int) false = .tuple #[Pq (pl D).nd, .int .i64 0] := by unfold listV; rw [h5]; rfl
   rw [hl] at HA
   generalize (pl D).nd = N at *
   rw [h6] at hc
   clear h h0 hi h5 h3 h4 bad hl
   go_enter Tryz.func180, Tryz.ntmps180
   go_wp2_with fail
   refine HA.out.mono ?_
   rintro e w2 ⟨rfl, rfl⟩
   go_wp2_with fail
   go_ret2
   exact ⟨by rw [hv.out]; rfl, rfl⟩
  ·have hv := Lib.hid (show listV S pl (D : Int) true = .tuple #[Pq (pl D).nd, .int .i64 0] by unfold listV; rw [h7]; rfl)
   have hl : listV S pl (D : Int) false = .tuple #[Pq (pl D).nd, .int .i64 0] := by unfold listV; rw [h5]; rfl
   rw [hl] at HA
   generalize (pl D).nd = N at *
   generalize (S.ino D).links = K at *
   clear h h0 hi h5 h3 h4 bad hl
   go_enter Tryz.func180, Tryz.ntmps180
   go_wp2_with fail
   refine HA.out.mono ?_
   rintro e w2 ⟨rfl, rfl⟩
   go_wp2_with fail
   go_ret2
   exact ⟨by rw [hv.out]; rfl, rfl⟩
end
def RetI (w : World) (v : Int) (e : Ending) (w' : World) : Prop := e = .returned (.int .i64 v) ∧ Below w.heap.size w w'
def RetW (w : World) (v : Value) (e : Ending) (w' : World) : Prop := e = .returned v ∧ Below w.heap.size w w'
theorem newName_any (s : ByteArray) (w : World) (hm : s.size ≤ 9223372036854775807) : Calls Tryz.prog 181 #[.string s] w (RetI w (nameE s)) := by
 have HN := Lib.hid (dn.name_any s w hm)
 unfold dn.NameE at HN
 unfold RetI
 by_cases he : nerr s.data.toList = 0
 ·rw [he] at HN
  obtain ⟨q1, h1⟩ : ∃ a, (s.toList == [46]) = a := ⟨_, rfl⟩
  obtain ⟨q2, h2⟩ : ∃ a, (s.toList == [46, 46]) = a := ⟨_, rfl⟩
  have hV := Lib.hid (show nameE s = if (q1 || q2) = true then 22 else 0 by unfold nameE dotB; rw [h1, h2, he]; simp)
  generalize nameE s = r at *
  clear he
  rcases (show q1 = true ∨ (q1 = false ∧ q2 = true) ∨ (q1 = false ∧ q2 = false) by cases q1 <;> cases q2 <;> simp) with rfl | ⟨rfl, rfl⟩ | ⟨rfl, rfl⟩
  all_goals
   go_enter Tryz.func181, Tryz.ntmps181
   go_wp2_with fail
   refine HN.out.mono ?_
   rintro e w2 ⟨rfl, hb2⟩
   go_wp2_with fail
   go_ret
   exact ⟨by rw [hV.out]; rfl, hb2⟩
 ·have hV := Lib.hid (show nameE s = nerr s.data.toList by unfold nameE; rw [if_neg (fun h => he h.1)])
  generalize nameE s = r at *
  generalize nerr s.data.toList = x at *
  have hr : (x != 0) = true := by simpa using he
  clear he
  go_enter Tryz.func181, Tryz.ntmps181
  go_wp2_with fail
  refine HN.out.mono ?_
  rintro e w2 ⟨rfl, hb2⟩
  go_wp2_with fail
  go_ret
  exact ⟨by rw [hV.out]; rfl, hb2⟩
section
variable {w w' : World} {P lo st qb room T : Nat} {qo : Option Nat} {pl : Nat → Pl} {tag : Nat → Nat} {S : BS} {L : List KN}
theorem CB.get (h : CB w P lo st qb qo pl tag S room L T) (hG : br.Good S room) {D : Nat} (hD : (S.ino D).kind = 2) (s : ByteArray) : Calls Tryz.prog 179 #[Pq (pl D).di, .string s] w (RetV w (getV s (S.ino D).dir)) := by
 have hn := hG.1.num (k := D) (by rw [hD]; decide)
 have hi := h.ino D hn.2 (by rw [hD]; decide)
 have hl := hG.1.dirLen D
 exact dn.get_any _ _ _ _ _ s w (hG.1.sorted D) (by omega) (hi.dir hD)
theorem CB.len (h : CB w P lo st qb qo pl tag S room L T) (hG : br.Good S room) {D : Nat} (hD : (S.ino D).kind = 2) : Calls Tryz.prog 155 #[Pq (pl D).di] w (fun e w' => e = .returned (.int .i64 (S.ino D).dir.length) ∧ w' = w) := by
 have hn := hG.1.num (k := D) (by rw [hD]; decide)
 have hi := h.ino D hn.2 (by rw [hD]; decide)
 exact dn.dlen_any _ _ _ _ _ w (hi.dir hD)
theorem InoC.c5d {w : World} {st lo : Nat} {p : Pl} {x : Ino} (h : InoC w st lo p x) (k : x.kind = 2) : w.cell? ⟨p.nd, 5, none⟩ = some (Pq p.di) := by rw [h.c5]; unfold dpV; rw [if_pos k]
theorem InoC.c4f {w : World} {st lo : Nat} {p : Pl} {x : Ino} (h : InoC w st lo p x) (k : x.kind = 1) : w.cell? ⟨p.nd, 4, none⟩ = some (Pq p.bo) := by rw [h.c4]; unfold bpV; rw [if_pos k]
theorem listV_bad {S : BS} {d : Int} {c : Bool} (h : S.dirE d c ≠ 0) : listV S pl d c = .tuple #[.pointer none, .int .i64 (S.dirE d c)] := by unfold listV; rw [if_neg h]
theorem listV_ok {S : BS} {D : Nat} {c : Bool} (h : S.dirE (D : Int) c = 0) : listV S pl (D : Int) c = .tuple #[Pq (pl D).nd, .int .i64 0] := by unfold listV; rw [if_pos h, h]; rfl
def vacV (S : BS) (pl : Nat → Pl) (d : Int) (s : ByteArray) : Value := .tuple #[if S.vacant d s = 0 then Pq (pl d.toNat).nd else .pointer none, .int .i64 (S.vacant d s)]
theorem vacant_any (h : CB w P lo st qb qo pl tag S room L T) (hG : br.Good S room) (d : Int) (s : ByteArray) (hm : s.size ≤ 9223372036854775807) : Calls Tryz.prog 171 #[Pq P, .int .i64 d, .string s] w (RetW w (vacV S pl d s)) := by
 have HC := Lib.hid (changed_any h hG.z0 d)
 unfold RetW
 by_cases h1 : S.dirE d true = 0
 ·obtain ⟨D, rfl, d1, d2, hD, hl⟩ := dirE_ok h1
  rw [listV_ok h1] at HC
  have HN := Lib.hid (newName_any s w hm)
  unfold RetI at HN
  by_cases h2 : nameE s = 0
  ·have HB := Lib.hid (fun W (hb : Below w.heap.size w W) => ((h.below hb).ino D d2 (by rw [hD]; decide)).c5d hD)
   have HG := Lib.hid (fun W (hb : Below w.heap.size w W) => (h.below hb).get hG hD s)
   rw [h2] at HN
   cases hg : lget s (S.ino D).dir with
   | none =>
    have hv := Lib.hid (show vacV S pl (D : Int) s = .tuple #[Pq (pl D).nd, .int .i64 0] by
     have : S.vacant (D : Int) s = 0 := by unfold BS.vacant; rw [if_neg (by omega), if_neg (by omega), at_nat, hg]; rfl
     unfold vacV; rw [this]; rfl)
    have hgv : getV s (S.ino D).dir = .tuple #[.int .i64 0, .int .i64 2] := by unfold getV; rw [hg]
    rw [hgv] at HG
    generalize (pl D).nd = N at *
    generalize (pl D).di = M at *
    clear h h1 h2 hl hgv hg hG
    go_enter Tryz.func171, Tryz.ntmps171
    go_wp2_with fail
    refine HC.out.mono ?_
    rintro e w2 ⟨rfl, rfl⟩
    go_wp2_with fail
    refine HN.out.mono ?_
    rintro e w3 ⟨rfl, hb3⟩
    have c5 := HB.out w3 hb3
    have HG3 := Lib.hid (HG.out w3 hb3)
    clear HB HG
    go_wp2_with fail
    refine HG3.out.mono ?_
    rintro e w4 ⟨rfl, hb4⟩
    clear c5
    go_wp2_with fail
    go_ret2
    exact ⟨by rw [hv.out]; rfl, dn.below_step hb3 hb4⟩
   | some v =>
    have hv := Lib.hid (show vacV S pl (D : Int) s = .tuple #[.pointer none, .int .i64 17] by
     have : S.vacant (D : Int) s = 17 := by unfold BS.vacant; rw [if_neg (by omega), if_neg (by omega), at_nat, hg]; rfl
     unfold vacV; rw [this]; rfl)
    have hgv : getV s (S.ino D).dir = .tuple #[.int .i64 v, .int .i64 0] := by unfold getV; rw [hg]
    rw [hgv] at HG
    generalize (pl D).nd = N at *
    generalize (pl D).di = M at *
    clear h h1 h2 hl hgv hg hG
    go_enter Tryz.func171, Tryz.ntmps171
    go_wp2_with fail
    refine HC.out.mono ?_
    rintro e w2 ⟨rfl, rfl⟩
    go_wp2_with fail
    refine HN.out.mono ?_
    rintro e w3 ⟨rfl, hb3⟩
    have c5 := HB.out w3 hb3
    have HG3 := Lib.hid (HG.out w3 hb3)
    clear HB HG
    go_wp2_with fail
    refine HG3.out.mono ?_
    rintro e w4 ⟨rfl, hb4⟩
    clear c5
    go_wp2_with fail
    go_ret2
    exact ⟨by rw [hv.out]; rfl, dn.below_step hb3 hb4⟩
  ·have hv := Lib.hid (show vacV S pl (D : Int) s = .tuple #[.pointer none, .int .i64 (nameE s)] by
    have : S.vacant (D : Int) s = nameE s := by unfold BS.vacant; rw [if_neg (by omega), if_pos h2]
    unfold vacV; rw [this, if_neg h2])
   generalize (pl D).nd = N at *
   generalize nameE s = x at *
   have hr : (x != 0) = true := by simpa using h2
   clear h h1 h2 hl hG
   go_enter Tryz.func171, Tryz.ntmps171
   go_wp2_with fail
   refine HC.out.mono ?_
   rintro e w2 ⟨rfl, rfl⟩
   go_wp2_with fail
   refine HN.out.mono ?_
   rintro e w3 ⟨rfl, hb3⟩
   go_wp2_with fail
   go_ret2
   exact ⟨by rw [hv.out]; rfl, hb3⟩
 ·have hv := Lib.hid (show vacV S pl d s = .tuple #[.pointer none, .int .i64 (S.dirE d true)] by
   have : S.vacant d s = S.dirE d true := by unfold BS.vacant; rw [if_pos h1]
   unfold vacV; rw [this, if_neg h1])
  rw [listV_bad h1] at HC
  generalize S.dirE d true = x at *
  have hr : (x != 0) = true := by simpa using h1
  clear h h1 hG
  go_enter Tryz.func171, Tryz.ntmps171
  go_wp2_with fail
  refine HC.out.mono ?_
  rintro e w2 ⟨rfl, rfl⟩
  go_wp2_with fail
  go_ret2
  exact ⟨by rw [hv.out]; rfl, Below.refl _ _⟩
end
theorem emp_eq (t : ByteArray) : t.toList.isEmpty = decide (t = ⟨#[]⟩) := by
 rw [Lib.toList_data]
 obtain ⟨⟨l⟩⟩ := t
 cases l <;> simp
section
variable {w w' : World} {P lo st qb room T : Nat} {qo : Option Nat} {pl : Nat → Pl} {tag : Nat → Nat} {S : BS} {L : List KN}
def namV (S : BS) (pl : Nat → Pl) (d : Int) (s : ByteArray) : Value :=
 if S.dirE d true ≠ 0 then .tuple #[.pointer none, .int .i64 0, .int .i64 (S.dirE d true)]
 else .tuple #[Pq (pl d.toNat).nd, .int .i64 (S.get d s).1, .int .i64 (S.get d s).2]
theorem get_eq {S : BS} {D : Nat} (h : S.dirE (D : Int) false = 0) (s : ByteArray) : S.get (D : Int) s = match lget s (S.ino D).dir with | some v => (v, 0) | none => (0, 2) := by
 unfold BS.get; rw [if_neg (by omega), at_nat]; rfl
theorem getV_eq {S : BS} {D : Nat} (h : S.dirE (D : Int) false = 0) (s : ByteArray) : getV s (S.ino D).dir = .tuple #[.int .i64 (S.get (D : Int) s).1, .int .i64 (S.get (D : Int) s).2] := by
 rw [get_eq h]; unfold getV; cases lget s (S.ino D).dir <;> rfl
theorem dirE_less {S : BS} {d : Int} (h : S.dirE d true = 0) : S.dirE d false = 0 := by
 rcases dirE_cases S d with ⟨_, h2⟩ | ⟨D, rfl, d1, d2, h1, h3, ⟨h4, h5⟩ | ⟨h4, h5, _⟩⟩
 ·rw [h2] at h; cases h
 ·rw [h5] at h; cases h
 ·exact h5
theorem named_any (h : CB w P lo st qb qo pl tag S room L T) (hG : br.Good S room) (d : Int) (s : ByteArray) : Calls Tryz.prog 175 #[Pq P, .int .i64 d, .string s] w (RetW w (namV S pl d s)) := by
 have HC := Lib.hid (changed_any h hG.z0 d)
 unfold RetW
 by_cases h1 : S.dirE d true = 0
 ·obtain ⟨D, rfl, d1, d2, hD, hl⟩ := dirE_ok h1
  rw [listV_ok h1] at HC
  have c5 := (h.ino D d2 (by rw [hD]; decide)).c5d hD
  have HG := Lib.hid (h.get hG hD s)
  rw [getV_eq (dirE_less h1)] at HG
  have hv := Lib.hid (show namV S pl (D : Int) s = .tuple #[Pq (pl D).nd, .int .i64 (S.get (D : Int) s).1, .int .i64 (S.get (D : Int) s).2] by unfold namV; rw [if_neg (by omega)]; rfl)
  generalize (S.get (D : Int) s).1 = a at *
  generalize (S.get (D : Int) s).2 = b at *
  generalize (pl D).nd = N at *
  generalize (pl D).di = M at *
  clear h h1 hl hG
  go_enter Tryz.func175, Tryz.ntmps175
  go_wp2_with fail
  refine HC.out.mono ?_
  rintro e w2 ⟨rfl, rfl⟩
  go_wp2_with fail
  refine HG.out.mono ?_
  rintro e w4 ⟨rfl, hb4⟩
  clear c5
  go_wp2_with fail
  go_ret3
  exact ⟨by rw [hv.out]; rfl, hb4⟩
 ·have hv := Lib.hid (show namV S pl d s = .tuple #[.pointer none, .int .i64 0, .int .i64 (S.dirE d true)] by unfold namV; rw [if_pos h1])
  rw [listV_bad h1] at HC
  generalize S.dirE d true = x at *
  have hr : (x != 0) = true := by simpa using h1
  clear h h1 hG
  go_enter Tryz.func175, Tryz.ntmps175
  go_wp2_with fail
  refine HC.out.mono ?_
  rintro e w2 ⟨rfl, rfl⟩
  go_wp2_with fail
  go_ret3
  exact ⟨by rw [hv.out]; rfl, Below.refl _ _⟩
theorem get_any (h : CB w P lo st qb qo pl tag S room L T) (hG : br.Good S room) (d : Int) (s : ByteArray) : Calls Tryz.prog 136 #[Pq P, .int .i64 d, .string s] w (RetW w (.tuple #[.int .i64 (S.get d s).1, .int .i64 (S.get d s).2])) := by
 have HC := Lib.hid (listed_any h hG.z0 d)
 unfold RetW
 by_cases h1 : S.dirE d false = 0
 ·obtain ⟨D, rfl, d1, d2, hD, hl⟩ := dirE_ok h1
  rw [listV_ok h1] at HC
  have c5 := (h.ino D d2 (by rw [hD]; decide)).c5d hD
  have HG := Lib.hid (h.get hG hD s)
  rw [getV_eq h1] at HG
  generalize (S.get (D : Int) s).1 = a at *
  generalize (S.get (D : Int) s).2 = b at *
  generalize (pl D).nd = N at *
  generalize (pl D).di = M at *
  clear h h1 hl hG
  go_enter Tryz.func136, Tryz.ntmps136
  go_wp2_with fail
  refine HC.out.mono ?_
  rintro e w2 ⟨rfl, rfl⟩
  go_wp2_with fail
  refine HG.out.mono ?_
  rintro e w4 ⟨rfl, hb4⟩
  clear c5
  go_wp2_with fail
  go_ret2
  exact ⟨rfl, hb4⟩
 ·have hv := Lib.hid (show S.get d s = (0, S.dirE d false) by unfold BS.get; rw [if_pos h1])
  rw [hv.out]
  rw [listV_bad h1] at HC
  generalize S.dirE d false = x at *
  have hr : (x != 0) = true := by simpa using h1
  clear h h1 hG hv
  go_enter Tryz.func136, Tryz.ntmps136
  go_wp2_with fail
  refine HC.out.mono ?_
  rintro e w2 ⟨rfl, rfl⟩
  go_wp2_with fail
  go_ret2
  exact ⟨rfl, Below.refl _ _⟩
theorem fits_any (k : Int) (t : ByteArray) (w : World) (hm : t.size ≤ 9223372036854775807) : Calls Tryz.prog 172 #[.int .i64 k, .string t] w (fun e w' => e = .returned (.bool (!badKind k t)) ∧ w' = w) := by
 have hs : (t.size : Int) ≤ 9223372036854775807 := by omega
 have hE := emp_eq t
 by_cases h3 : k = 3
 ·subst h3
  by_cases ht : t = ⟨#[]⟩
  ·have hV := Lib.hid (show badKind 3 t = true by unfold badKind; simp [ht])
   rw [decide_eq_true ht] at hE
   generalize badKind 3 t = r at *
   clear ht
   go_enter Tryz.func172, Tryz.ntmps172
   go_wp2_with fail
   go_ret
   exact ⟨by rw [hV.out]; rfl, rfl⟩
  ·have hV := Lib.hid (show badKind 3 t = decide (400 < t.size) by unfold badKind; simp [ht])
   rw [decide_eq_false ht] at hE
   by_cases hl : 400 < t.size
   ·have hg : decide ((t.size : Int) ≤ 400) = false := by simp; omega
    have hV2 := Lib.hid (hV.out.trans (decide_eq_true hl))
    generalize badKind 3 t = r at *
    clear ht hV
    go_enter Tryz.func172, Tryz.ntmps172
    go_wp2_with fail
    go_ret
    exact ⟨by rw [hV2.out]; simp [hg], rfl⟩
   ·have hg : decide ((t.size : Int) ≤ 400) = true := by simp; omega
    have hV2 := Lib.hid (hV.out.trans (decide_eq_false hl))
    generalize badKind 3 t = r at *
    clear ht hV
    go_enter Tryz.func172, Tryz.ntmps172
    go_wp2_with fail
    go_ret
    exact ⟨by rw [hV2.out]; simp [hg], rfl⟩
 ·by_cases hk : k = 1 ∨ k = 2 ∨ k = 4
  ·have hV := Lib.hid (show badKind k t = !(decide (t = ⟨#[]⟩)) by unfold badKind; rcases hk with rfl | rfl | rfl <;> simp)
   rw [← hE] at hV
   generalize badKind k t = r at *
   obtain ⟨q, hq⟩ : ∃ q, t.toList.isEmpty = q := ⟨_, rfl⟩
   rw [hq] at hV
   clear hE
   rcases hk with rfl | rfl | rfl
   all_goals
    go_enter Tryz.func172, Tryz.ntmps172
    go_wp2_with fail
    go_ret
    exact ⟨by rw [hV.out, Bool.not_not]; simp [hq], rfl⟩
  ·have hV := Lib.hid (show badKind k t = true by unfold badKind; simp; omega)
   generalize badKind k t = r at *
   have h1 : (k == 1) = false := by simp; omega
   have h2 : (k == 2) = false := by simp; omega
   have h4 : (k == 4) = false := by simp; omega
   have h5 : (k == 3) = false := by simp; omega
   clear hk h3 hE
   go_enter Tryz.func172, Tryz.ntmps172
   go_wp2_with fail
   go_ret
   exact ⟨by rw [hV.out]; rfl, rfl⟩
end
end Go.Proofs.YtpmpbmjjlccbbaaGreat.cb
