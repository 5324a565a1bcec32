/- Both branches side by side: what a call on one does to the other. -/
import Derived.Test.YtlelnpckbcpkkaaGreatDG
namespace Go.Proofs.YtlelnpckbcpkkaaGreat.cb
open Go.RowKit
open Go.Proofs.YtlelnpckbcpkkaaGreat.br
open Go.Proofs.YtlelnpckbcpkkaaGreat.bl (AB Only StoC Pq U8 WR IsStop)
set_option linter.unusedVariables false
set_option linter.unusedSimpArgs false

theorem DB.keepSame {w w' : World} {D lo RS room : Nat} {pl : Nat → Pd} {tag : Nat → Nat} {S : BS} (h : DB w D lo RS pl tag S room) (ho : ∀ b, tag b ≠ 0 → w'.heap[b]? = w.heap[b]?) : DB w' D lo RS pl tag S room := by
  have hD := ho D (by rw [h.tD]; decide)
  have hc : ∀ j, w'.cell? ⟨D, j, none⟩ = w.cell? ⟨D, j, none⟩ := fun j => World.cell?_of_block (a := ⟨D, j, none⟩) hD
  have hf : ∀ j, w'.frozen? ⟨D, j, none⟩ = w.frozen? ⟨D, j, none⟩ := fun j => World.frozen?_of_block (a := ⟨D, j, none⟩) hD
  refine ⟨(hc 0).trans h.c0, fun j => (hf j).trans (h.cf j), StoC.keep h.sto (ho RS (by rw [h.tS]; decide)), fun k hk => (h.ino k hk).keep (fun j _ => hc _) hf (fun b hb => ho b (by rw [h.tI k hk b hb]; omega)), h.tD, h.tS, h.tI, h.lo, fun b hb => ?_⟩
  rcases Nat.eq_zero_or_pos (tag b) with h0 | h0
  · exact h0
  · exfalso
    have h1 : tag b ≠ 0 := by omega
    have h2 := (h.lt h1).1
    have h3 := ho b h1
    rw [Array.getElem?_eq_none hb, Array.getElem?_eq_getElem h2] at h3
    cases h3
theorem BrX.xlt {w0 w : World} {P room T : Nat} {X : Nat → Prop} {S : BS} (h : BrX w0 w P X S room T) {b : Nat} (hb : X b) : b < w.heap.size := by
  obtain ⟨_, _, _, _, _, _, _, _, _, _, _, _, h7⟩ := h
  exact (h7 b hb).1
theorem BrX.hold {w0 w : World} {P room T : Nat} {X : Nat → Prop} {S : BS} (h : BrX w0 w P X S room T) (hT : T ≤ 1000) : ∀ k, (S.ino k).holds ≤ 900000 := fun k => by
  obtain ⟨_, _, _, _, _, _, _, _, _, _, h5, _⟩ := h
  have := h5 k
  omega
theorem BrX.rle {w0 w : World} {P room T : Nat} {X : Nat → Prop} {S : BS} (h : BrX w0 w P X S room T) : room ≤ 65536 := by
  obtain ⟨_, _, _, _, _, _, _, _, _, h4, _⟩ := h
  exact h4
theorem BrX.only_new {w0 w w' : World} {P room T : Nat} {X F : Nat → Prop} {S : BS} (h : BrX w0 w P X S room T) (ho : Only F w w') (hF : ∀ b, F b → X b) (hl : ∀ b, F b → w0.heap.size ≤ b) : BrX w0 w' P (fun b => X b ∨ (w.heap.size ≤ b ∧ b < w'.heap.size)) S room T := by
  have hk := h.only ho hF hl
  obtain ⟨st, qb, qo, pl, tag, Tq, h1, h2, h3, h4, h5, h6, h7⟩ := h
  refine ⟨st, qb, qo, pl, tag, Tq, h1.only ho (fun b hb => (h7 b (hF b hb)).2), h2, h3, h4, h5, hk.bel, fun b hb => ?_⟩
  rcases hb with hb | ⟨h8, h9⟩
  · exact ⟨Nat.lt_of_lt_of_le (h7 b hb).1 ho.size, (h7 b hb).2⟩
  · exact ⟨h9, h1.hi b h8⟩
def Two (w0 w : World) (P D RS : Nat) (X : Nat → Prop) (S1 S2 : BS) (room T : Nat) : Prop :=
  ∃ pl tg, BrX w0 w P (fun b => tg b ≠ 0 ∨ X b) S1 room T ∧ DB w D w0.heap.size RS pl tg S2 room ∧ ∀ b, X b → tg b = 0
section
variable {w0 w w' : World} {P D RS room T : Nat} {X : Nat → Prop} {S1 S2 S1' S2' : BS}
theorem Two.below (h : Two w0 w P D RS X S1 S2 room T) (hb : Below w.heap.size w w') : Two w0 w' P D RS X S1 S2 room T := by
  obtain ⟨pl, tg, h1, h2, h3⟩ := h
  exact ⟨pl, tg, h1.below hb, h2.below hb, h3⟩
theorem Two.drew (h : Two w0 w P D RS X S1 S2 room T) : Two w0 w.drew P D RS X S1 S2 room T := h.below (Below.refl _ _).drew
theorem Two.box (h : Two w0 w P D RS X S1 S2 room T) (hb : Below w.heap.size w w') {Y : Nat → Prop} (hY : ∀ b, Y b → X b ∨ (w.heap.size ≤ b ∧ b < w'.heap.size)) : Two w0 w' P D RS Y S1 S2 room T := by
  obtain ⟨pl, tg, h1, h2, h3⟩ := h
  refine ⟨pl, tg, h1.beside hb fun b hb => ?_, h2.below hb, fun b hb => ?_⟩
  · rcases hb with h4 | h4
    · exact .inl (.inl h4)
    · rcases hY b h4 with h5 | h5
      · exact .inl (.inr h5)
      · exact .inr h5
  · rcases hY b hb with h5 | h5
    · exact h3 b h5
    · exact h2.hi b h5.1
theorem Two.start {w2 : World} {pl : Nat → Pd} {tg : Nat → Nat} (h1 : BrX w0 w P X S1 room T) (h2 : DB w2 D w0.heap.size RS pl tg S2 room) (hb : Below w.heap.size w w2) (ht : ∀ b, tg b ≠ 0 → w.heap.size ≤ b) : Two w0 w2 P D RS No S1 S2 room T :=
  ⟨pl, tg, h1.beside hb fun b hb => hb.elim (fun e => .inr ⟨ht b e, (h2.lt e).1⟩) (fun e => e.elim), h2, fun _ h => h.elim⟩
theorem Two.sub (h : Two w0 w P D RS X S1 S2 room T) {Y : Nat → Prop} (hY : ∀ b, Y b → X b) : Two w0 w P D RS Y S1 S2 room T := h.box (Below.refl _ _) fun b hb => .inl (hY b hb)
theorem Two.forget (h : Two w0 w P D RS X S1 S2 room T) : Two w0 w P D RS No S1 S2 room T := h.box (Below.refl _ _) fun _ h => h.elim
theorem Two.bel (h : Two w0 w P D RS X S1 S2 room T) : Below w0.heap.size w0 w := by obtain ⟨pl, tg, h1, h2, h3⟩ := h; exact h1.bel
theorem Two.good (h : Two w0 w P D RS X S1 S2 room T) : br.Good S1 room := by obtain ⟨pl, tg, h1, h2, h3⟩ := h; exact h1.good
theorem Two.rle (h : Two w0 w P D RS X S1 S2 room T) : room ≤ 65536 := by obtain ⟨pl, tg, h1, h2, h3⟩ := h; exact h1.rle
theorem Two.hold (h : Two w0 w P D RS X S1 S2 room T) (hT : T ≤ 1000) : ∀ k, (S1.ino k).holds ≤ 900000 := by obtain ⟨pl, tg, h1, h2, h3⟩ := h; exact h1.hold hT
theorem Two.xlt (h : Two w0 w P D RS X S1 S2 room T) {b : Nat} (hb : X b) : b < w.heap.size := by obtain ⟨pl, tg, h1, h2, h3⟩ := h; exact h1.xlt (.inr hb)
theorem Two.up (h : Two w0 w P D RS X S1 S2 room T) {T' : Nat} (hT : T ≤ T') : Two w0 w P D RS X S1 S2 room T' := by obtain ⟨pl, tg, h1, h2, h3⟩ := h; exact ⟨pl, tg, h1.up hT, h2, h3⟩
theorem Two.one (h : Two w0 w P D RS X S1 S1 room T) (i : Int) : Calls Tryz.prog 18 #[Pq P, Pq D, .int .i64 i] w (dn.RetB w true) := by obtain ⟨pl, tg, h1, h2, h3⟩ := h; exact one_any h1 h2 i
theorem two_code {f : Nat} {args : Array Value} {v : Value} (h : Two w0 w P D RS X S1 S2 room T) (hc : ∀ Y, BrX w0 w P Y S1 room T → Calls Tryz.prog f args w (fun e w' => e = .returned v ∧ BrX w0 w' P Y S1' room (T + 1) ∧ Same Y w w')) :
    Calls Tryz.prog f args w (fun e w' => e = .returned v ∧ Two w0 w' P D RS X S1' S2 room (T + 1) ∧ Same X w w') := by
  obtain ⟨pl, tg, h1, h2, h3⟩ := h
  exact (hc _ h1).mono fun e w' ⟨he, k1, k2⟩ => ⟨he, ⟨pl, tg, k1, h2.keepSame (fun b hb => k2 b (.inl hb)), h3⟩, fun b hb => k2 b (.inr hb)⟩
theorem two_next {pl pl' : Nat → Pd} {tg tg' : Nat → Nat} (h1 : BrX w0 w P (fun b => tg b ≠ 0 ∨ X b) S1 room T) (h2 : DB w D w0.heap.size RS pl tg S2 room) (h3 : ∀ b, X b → tg b = 0) (k1 : DB w' D w0.heap.size RS pl' tg' S2' room) (k2 : Stp w w' tg tg') :
    Two w0 w' P D RS X S1 S2' room T ∧ Same X w w' := by
  refine ⟨⟨pl', tg', (h1.only_new k2.o (fun b hb => .inl hb) (fun b hb => (h2.lt hb).2)).sub fun b hb => ?_, k1, fun b hb => (k2.tg b (h1.xlt (.inr hb))).trans (h3 b hb)⟩, fun b hb => k2.o.block b (h1.xlt (.inr hb)) (fun e => e (h3 b hb))⟩
  rcases hb with h4 | h4
  · rcases Nat.lt_or_ge b w.heap.size with h5 | h5
    · exact .inl (.inl (by rw [← k2.tg b h5]; exact h4))
    · exact .inr ⟨h5, (k1.lt h4).1⟩
  · exact .inl (.inr h4)
theorem two_doc {f : Nat} {args : Array Value} {v : Value} (h : Two w0 w P D RS X S1 S2 room T) (hc : ∀ pl tg, DB w D w0.heap.size RS pl tg S2 room → Calls Tryz.prog f args w (RetD w D w0.heap.size RS tg v S2' room)) :
    Calls Tryz.prog f args w (fun e w' => e = .returned v ∧ Two w0 w' P D RS X S1 S2' room T ∧ Same X w w') := by
  obtain ⟨pl, tg, h1, h2, h3⟩ := h
  exact (hc _ _ h2).mono fun e w' ⟨he, pl', tg', k1, k2⟩ => ⟨he, two_next h1 h2 h3 k1 k2⟩
theorem WR.eq {b : AB} {used room len p q : Nat} {off e1 e2 : Int} (h : WR b used room off len p e1) (k : WR b used room off len q e2) : p = q ∧ e1 = e2 := by
  rcases h with ⟨a1, a2, a3⟩ | ⟨a1, a2, a3, a4⟩ | ⟨a1, a2, a3, a4⟩ | ⟨a1, a2, a3, a4, a5⟩ <;> rcases k with ⟨b1, b2, b3⟩ | ⟨b1, b2, b3, b4⟩ | ⟨b1, b2, b3, b4⟩ | ⟨b1, b2, b3, b4, b5⟩ <;> first | omega | skip
  have := IsStop.eq a4 b4
  subst this
  exact ⟨rfl, a5.trans b5.symm⟩
theorem two_wcode (h : Two w0 w P D RS X S1 S2 room T) (i off : Int) (A : Option Addr) (len dc : Nat) (f : Nat → UInt8) (hA : ∀ j, j < len → ∃ b o, A = some ⟨b, o, none⟩ ∧ X b ∧ w.cell? ⟨b, o + j, none⟩ = some (U8 (f j))) (hlc : len ≤ dc) (hdc : dc ≤ maxLen) :
    Calls Tryz.prog 33 #[Pq P, .int .i64 i, .int .i64 off, .slice A len dc] w (fun e w' => ∃ p err S', WrI S1 room i off len f p err S' ∧ e = .returned (.tuple #[.int .i64 (p : Int), .int .i64 err]) ∧ Two w0 w' P D RS X S' S2 room (T + 1) ∧ Same X w w') := by
  obtain ⟨pl, tg, h1, h2, h3⟩ := h
  exact (x_write h1 i off A len dc f (fun j hj => by
    obtain ⟨b, o, e, hx, hc⟩ := hA j hj
    exact ⟨b, o, e, .inr hx, hc⟩) hlc hdc).mono fun e w' ⟨p, err, S', hw, he, k1, k2⟩ => ⟨p, err, S', hw, he, ⟨pl, tg, k1, h2.keepSame (fun b hb => k2 b (.inl hb)), h3⟩, fun b hb => k2 b (.inr hb)⟩
theorem two_wdoc (h : Two w0 w P D RS X S1 S2 room T) (hG : br.Good S2 room) (i off : Int) (A : Option Addr) (len dc : Nat) (f : Nat → UInt8) (hA : ∀ j, j < len → ∃ b o, A = some ⟨b, o, none⟩ ∧ X b ∧ w.cell? ⟨b, o + j, none⟩ = some (U8 (f j))) (hlc : len ≤ dc) (hdc : dc ≤ maxLen) {p : Nat} {err : Int} {S' : BS} (hw : WrI S2 room i off len f p err S') :
    Calls Tryz.prog 55 #[Pq D, .int .i64 i, .int .i64 off, .slice A len dc] w (fun e w' => e = .returned (.tuple #[.int .i64 (p : Int), .int .i64 err]) ∧ Two w0 w' P D RS X S1 S' room T ∧ Same X w w') := by
  have hr := h.rle
  obtain ⟨pl, tg, h1, h2, h3⟩ := h
  refine (q_write h2 hG hr i off A len dc f (fun j hj => by
    obtain ⟨b, o, e, hx, hc⟩ := hA j hj
    exact ⟨b, o, e, h3 b hx, h1.xlt (.inr hx), hc⟩) hlc hdc).mono ?_
  rintro e w' (⟨z1, rfl, rfl⟩ | ⟨z1, p', err', hw', rfl, pl', tg', k1, k2⟩)
  · rcases hw with ⟨y1, rfl, rfl, rfl⟩ | ⟨y1, _⟩
    · exact ⟨rfl, ⟨pl, tg, h1, h2, h3⟩, fun _ _ => rfl⟩
    · exact absurd y1 z1
  · rcases hw with ⟨y1, _⟩ | ⟨y1, y2, _, _, rfl⟩
    · exact absurd z1 y1
    · obtain ⟨rfl, rfl⟩ := WR.eq hw' y2
      exact ⟨rfl, two_next h1 h2 h3 k1 k2⟩
end
end Go.Proofs.YtlelnpckbcpkkaaGreat.cb
