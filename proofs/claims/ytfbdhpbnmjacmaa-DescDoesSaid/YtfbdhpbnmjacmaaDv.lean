/- The document's table: Open. -/
import Derived.Test.YtfbdhpbnmjacmaaDu
import Derived.Deep.RegionHeldLaw
namespace Go.Proofs.Ytfbdhpbnmjacmaa.ds
open Go.RowKit
open Go.Proofs.Ytfbdhpbnmjacmaa.pa (Bs Sv Strs Own own_form info9 own_base)
set_option linter.unusedVariables false
set_option linter.unusedSimpArgs false

theorem far6 {w : World} {D b j o0 o1 o2 o3 o4 o5 : Nat} (h : D ≠ b) (v0 v1 v2 v3 v4 v5 : Value) :
    ((((((w.setCell ⟨D, o0, none⟩ v0).setCell ⟨D, o1, none⟩ v1).setCell ⟨D, o2, none⟩ v2).setCell ⟨D, o3, none⟩ v3).setCell ⟨D, o4, none⟩ v4).setCell ⟨D, o5, none⟩ v5).cell? ⟨b, j, none⟩ = w.cell? ⟨b, j, none⟩ := by
  have hne : ∀ i j : Nat, (⟨D, i, none⟩ : Addr) ≠ ⟨b, j, none⟩ := fun i j e => by injection e with e; exact h e
  rw [World.cell?_setCell_other _ _ _ _ (hne _ _), World.cell?_setCell_other _ _ _ _ (hne _ _), World.cell?_setCell_other _ _ _ _ (hne _ _), World.cell?_setCell_other _ _ _ _ (hne _ _), World.cell?_setCell_other _ _ _ _ (hne _ _), World.cell?_setCell_other _ _ _ _ (hne _ _)]
theorem there6 {w : World} {D o : Nat} (h : w.there D o 6) : (∃ v, w.cell? ⟨D, o, none⟩ = some v) ∧ (∃ v, w.cell? ⟨D, o + 1, none⟩ = some v) ∧ (∃ v, w.cell? ⟨D, o + 2, none⟩ = some v) ∧ (∃ v, w.cell? ⟨D, o + 3, none⟩ = some v) ∧ (∃ v, w.cell? ⟨D, o + 4, none⟩ = some v) ∧ (∃ v, w.cell? ⟨D, o + 5, none⟩ = some v) ∧
    w.frozen? ⟨D, o, none⟩ = false ∧ w.frozen? ⟨D, o + 1, none⟩ = false ∧ w.frozen? ⟨D, o + 2, none⟩ = false ∧ w.frozen? ⟨D, o + 3, none⟩ = false ∧ w.frozen? ⟨D, o + 4, none⟩ = false ∧ w.frozen? ⟨D, o + 5, none⟩ = false :=
  ⟨Option.isSome_iff_exists.1 (h 0 (by decide)).1, Option.isSome_iff_exists.1 (h 1 (by decide)).1, Option.isSome_iff_exists.1 (h 2 (by decide)).1, Option.isSome_iff_exists.1 (h 3 (by decide)).1, Option.isSome_iff_exists.1 (h 4 (by decide)).1, Option.isSome_iff_exists.1 (h 5 (by decide)).1,
   (h 0 (by decide)).2, (h 1 (by decide)).2, (h 2 (by decide)).2, (h 3 (by decide)).2, (h 4 (by decide)).2, (h 5 (by decide)).2⟩
set_option maxHeartbeats 4000000 in
set_option maxRecDepth 100000 in
theorem r_open {w0 w : World} {D n c : Nat} {N : Nat → Prop} {T : Tb} {A : Option Addr} {d : De} (h : RT w0 w D N T) (hd : DA w A n c d) (hn : n ≤ 1000) (h0 : w0.heap.size ≤ w.heap.size) :
    Calls Try.prog 12 #[Pq D, DV A n c d] w (RE w0 w D N (openT T d) (.tuple #[.int .i64 (lowV T).1, .int .i64 (lowV T).2])) := by
  obtain rfl := hd.len
  obtain ⟨b, hb⟩ : ∃ b, w.heap.size = b := ⟨_, rfl⟩
  obtain ⟨w1, hw1⟩ : ∃ w1, w.alloc (.cells #[.int .i64 d.ino, .int .i64 d.flag, .int .i64 d.off, .bool d.isd, .slice A d.ns.length c, .int .i64 d.pos] 30) = w1 := ⟨_, rfl⟩
  have hb1 : Below w.heap.size w w1 := by rw [← hw1]; exact below_alloc w _
  have hs1 : w1.heap.size = b + 1 := by rw [← hw1, World.size_alloc, hb]
  have r1 : w1.heap[b]? = some (.cells #[.int .i64 d.ino, .int .i64 d.flag, .int .i64 d.off, .bool d.isd, .slice A d.ns.length c, .int .i64 d.pos] 30 (0, 0)) := by rw [← hw1, ← hb]; exact heap_alloc_new w _
  have h1 := h.below hb1
  have hd1 := hd.below hb1
  have HB1 := Lib.hid hb1
  have H1 := Lib.hid h1
  have HD1 := Lib.hid hd1
  have HR1 := Lib.hid r1
  have HS1 := Lib.hid hs1
  have HBB := Lib.hid hb
  have HDb := Lib.hid (show D < b from by have := h.lo.2; omega)
  have H0 := Lib.hid h0
  clear h hd hb1 h1 hd1 r1 hs1 h0
  unfold DV
  go_enter Try.func12, Try.ntmps12
  go_wp2_with fail
  go_loopg [6] 32 (fun g s wr => wr = w1 ∧ ∃ k : Nat, g + k = 32 ∧ s = .int .i64 k ∧ Hid (∀ j, j < k → T j ≠ none))
  case atStart => exact ⟨rfl, 0, by omega, rfl, Lib.hid (fun j hj => absurd hj (Nat.not_lt_zero _))⟩
  case round =>
    obtain ⟨rfl, k, hgk, rfl, HJ⟩ := hrel
    by_cases hk : k < 32
    · have hc := H1.out.is_ k hk
      have hi0 : (0 : Int) ≤ (k : Int) := by omega
      have hi1 : (k : Int) < 32 := by omega
      cases e : T k with
      | some x =>
        rw [e] at hc
        have HJ2 := Lib.hid (show ∀ j, j < k + 1 → T j ≠ none from fun j hj => by
          rcases Nat.lt_succ_iff_lt_or_eq.1 hj with h1 | h1
          · exact HJ.out j h1
          · subst h1; rw [e]; simp)
        clear e
        go_wp2_with fail
        go_roundg (gk - 1)
        case measure => omega
        case rel => exact ⟨rfl, k + 1, by omega, by go_num, HJ2⟩
      | none =>
        rw [e] at hc
        have hlow := low_of hk e HJ.out
        obtain ⟨d2, hon⟩ := H1.out.on hk
        have hfz := H1.out.fz k
        have hstr : Strs (wr.setCell ⟨D, k, none⟩ (.bool true)) wr.heap.size A d.ns := fun hn2 => by
          obtain ⟨ad, e1, h1, h2⟩ := HD1.out.st hn2
          refine ⟨ad, e1, h1, fun j x hx => ?_⟩
          rw [World.cell?_setCell_other _ _ _ _ (by intro ee; have := h2 j x hx; rw [← ee, hc] at this; injection this with this; cases this)]
          exact h2 j x hx
        have hb2 : (wr.setCell ⟨D, k, none⟩ (.bool true)).heap[b]? = some (.cells #[.int .i64 d.ino, .int .i64 d.flag, .int .i64 d.off, .bool d.isd, .slice A d.ns.length c, .int .i64 d.pos] 30 (0, 0)) :=
          (Below.heap_setCell _ _ _ _ (by show b ≠ D; have := HDb.out; omega)).trans HR1.out
        have hs2 := World.size_setCell wr ⟨D, k, none⟩ (.bool true)
        have ho2 := only_cell wr ⟨D, k, none⟩ (.bool true)
        obtain ⟨w2, hw2⟩ : ∃ w2, wr.setCell ⟨D, k, none⟩ (.bool true) = w2 := ⟨_, rfl⟩
        rw [hw2] at hon hstr hb2 hs2 ho2
        have HC := Lib.hid (show ∀ W, Below w2.heap.size w2 W → Calls Try.prog 10 #[.agg #[.int .i64 d.ino, .int .i64 d.flag, .int .i64 d.off, .bool d.isd, .slice A d.ns.length c, .int .i64 d.pos]] W (fun e w' => ∃ A' c', e = .returned (.agg #[.int .i64 d.ino, .int .i64 d.flag, .int .i64 d.off, .bool d.isd, .slice A' d.ns.length c', .int .i64 d.pos]) ∧ Own w' W.heap.size A' c' d.ns ∧ Below W.heap.size W w') from
          fun W hW => own_any A d.ns.length c wr.heap.size d W rfl (by omega) (by rw [← hs2]; exact hW.size) (hstr.keep fun p hp => hW.cell (p := p) (by omega)))
        have HQ := Lib.hid (fun W (hW : Below w2.heap.size w2 W) => (show W.cell? ⟨b, 0, none⟩ = some (.int .i64 d.ino) ∧ W.cell? ⟨b, 1, none⟩ = some (.int .i64 d.flag) ∧ W.cell? ⟨b, 2, none⟩ = some (.int .i64 d.off) ∧ W.cell? ⟨b, 3, none⟩ = some (.bool d.isd) ∧ W.cell? ⟨b, 4, none⟩ = some (.slice A d.ns.length c) ∧ W.cell? ⟨b, 5, none⟩ = some (.int .i64 d.pos) from by
          have hbw := (hW.block b (by have := HS1.out; omega)).trans hb2
          refine ⟨?_, ?_, ?_, ?_, ?_, ?_⟩ <;> (rw [cell_row hbw]; rfl)))
        have HTT := Lib.hid (fun W (hW : Below w2.heap.size w2 W) => there6 (there_D (hon.below hW) hk))
        have HF := Lib.hid (fun W A' c' (hW : Below w2.heap.size w2 W) (ho : Own W w2.heap.size A' c' d.ns) => (show RE w0 w D N (openT T d) (.tuple #[.int .i64 (lowV T).1, .int .i64 (lowV T).2]) (.returned (.tuple #[.int .i64 (k : Int), .int .i64 0])) (W.setCells D (32 + k * 6) (DL A' d.ns.length c' d)) from by
          have hr := (hon.below hW).lay hk (by rw [put_same]; rfl) ho (by have := HDb.out; have := HS1.out; omega) hn (by have := H0.out; have := HS1.out; omega)
          rw [put_put] at hr
          refine ⟨by unfold lowV; rw [hlow], _, by unfold openT; rw [hlow]; exact hr, fun q hq => ?_, ?_⟩
          · rcases hq with hq | ⟨hq, _⟩
            · exact .inl hq
            · exact .inr (by have := HS1.out; have := HBB.out; omega)
          · exact (((Only.of_below HB1.out).trans ho2).trans (Only.of_below hW)).trans (only_setCells D _ _ W)))
        have hDb : D ≠ b := by have := HDb.out; omega
        obtain ⟨p0, p1, p2, p3, p4, p5⟩ := HQ.out w2 (Below.refl _ _)
        obtain ⟨pd0, pd1, pd2, pd3, pd4, pd5⟩ := HQ.out w2.drew (Below.refl _ _).drew
        clear hstr hb2 hs2 ho2 hon e hlow
        go_upto_region 6 with fail
        go_region_held3 (fun w' => w'.cell? ⟨b, 0, none⟩ = some (.int .i64 d.ino) ∧ w'.cell? ⟨b, 1, none⟩ = some (.int .i64 d.flag) ∧ w'.cell? ⟨b, 2, none⟩ = some (.int .i64 d.off) ∧ w'.cell? ⟨b, 3, none⟩ = some (.bool d.isd) ∧ w'.cell? ⟨b, 4, none⟩ = some (.slice A d.ns.length c) ∧ w'.cell? ⟨b, 5, none⟩ = some (.int .i64 d.pos))
          (first | with_reducible exact ⟨p0, p1, p2, p3, p4, p5⟩ | with_reducible exact ⟨pd0, pd1, pd2, pd3, pd4, pd5⟩ | with_reducible exact ⟨j0, j1, j2, j3, j4, j5⟩ | with_reducible exact ⟨(far6 hDb _ _ _ _ _ _).trans j0, (far6 hDb _ _ _ _ _ _).trans j1, (far6 hDb _ _ _ _ _ _).trans j2, (far6 hDb _ _ _ _ _ _).trans j3, (far6 hDb _ _ _ _ _ _).trans j4, (far6 hDb _ _ _ _ _ _).trans j5⟩)
          (first | (go_at_call 10; ((with_reducible refine (HC.out _ (Below.refl _ _).drew).mono ?_); rintro _ w3 ⟨A', c', rfl, hown, hb3'⟩; have hb3 := (Below.refl w2.heap.size w2).drew.trans hb3'; obtain ⟨⟨v0, t0⟩, ⟨v1, t1⟩, ⟨v2, t2⟩, ⟨v3, t3⟩, ⟨v4, t4⟩, ⟨v5, t5⟩, z0, z1, z2, z3, z4, z5⟩ := HTT.out _ hb3; have HFN := Lib.hid (HF.out w3 A' c' hb3 hown); obtain ⟨j0, j1, j2, j3, j4, j5⟩ := HQ.out _ hb3)))
        all_goals
          go_wp2_with fail
          try rw [Exit.noGoto_ret]
          go_ret2
          exact HFN.out
    · have hk32 : k = 32 := by omega
      have hlow : low T = none := low_no (by rw [← hk32]; exact HJ.out)
      have hjn : ¬ ((k : Int) < 32) := by omega
      have HF := Lib.hid (show RE w0 w D N (openT T d) (.tuple #[.int .i64 (lowV T).1, .int .i64 (lowV T).2]) (.returned (.tuple #[.int .i64 0, .int .i64 24])) wr from
        ⟨by unfold lowV; rw [hlow], N, by unfold openT; rw [hlow]; exact H1.out, fun q hq => .inl hq, Only.of_below HB1.out⟩)
      clear hk32 hlow hk
      go_wp2_with fail
      go_ret2
      exact HF.out
end Go.Proofs.Ytfbdhpbnmjacmaa.ds
