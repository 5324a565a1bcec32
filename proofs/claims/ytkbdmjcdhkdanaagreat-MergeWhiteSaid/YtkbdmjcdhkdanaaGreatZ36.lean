/- 'awake': what the laws look at first. -/
import Derived.Test.YtkbdmjcdhkdanaaGreatZ35
section
namespace Go.Proofs.YtkbdmjcdhkdanaaGreat.mg
open Go.RowKit
open Go.Proofs.YtkbdmjcdhkdanaaGreat.br (BS Ino Inv fresh)
open Go.Proofs.YtkbdmjcdhkdanaaGreat.cb (BrX RetW RetI No Act7 Acts Run Bt BuildR build_run ReadI)
open Go.Proofs.YtkbdmjcdhkdanaaGreat.bl (Pq Only)
set_option linter.unusedVariables false
set_option linter.unusedSimpArgs false

def AwakeE (w : World) (e : Ending) (w' : World) : Prop := e = .returned (.bool true) ∧ Below w.heap.size w w'
theorem _root_.Go.Proofs.YtkbdmjcdhkdanaaGreat.bl.Row.below {w w' : World} {lo n c : Nat} {A : Option Addr} {f : Nat → UInt8} (h : bl.Row w lo A n c f) (hb : Below w.heap.size w w') : bl.Row w' lo A n c f :=
  ⟨h.1, h.2.imp id fun ⟨g, a, b, d⟩ => ⟨g, a, b, (hb.block g (Array.getElem?_eq_some_iff.1 d).1).trans d⟩⟩
theorem Bt.below {w0 w w' : World} {G : Nat} {p : cb.Pt} {U L : BS} (h : Bt w0 w G p U L) (hb : Below w.heap.size w w') : Bt w0 w' G p U L :=
  ⟨h.q.below hb, (hb.cell (p := ⟨G, 0, none⟩) (h.q.lt rfl)).trans h.c0, (hb.cell (p := ⟨G, 1, none⟩) (h.q.lt rfl)).trans h.c1, (hb.cell (p := ⟨G, 2, none⟩) (h.q.lt rfl)).trans h.c2, (hb.cell (p := ⟨G, 3, none⟩) (h.q.lt rfl)).trans h.c3⟩
theorem Bt.bel {w0 w : World} {G : Nat} {p : cb.Pt} {U L : BS} (h : Bt w0 w G p U L) : Below w0.heap.size w0 w := h.q.bel
theorem Bt.made {w0 w : World} {G : Nat} {p : cb.Pt} {U L : BS} (h : Bt w0 w G p U L) (u l : Int) : Vx (w.alloc (.cells #[Pq p.P1, Pq p.P2, .int .i64 u, .int .i64 l] 76)) w.heap.size p.P1 p.P2 u l U L := Vx.made h.q.brx1 h.q.brx2
theorem Bt.good1 {w0 w : World} {G : Nat} {p : cb.Pt} {U L : BS} (h : Bt w0 w G p U L) : Inv U 500 := h.q.good1.1
theorem Bt.good2 {w0 w : World} {G : Nat} {p : cb.Pt} {U L : BS} (h : Bt w0 w G p U L) : Inv L 500 := h.q.good2.1
set_option maxRecDepth 100000 in
set_option maxHeartbeats 8000000 in
theorem new_vx {w w0 w2 : World} {P1 P2 : Nat} {U L : BS} {q1 T1 q2 T2 : Nat} (h1 : BrX w0 w P1 No U q1 T1) (h2 : BrX w2 w P2 No L q2 T2) (u l : Int) : Calls Tryz.prog 13 #[Pq P1, Pq P2, .int .i64 u, .int .i64 l] w (fun e w' => ∃ V, e = .returned (Pq V) ∧ Vx w' V P1 P2 u l U L ∧ Below w.heap.size w w') :=
  (new_any P1 P2 u l w).mono fun e w' ⟨he, hw⟩ => ⟨_, he, by rw [hw]; exact Vx.made h1 h2, by rw [hw]; exact bel_alloc _ _⟩
theorem Bt.new {w0 w : World} {G : Nat} {p : cb.Pt} {U L : BS} (h : Bt w0 w G p U L) (u l : Int) : Calls Tryz.prog 13 #[Pq p.P1, Pq p.P2, .int .i64 u, .int .i64 l] w (fun e w' => ∃ V, e = .returned (Pq V) ∧ Vx w' V p.P1 p.P2 u l U L ∧ Below w.heap.size w w') := new_vx h.q.brx1 h.q.brx2 u l
set_option maxRecDepth 100000 in
set_option maxHeartbeats 8000000 in
theorem aw_acts (w w1 : World) (hw1 : w.alloc (.cells #[.bool false, .int .i64 0, .int .i64 1, .int .i64 0, .int .i64 2, .string ⟨#[97]⟩, .string ⟨#[]⟩, .bool false, .int .i64 0, .int .i64 2, .int .i64 0, .int .i64 1, .string ⟨#[120]⟩, .string ⟨#[]⟩, .bool false, .int .i64 0, .int .i64 1, .int .i64 0, .int .i64 4, .string ⟨#[98]⟩, .string ⟨#[]⟩, .bool true, .int .i64 0, .int .i64 1, .int .i64 0, .int .i64 2, .string ⟨#[97]⟩, .string ⟨#[]⟩, .bool true, .int .i64 0, .int .i64 2, .int .i64 0, .int .i64 1, .string ⟨#[121]⟩, .string ⟨#[]⟩, .bool true, .int .i64 0, .int .i64 1, .int .i64 0, .int .i64 1, .string ⟨#[98]⟩, .string ⟨#[]⟩, .bool true, .int .i64 0, .int .i64 1, .int .i64 0, .int .i64 1, .string ⟨#[99]⟩, .string ⟨#[]⟩, .bool true, .int .i64 4, .int .i64 5, .int .i64 0, .int .i64 0, .string ⟨#[]⟩, .string ⟨#[104, 105]⟩, .bool true, .int .i64 0, .int .i64 1, .int .i64 0, .int .i64 3, .string ⟨#[108]⟩, .string ⟨#[116]⟩] 70) = w1) : Acts w1 w1.heap.size (some ⟨w.heap.size, 0, none⟩) 9 awF := by
  have hlt : w.heap.size < w1.heap.size := by rw [← hw1, World.size_alloc]; omega
  intro i hi
  refine ⟨w.heap.size, 0, rfl, hlt, ?_⟩
  subst hw1
  match i, hi with
  | 0, _ => exact ⟨by simp [awF], by simp [awF], by simp [awF], by simp [awF], by simp [awF], by simp [awF], by simp [awF], by decide, by decide⟩
  | 1, _ => exact ⟨by simp [awF], by simp [awF], by simp [awF], by simp [awF], by simp [awF], by simp [awF], by simp [awF], by decide, by decide⟩
  | 2, _ => exact ⟨by simp [awF], by simp [awF], by simp [awF], by simp [awF], by simp [awF], by simp [awF], by simp [awF], by decide, by decide⟩
  | 3, _ => exact ⟨by simp [awF], by simp [awF], by simp [awF], by simp [awF], by simp [awF], by simp [awF], by simp [awF], by decide, by decide⟩
  | 4, _ => exact ⟨by simp [awF], by simp [awF], by simp [awF], by simp [awF], by simp [awF], by simp [awF], by simp [awF], by decide, by decide⟩
  | 5, _ => exact ⟨by simp [awF], by simp [awF], by simp [awF], by simp [awF], by simp [awF], by simp [awF], by simp [awF], by decide, by decide⟩
  | 6, _ => exact ⟨by simp [awF], by simp [awF], by simp [awF], by simp [awF], by simp [awF], by simp [awF], by simp [awF], by decide, by decide⟩
  | 7, _ => exact ⟨by simp [awF], by simp [awF], by simp [awF], by simp [awF], by simp [awF], by simp [awF], by simp [awF], by decide, by decide⟩
  | 8, _ => exact ⟨by simp [awF], by simp [awF], by simp [awF], by simp [awF], by simp [awF], by simp [awF], by simp [awF], by decide, by decide⟩
  | i + 9, h => omega
set_option maxRecDepth 100000 in
set_option maxHeartbeats 8000000 in
theorem awake_any (w : World) : Calls Tryz.prog 11 #[] w (AwakeE w) := by
  obtain ⟨w1, hw1⟩ : ∃ w1, w.alloc (.cells #[.bool false, .int .i64 0, .int .i64 1, .int .i64 0, .int .i64 2, .string ⟨#[97]⟩, .string ⟨#[]⟩, .bool false, .int .i64 0, .int .i64 2, .int .i64 0, .int .i64 1, .string ⟨#[120]⟩, .string ⟨#[]⟩, .bool false, .int .i64 0, .int .i64 1, .int .i64 0, .int .i64 4, .string ⟨#[98]⟩, .string ⟨#[]⟩, .bool true, .int .i64 0, .int .i64 1, .int .i64 0, .int .i64 2, .string ⟨#[97]⟩, .string ⟨#[]⟩, .bool true, .int .i64 0, .int .i64 2, .int .i64 0, .int .i64 1, .string ⟨#[121]⟩, .string ⟨#[]⟩, .bool true, .int .i64 0, .int .i64 1, .int .i64 0, .int .i64 1, .string ⟨#[98]⟩, .string ⟨#[]⟩, .bool true, .int .i64 0, .int .i64 1, .int .i64 0, .int .i64 1, .string ⟨#[99]⟩, .string ⟨#[]⟩, .bool true, .int .i64 4, .int .i64 5, .int .i64 0, .int .i64 0, .string ⟨#[]⟩, .string ⟨#[104, 105]⟩, .bool true, .int .i64 0, .int .i64 1, .int .i64 0, .int .i64 3, .string ⟨#[108]⟩, .string ⟨#[116]⟩] 70) = w1 := ⟨_, rfl⟩
  have HB1 := Lib.hid (show Below w.heap.size w w1 by rw [← hw1]; exact bel_alloc _ _)
  have HBL := Lib.hid (build_run (some ⟨w.heap.size, 0, none⟩) 9 9 awF w1 w1 (by unfold maxLen; omega) (aw_acts w w1 hw1) (Below.refl _ _))
  unfold BuildR at HBL
  go_enter Tryz.func11, Tryz.ntmps11
  go_wp2_with fail
  refine HBL.out.mono ?_
  rintro _ w2 (⟨v, rfl, hb2, i, hi, hbig⟩ | ⟨G, p, U, L, rfl, h2, hr⟩)
  · exfalso
    match i, hi with
    | 0, _ => exact absurd hbig (by decide)
    | 1, _ => exact absurd hbig (by decide)
    | 2, _ => exact absurd hbig (by decide)
    | 3, _ => exact absurd hbig (by decide)
    | 4, _ => exact absurd hbig (by decide)
    | 5, _ => exact absurd hbig (by decide)
    | 6, _ => exact absurd hbig (by decide)
    | 7, _ => exact absurd hbig (by decide)
    | 8, _ => exact absurd hbig (by decide)
    | i + 9, h => omega
  obtain ⟨rfl, rfl⟩ := aw_run hr
  have H2 := Lib.hid h2
  have HB2 := Lib.hid (bel_step HB1.out h2.q.bel)
  clear hw1 HBL h2 hr
  obtain ⟨-, c0, c1, -, -⟩ := H2.out
  go_wp2_with fail
  go_region_held3 (fun w' => w'.cell? ⟨G, 0, none⟩ = some (Pq p.P1) ∧ w'.cell? ⟨G, 1, none⟩ = some (Pq p.P2))
    (first | exact ⟨c0, c1⟩ | exact S8 | assumption | go_keep)
    (first | (go_at_call 13; ((with_reducible refine (Bt.new (Bt.below H2.out (Below.refl w2.heap.size w2).drew) 1 1).mono ?_); rintro _ w3 ⟨V, rfl, hv3, hb3⟩; have HS3 := Lib.hid ((Below.refl w2.heap.size w2).drew.trans hb3); have HV3 := Lib.hid hv3; have H3 := Lib.hid (Bt.below H2.out HS3.out); have S8 := And.intro H3.out.c0 H3.out.c1)))
  all_goals
    clear c0 c1 S8 hv3 hb3 HS3
    have HB3 := Lib.hid (show Below w.heap.size w w3 from bel_step HB1.out H3.out.q.bel)
    have HI := Lib.hid (And.intro (Bt.good1 H2.out) (Bt.good2 H2.out))
    have HRT := Lib.hid (show ∀ W, Below w3.heap.size w3 W → Calls Tryz.prog 14 #[Pq V] W (fun e w' => e = .returned (Nv (1, 1)) ∧ Below W.heap.size W w') from fun W hb => by have := root_any (HV3.out.below hb); rw [aw_root] at this; exact this)
    have HGA := Lib.hid (show ∀ W, Below w3.heap.size w3 W → Calls Tryz.prog 16 #[Pq V, Nv (1, 1), .string ⟨#[97]⟩] W (fun e w' => e = .returned (.tuple #[Nv (2, 2), .int .i64 0]) ∧ Below W.heap.size W w') from fun W hb => by have := get_any (HV3.out.below hb) (1, 1) zA; rw [aw_a] at this; exact this)
    have HGB := Lib.hid (show ∀ W, Below w3.heap.size w3 W → Calls Tryz.prog 16 #[Pq V, Nv (1, 1), .string ⟨#[98]⟩] W (fun e w' => e = .returned (.tuple #[Nv (0, 0), .int .i64 2]) ∧ Below W.heap.size W w') from fun W hb => by have := get_any (HV3.out.below hb) (1, 1) zB; rw [aw_b] at this; exact this)
    have HGC := Lib.hid (show ∀ W, Below w3.heap.size w3 W → Calls Tryz.prog 16 #[Pq V, Nv (1, 1), .string ⟨#[99]⟩] W (fun e w' => e = .returned (.tuple #[Nv (0, 5), .int .i64 0]) ∧ Below W.heap.size W w') from fun W hb => by have := get_any (HV3.out.below hb) (1, 1) zC; rw [aw_c] at this; exact this)
    have HGL := Lib.hid (show ∀ W, Below w3.heap.size w3 W → Calls Tryz.prog 16 #[Pq V, Nv (1, 1), .string ⟨#[108]⟩] W (fun e w' => e = .returned (.tuple #[Nv (0, 6), .int .i64 0]) ∧ Below W.heap.size W w') from fun W hb => by have := get_any (HV3.out.below hb) (1, 1) zL; rw [aw_l] at this; exact this)
    have HAL := Lib.hid (show ∀ W, Below w3.heap.size w3 W → Calls Tryz.prog 20 #[Pq V, Nv (2, 2)] W (fun e w' => ∃ A c, e = .returned (.tuple #[.slice A 2 c, .int .i64 0]) ∧ Below W.heap.size W w') from fun W hb => (all_any (HV3.out.below hb) HI.out.1 HI.out.2 (2, 2)).mono fun e w' ⟨A, c, l, he, hal, _, _, _, _, hb2⟩ => ⟨A, c, by rw [he, aw_lst, aw_all HI.out.1 HI.out.2 hal], hb2⟩)
    have HST := Lib.hid (show ∀ W, Below w3.heap.size w3 W → Calls Tryz.prog 22 #[Pq V, Nv (1, 1)] W (fun e w' => e = .returned (.tuple #[.agg #[.int .i64 2, .int .i64 3, .int .i64 1], .int .i64 0]) ∧ Below W.heap.size W w') from fun W hb => (stat_any (HV3.out.below hb) HI.out.1 HI.out.2 (1, 1)).mono fun e w' ⟨l, hal, he, hb2⟩ => ⟨by rw [he, aw_names HI.out.1 HI.out.2 hal, show ((3 : Nat) : Int) = 3 from rfl, aw_stat], hb2⟩)
    have HTG := Lib.hid (show ∀ W, Below w3.heap.size w3 W → Calls Tryz.prog 25 #[Pq V, Nv (0, 6)] W (fun e w' => e = .returned (.tuple #[.string ⟨#[116]⟩, .int .i64 0]) ∧ Below W.heap.size W w') from fun W hb => by have := target_any (HV3.out.below hb) (0, 6); rw [aw_t] at this; exact this)
    have HKD := Lib.hid (show ∀ W, Below w3.heap.size w3 W → Calls Tryz.prog 18 #[Pq V, Nv (2, 2)] W (fun e w' => e = .returned (.int .i64 2) ∧ Below W.heap.size W w') from fun W hb => by have := kind_any (HV3.out.below hb) (2, 2); rw [aw_k] at this; exact this)
    have HRD := Lib.hid (show ∀ W, Below w3.heap.size w3 W → Calls Tryz.prog 27 #[Pq V, Nv (0, 5), .int .i64 0, .int .i64 9] W (fun e w' => ∃ A c, e = .returned (.tuple #[.slice A 2 c, .int .i64 0]) ∧ bl.Row w' W.heap.size A 2 c (fun j => (aL.at 5).body.dat ((0 : Int).toNat + j)) ∧ Below W.heap.size W w') from fun W hb => (read_any (HV3.out.below hb) (0, 5) 0 9).mono fun e w' h => by
      rcases h with ⟨h, _⟩ | ⟨_, A, c, he, hr, hb2⟩
      · exact absurd h aw_kc
      · rw [show readN aU aL (0, 5) = (aL, 5) from rfl] at he hr
        dsimp only at he hr
        rw [aw_rd] at he hr
        exact ⟨A, c, he, hr, hb2⟩)
    have HNL := Lib.hid (fun W => new_nil p.P2 1 1 W)
    clear HV3 HI H2 HB2 HB1
    obtain ⟨-, c0, c1, -, -⟩ := H3.out
    go_wp2_with fail
    refine (HNL.out _).mono ?_
    rintro _ wz ⟨rfl, hwz⟩
    rw [hwz]
    clear hwz
    clear HNL c0 c1 H3
    have HBz := Lib.hid (Below.refl w3.heap.size w3)
    go_wp2_with fail
    refine (HRT.out _ HBz.out).mono ?_
    rintro _ w4 ⟨rfl, hb4⟩
    have HC4 := Lib.hid (bel_step HBz.out hb4)
    clear hb4
    go_wp2_with fail
    refine (HGA.out _ HC4.out).mono ?_
    rintro _ w5 ⟨rfl, hb5⟩
    have HC5 := Lib.hid (bel_step HC4.out hb5)
    clear hb5
    obtain ⟨w6, hw6⟩ : ∃ w6, w5.alloc (.cells #[.int .i64 2, .int .i64 2] 24) = w6 := ⟨_, rfl⟩
    have hb6 : Below w5.heap.size w5 w6 := by rw [← hw6]; exact bel_alloc _ _
    have HC6 := Lib.hid (bel_step HC5.out hb6)
    have HNA6 := Lib.hid (show Nb w6 w5.heap.size (2, 2) by rw [← hw6]; exact Nb.new w5 2 2)
    obtain ⟨ga, hga⟩ : ∃ g, w5.heap.size = g := ⟨_, rfl⟩
    rw [hga] at HNA6
    clear hb6
    obtain ⟨a0, a1⟩ := HNA6.out
    try dsimp only at a0 a1
    go_wp2_with fail
    refine (HAL.out _ HC6.out).mono ?_
    rintro _ w7 ⟨A6, c6, rfl, hb7⟩
    have HC7 := Lib.hid (bel_step HC6.out hb7)
    have HNA7 := Lib.hid (HNA6.out.below hb7)
    clear hb7
    clear a0 a1
    go_wp2_with fail
    refine (HRT.out _ HC7.out).mono ?_
    rintro _ w8 ⟨rfl, hb8⟩
    have HC8 := Lib.hid (bel_step HC7.out hb8)
    have HNA8 := Lib.hid (HNA7.out.below hb8)
    clear hb8
    go_wp2_with fail
    refine (HGB.out _ HC8.out).mono ?_
    rintro _ w9 ⟨rfl, hb9⟩
    have HC9 := Lib.hid (bel_step HC8.out hb9)
    have HNA9 := Lib.hid (HNA8.out.below hb9)
    clear hb9
    have HC0 := Lib.hid (fun ob => bel_step HC9.out (bel_alloc w9 ob))
    go_wp2_with fail
    refine (HRT.out _ (HC0.out _)).mono ?_
    rintro _ w11 ⟨rfl, hb11⟩
    have HC11 := Lib.hid (bel_step (HC0.out _) hb11)
    have HNA11 := Lib.hid ((HNA9.out.below (bel_alloc w9 _)).below hb11)
    clear hb11 HC0
    go_wp2_with fail
    refine (HGC.out _ HC11.out).mono ?_
    rintro _ w12 ⟨rfl, hb12⟩
    have HC12 := Lib.hid (bel_step HC11.out hb12)
    have HNA12 := Lib.hid (HNA11.out.below hb12)
    clear hb12
    obtain ⟨w13, hw13⟩ : ∃ w13, w12.alloc (.cells #[.int .i64 0, .int .i64 5] 24) = w13 := ⟨_, rfl⟩
    have hb13 : Below w12.heap.size w12 w13 := by rw [← hw13]; exact bel_alloc _ _
    have HC13 := Lib.hid (bel_step HC12.out hb13)
    have HNA13 := Lib.hid (HNA12.out.below hb13)
    have HNC13 := Lib.hid (show Nb w13 w12.heap.size (0, 5) by rw [← hw13]; exact Nb.new w12 0 5)
    obtain ⟨gc, hgc⟩ : ∃ g, w12.heap.size = g := ⟨_, rfl⟩
    rw [hgc] at HNC13
    clear hb13
    obtain ⟨e0, e1⟩ := HNC13.out
    try dsimp only at e0 e1
    go_wp2_with fail
    refine (HRD.out _ HC13.out).mono ?_
    rintro _ w14 ⟨AR, cR, rfl, hrow, hb14⟩
    have HC14 := Lib.hid (bel_step HC13.out hb14)
    have HRW14 := Lib.hid hrow
    have HNA14 := Lib.hid (HNA13.out.below hb14)
    have HNC14 := Lib.hid (HNC13.out.below hb14)
    clear hb14 hrow e0 e1
    go_wp2_with fail
    refine (HRT.out _ HC14.out).mono ?_
    rintro _ w15 ⟨rfl, hb15⟩
    have HC15 := Lib.hid (bel_step HC14.out hb15)
    have HNA15 := Lib.hid (HNA14.out.below hb15)
    have HNC15 := Lib.hid (HNC14.out.below hb15)
    have HRW15 := Lib.hid (HRW14.out.below hb15)
    clear hb15
    go_wp2_with fail
    refine (HST.out _ HC15.out).mono ?_
    rintro _ w16 ⟨rfl, hb16⟩
    have HC16 := Lib.hid (bel_step HC15.out hb16)
    have HNA16 := Lib.hid (HNA15.out.below hb16)
    have HNC16 := Lib.hid (HNC15.out.below hb16)
    have HRW16 := Lib.hid (HRW15.out.below hb16)
    clear hb16
    obtain ⟨w17, hw17⟩ : ∃ w17, w16.alloc (.cells #[.int .i64 2, .int .i64 3, .int .i64 1] 47) = w17 := ⟨_, rfl⟩
    have hb17 : Below w16.heap.size w16 w17 := by rw [← hw17]; exact bel_alloc _ _
    have HC17 := Lib.hid (bel_step HC16.out hb17)
    have HNA17 := Lib.hid (HNA16.out.below hb17)
    have HNC17 := Lib.hid (HNC16.out.below hb17)
    have HRW17 := Lib.hid (HRW16.out.below hb17)
    have HNS17 := Lib.hid (show R3 w17 w16.heap.size 2 3 1 by rw [← hw17]; exact R3.new w16 2 3 1)
    obtain ⟨gs, hgs⟩ : ∃ g, w16.heap.size = g := ⟨_, rfl⟩
    rw [hgs] at HNS17
    clear hb17
    go_wp2_with fail
    refine (HRT.out _ HC17.out).mono ?_
    rintro _ w18 ⟨rfl, hb18⟩
    have HC18 := Lib.hid (bel_step HC17.out hb18)
    have HNA18 := Lib.hid (HNA17.out.below hb18)
    have HNC18 := Lib.hid (HNC17.out.below hb18)
    have HRW18 := Lib.hid (HRW17.out.below hb18)
    have HNS18 := Lib.hid (HNS17.out.below hb18)
    clear hb18
    go_wp2_with fail
    refine (HGL.out _ HC18.out).mono ?_
    rintro _ w19 ⟨rfl, hb19⟩
    have HC19 := Lib.hid (bel_step HC18.out hb19)
    have HNA19 := Lib.hid (HNA18.out.below hb19)
    have HNC19 := Lib.hid (HNC18.out.below hb19)
    have HRW19 := Lib.hid (HRW18.out.below hb19)
    have HNS19 := Lib.hid (HNS18.out.below hb19)
    clear hb19
    obtain ⟨w20, hw20⟩ : ∃ w20, w19.alloc (.cells #[.int .i64 0, .int .i64 6] 24) = w20 := ⟨_, rfl⟩
    have hb20 : Below w19.heap.size w19 w20 := by rw [← hw20]; exact bel_alloc _ _
    have HC20 := Lib.hid (bel_step HC19.out hb20)
    have HNA20 := Lib.hid (HNA19.out.below hb20)
    have HNC20 := Lib.hid (HNC19.out.below hb20)
    have HRW20 := Lib.hid (HRW19.out.below hb20)
    have HNS20 := Lib.hid (HNS19.out.below hb20)
    have HNL20 := Lib.hid (show Nb w20 w19.heap.size (0, 6) by rw [← hw20]; exact Nb.new w19 0 6)
    obtain ⟨gl, hgl⟩ : ∃ g, w19.heap.size = g := ⟨_, rfl⟩
    rw [hgl] at HNL20
    clear hb20
    obtain ⟨l0, l1⟩ := HNL20.out
    try dsimp only at l0 l1
    go_wp2_with fail
    refine (HTG.out _ HC20.out).mono ?_
    rintro _ w21 ⟨rfl, hb21⟩
    have HC21 := Lib.hid (bel_step HC20.out hb21)
    have HNA21 := Lib.hid (HNA20.out.below hb21)
    have HNC21 := Lib.hid (HNC20.out.below hb21)
    have HRW21 := Lib.hid (HRW20.out.below hb21)
    have HNS21 := Lib.hid (HNS20.out.below hb21)
    have HNL21 := Lib.hid (HNL20.out.below hb21)
    clear hb21
    clear l0 l1
    have HCV := Lib.hid (fun W => fun (hb : Below w21.heap.size w21 W) => bl.Row.conv (HRW21.out.below hb))
    obtain ⟨a0, a1⟩ := HNA21.out
    try dsimp only at a0 a1
    obtain ⟨e0, e1⟩ := HNC21.out
    try dsimp only at e0 e1
    obtain ⟨s0, s1, s2, -, -, -⟩ := HNS21.out
    try dsimp only at s0 s1 s2
    have hcv := HCV.out _ (Below.refl _ _)
    rw [aw_hi] at hcv
    have hgd := guard24
    have q1 : ∀ W, (binOp .eql 24 (.agg #[.int .i64 2, .int .i64 2]) (.agg #[.int .i64 2, .int .i64 2])).run Tryz.prog W = .ok (.bool true) W := fun W => run_eql24 (2, 2) (2, 2) W
    have q2 : ∀ W, (binOp .eql 24 (.agg #[.int .i64 0, .int .i64 5]) (.agg #[.int .i64 0, .int .i64 5])).run Tryz.prog W = .ok (.bool true) W := fun W => run_eql24 (0, 5) (0, 5) W
    go_wp2_with fail
    refine (HKD.out _ HC21.out).mono ?_
    rintro _ we ⟨rfl, hbe⟩
    have HFE := Lib.hid (bel_step HB3.out (bel_step HC21.out hbe))
    go_wp2_with fail
    go_ret
    exact ⟨rfl, HFE.out⟩
end Go.Proofs.YtkbdmjcdhkdanaaGreat.mg
end
