/- The law's 'awake'. -/
import Derived.Test.YtlplbpilpkmoaaaQx
namespace Go.Proofs.Ytlplbpilpkmoaaa.pl
open Go.RowKit
set_option linter.unusedVariables false
set_option linter.unusedSimpArgs false

def l4 : List Wt := [⟨2, 5, false⟩, ⟨0, 9, true⟩, ⟨2, 3, false⟩, ⟨1, 5, true⟩]
def o4 : List Wt := [⟨0, 9, true⟩, ⟨1, 5, true⟩, ⟨2, 3, false⟩]
theorem ord4 : IsOrd l4 o4 := by
  refine ⟨⟨?_, ?_, ?_, ?_⟩, ?_⟩
  · intro y hy; simp [l4] at hy; rcases hy with rfl | rfl | rfl | rfl <;> simp [o4]
  · intro x hx; simp [o4] at hx; rcases hx with rfl | rfl | rfl <;> simp [l4]
  · intro x hx y hy; simp [o4] at hx; simp [l4] at hy; rcases hx with rfl | rfl | rfl <;> rcases hy with rfl | rfl | rfl | rfl <;> simp
  · intro x hx; simp [o4] at hx; rcases hx with rfl | rfl | rfl <;> simp [l4]
  · simp [o4, wlt]
def o3 : List Wt := [⟨0, 1, false⟩, ⟨1, 4, true⟩, ⟨2, 7, true⟩]
theorem ord3 : IsOrd o3 o3 := by
  refine ⟨⟨?_, ?_, ?_, ?_⟩, ?_⟩
  · intro y hy; exact ⟨y, hy, rfl⟩
  · intro x hx; exact ⟨x, hx, rfl, rfl⟩
  · intro x hx y hy; simp [o3] at hx hy; rcases hx with rfl | rfl | rfl <;> rcases hy with rfl | rfl | rfl <;> simp
  · intro x hx; simp [o3] at hx; rcases hx with rfl | rfl | rfl <;> simp [o3]
  · simp [o3, wlt]
def c0 (k : Int) : Cx := ⟨k, 0, 0, 0, 0, ⟨#[]⟩, ⟨#[]⟩⟩
theorem wants13 : wantsL (c0 13) [1, 4] 7 = o3 := by
  have hk : (c0 13).kind = 2 := by simp [Cx.kind, c0]
  have hw : (c0 13).wf = true := by simp [Cx.wf, c0]
  have ho : (c0 13).op = 13 := rfl
  simp [wantsL, dirs, dirW, lastW, hk, hw, ho, o3, List.range_succ]
/-- An own row of three wants, cell by cell. -/
theorem OW.three {w : World} {lo E : Nat} {v : Value} {x y z : Wt} (h : OW w lo E v [x, y, z]) : ∃ g c, v = .slice (some ⟨g, 0, none⟩) 3 c ∧ lo ≤ g ∧ g < w.heap.size ∧
    (w.cell? ⟨g, 0, none⟩ = some (.int .i64 x.d) ∧ w.cell? ⟨g, 1, none⟩ = some (.int .i64 x.n) ∧ w.cell? ⟨g, 2, none⟩ = some (.bool x.w)) ∧
    (w.cell? ⟨g, 3, none⟩ = some (.int .i64 y.d) ∧ w.cell? ⟨g, 4, none⟩ = some (.int .i64 y.n) ∧ w.cell? ⟨g, 5, none⟩ = some (.bool y.w)) ∧
    (w.cell? ⟨g, 6, none⟩ = some (.int .i64 z.d) ∧ w.cell? ⟨g, 7, none⟩ = some (.int .i64 z.n) ∧ w.cell? ⟨g, 8, none⟩ = some (.bool z.w)) := by
  obtain ⟨g, c, e, hlo, hlt⟩ := h.some_ (by simp)
  subst e
  have hw := h.wan
  refine ⟨g, c, rfl, hlo, hlt, ?_, ?_, ?_⟩
  · obtain ⟨b, o, e, _, h1, h2, h3⟩ := hw 0 (by simp)
    injection e with e; injection e with e1 e2; subst e1 e2
    exact ⟨by simpa [gw] using h1, by simpa [gw] using h2, by simpa [gw] using h3⟩
  · obtain ⟨b, o, e, _, h1, h2, h3⟩ := hw 1 (by simp)
    injection e with e; injection e with e1 e2; subst e1 e2
    exact ⟨by simpa [gw] using h1, by simpa [gw] using h2, by simpa [gw] using h3⟩
  · obtain ⟨b, o, e, _, h1, h2, h3⟩ := hw 2 (by simp)
    injection e with e; injection e with e1 e2; subst e1 e2
    exact ⟨by simpa [gw] using h1, by simpa [gw] using h2, by simpa [gw] using h3⟩
theorem wan4 (w : World) : Wan (w.alloc (.cells #[.int .i64 2, .int .i64 5, .bool false, .int .i64 0, .int .i64 9, .bool true, .int .i64 2, .int .i64 3, .bool false, .int .i64 1, .int .i64 5, .bool true] 39)) (w.alloc (.cells #[.int .i64 2, .int .i64 5, .bool false, .int .i64 0, .int .i64 9, .bool true, .int .i64 2, .int .i64 3, .bool false, .int .i64 1, .int .i64 5, .bool true] 39)).heap.size (some ⟨w.heap.size, 0, none⟩) l4 := by
  intro i hi
  refine ⟨w.heap.size, 0, rfl, by simp, ?_⟩
  rw [World.cell?_alloc_new, World.cell?_alloc_new, World.cell?_alloc_new]
  have hi4 : i < 4 := hi
  rcases (by omega : i = 0 ∨ i = 1 ∨ i = 2 ∨ i = 3) with rfl | rfl | rfl | rfl <;> exact ⟨rfl, rfl, rfl⟩
theorem wf4 : ∀ x ∈ l4, sc.Wf x.n := fun x hx => by
  simp [l4] at hx
  rcases hx with rfl | rfl | rfl | rfl <;> exact sc.wf_small (by decide) (by decide)
theorem wfo4 : ∀ x ∈ o4, sc.Wf x.n := fun x hx => by
  simp [o4] at hx
  rcases hx with rfl | rfl | rfl <;> exact sc.wf_small (by decide) (by decide)
theorem ivs14 (w : World) : Ivs (w.alloc (.cells #[.int .i64 1, .int .i64 4] 3)) (w.alloc (.cells #[.int .i64 1, .int .i64 4] 3)).heap.size (some ⟨w.heap.size, 0, none⟩) [1, 4] := by
  intro i hi
  refine ⟨w.heap.size, 0, rfl, by simp, ?_⟩
  rw [World.cell?_alloc_new]
  have hi4 : i < 2 := hi
  rcases (by omega : i = 0 ∨ i = 1) with rfl | rfl <;> rfl
set_option maxRecDepth 100000 in
set_option maxHeartbeats 4000000 in
theorem awake_any (w : World) : Calls Try.prog 9 #[] w (RetB w true) := by
  have HO := Lib.hid (order_any (c1 := 4) (wan4 w) wf4 (by decide))
  unfold OrdE at HO
  have hl4 : l4.length = 4 := rfl
  rw [hl4] at HO
  unfold RetB
  go_enter Try.func9, Try.ntmps9
  go_wp2_with fail
  refine HO.out.mono ?_
  rintro _ w2 ⟨v1, o, rfl, hord, how, hb⟩
  obtain rfl := hord.uniq ord4
  have HB2 := Lib.hid (hp.below_step (hp.below_alloc w (.cells #[.int .i64 2, .int .i64 5, .bool false, .int .i64 0, .int .i64 9, .bool true, .int .i64 2, .int .i64 3, .bool false, .int .i64 1, .int .i64 5, .bool true] 39)) hb)
  have HOW2 := Lib.hid how
  have hal := hp.below_alloc w2 (.cells #[.int .i64 1, .int .i64 4] 3)
  have HW := Lib.hid (wants_any (c := c0 13) (file := 7) (c1 := 2) (ivs14 w2) (by intro a ha; simp at ha; rcases ha with rfl | rfl <;> exact sc.wf_small (by decide) (by decide)) (sc.wf_small (by decide) (by decide)) (by decide))
  rw [wants13] at HW
  unfold OrdE at HW
  clear HO hord how hb
  go_wp2_with fail
  refine HW.out.mono ?_
  rintro _ w3 ⟨v2, o, rfl, hord, how, hb⟩
  obtain rfl := hord.uniq ord3
  have hb3 := hp.below_step hal hb
  have HB3 := Lib.hid (hp.below_step HB2.out hb3)
  have HOW3 := Lib.hid (HOW2.out.keep (w' := w3) fun g e => hb3.block g (HOW2.out.olt e).2)
  obtain ⟨g1, d1, rfl, _, hg1, ⟨a0, a1, a2⟩, ⟨a3, a4, a5⟩, ⟨a6, a7, a8⟩⟩ := OW.three HOW3.out
  obtain ⟨g2, d2, rfl, _, hg2, ⟨b0, b1, b2⟩, ⟨b3, b4, b5⟩, ⟨b6, b7, b8⟩⟩ := OW.three how
  dsimp only at a0 a1 a2 a3 a4 a5 a6 a7 a8 b0 b1 b2 b3 b4 b5 b6 b7 b8
  have HK := Lib.hid (fun W k => kind_any (c0 k) W)
  unfold IntE c0 at HK
  clear HW hord how hb hb3 hal b0 b1 b3 b4 b6 b7
  go_wp2_with fail
  refine (HK.out _ 11).mono ?_
  rintro _ w4 ⟨rfl, hb4⟩
  rw [show Cx.kind ⟨11, 0, 0, 0, 0, ⟨#[]⟩, ⟨#[]⟩⟩ = 2 by simp [Cx.kind]]
  have HB4 := Lib.hid hb4
  clear hb4
  go_wp2_with fail
  refine (HK.out _ 9).mono ?_
  rintro _ w5 ⟨rfl, hb5⟩
  rw [show Cx.kind ⟨9, 0, 0, 0, 0, ⟨#[]⟩, ⟨#[]⟩⟩ = 1 by simp [Cx.kind]]
  have hb45 := hp.below_step HB4.out hb5
  have how5 := HOW3.out.keep (w' := w5) fun g e => hb45.block g (HOW3.out.olt e).2
  have HC := Lib.hid (clash_any (c1 := d1) (c2 := d1) (OW.wan how5) (OW.wan how5) wfo4 wfo4 (by decide) (by decide))
  rw [show bars o4 o4 = true by decide, show o4.length = 3 from rfl] at HC
  unfold RetB at HC
  have HB5 := Lib.hid (hp.below_step HB3.out hb45)
  clear hb45 hb5 how5 HK
  go_wp2_with fail
  refine HC.out.mono ?_
  rintro _ w6 ⟨rfl, hb6⟩
  have HB6 := Lib.hid (hp.below_step HB5.out hb6)
  clear hb6 HC
  go_wp2_with fail
  go_ret
  exact ⟨rfl, HB6.out⟩
end Go.Proofs.Ytlplbpilpkmoaaa.pl
