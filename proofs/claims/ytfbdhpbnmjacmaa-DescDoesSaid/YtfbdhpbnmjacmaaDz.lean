/- The document's table: Close, All; rows of numbers; a new table. -/
import Derived.Test.YtfbdhpbnmjacmaaDw
namespace Go.Proofs.Ytfbdhpbnmjacmaa.ds
open Go.RowKit
open Go.Proofs.Ytfbdhpbnmjacmaa.pa (Bs Sv Strs Own own_form info9 own_base)
set_option linter.unusedVariables false
set_option linter.unusedSimpArgs false

def CE (w0 w : World) (D : Nat) (N : Nat → Prop) (T : Tb) (x : De) (r : Int) (e : Ending) (w' : World) : Prop := ∃ A c, e = .returned (.tuple #[DV A x.ns.length c x, .int .i64 r]) ∧ Own w' w.heap.size A c x.ns ∧ ∃ N', RT w0 w' D N' T ∧ (∀ b, N' b → N b ∨ w.heap.size ≤ b) ∧ Only (fun b => b = D) w w'
theorem only_own {w w1 w2 w3 : World} {D b : Nat} (h1 : Only (fun b => b = D) w w1) (h2 : Only (fun b => b = D) w1 w2) (h3 : Only (fun k => k = b) w2 w3) (hb : w.heap.size ≤ b) : Only (fun b => b = D) w w3 :=
  have h12 := h1.trans h2
  ⟨h3.os.trans h12.os, h3.tape.trans h12.tape, h3.output.trans h12.output, Nat.le_trans h12.size h3.size, fun k hk hD => (h3.block k (Nat.lt_of_lt_of_le hk h12.size) (by omega)).trans (h12.block k hk hD)⟩
theorem RT.other {w0 w : World} {D : Nat} {N : Nat → Prop} {T : Tb} (h : RT w0 w D N T) (R : Nat) (hR : R ≠ D) (hN : ∀ b, N b → b ≠ R) (x0 x1 x2 x3 x4 x5 : Value) : RT w0 (set6 w R x0 x1 x2 x3 x4 x5) D N T :=
  h.keep (set6_only w R x0 x1 x2 x3 x4 x5).size fun b hb => by
    rcases Nat.lt_or_ge b w.heap.size with hl | hl
    · exact (set6_only w R x0 x1 x2 x3 x4 x5).block b hl (by rcases hb with rfl | hb; exact fun e => hR e.symm; exact hN b hb)
    · rcases hb with rfl | hb
      · have := h.lo.2; omega
      · have := (h.nD b hb).2.2; omega
set_option maxHeartbeats 4000000 in
set_option maxRecDepth 100000 in
theorem r_close {w0 w : World} {D : Nat} {N : Nat → Prop} {T : Tb} (h : RT w0 w D N T) (fd : Int) : Calls Try.prog 14 #[Pq D, .int .i64 fd] w (CE w0 w D N (closeT T fd) (getV T fd).1 (getV T fd).2) := by
  obtain ⟨b, hb⟩ : ∃ b, w.heap.size = b := ⟨_, rfl⟩
  obtain ⟨w1, hw1⟩ : ∃ w1, w.alloc (.cells #[.int .i64 0, .int .i64 0, .int .i64 0, .bool false, .slice none 0 0, .int .i64 0] 30) = w1 := ⟨_, rfl⟩
  have hb1 : Below w.heap.size w w1 := by rw [← hw1]; exact below_alloc w _
  have hs1 : w1.heap.size = b + 1 := by rw [← hw1, World.size_alloc, hb]
  have r1 : w1.heap[b]? = some (.cells #[.int .i64 0, .int .i64 0, .int .i64 0, .bool false, .slice none 0 0, .int .i64 0] 30 (0, 0)) := by rw [← hw1, ← hb]; exact zero_row w
  obtain ⟨x, r, hx⟩ : ∃ x r, getV T fd = (x, r) := ⟨_, _, rfl⟩
  have HG := Lib.hid (r_getv (h.below hb1) fd hx)
  have HE := Lib.hid (show r = errV T fd from by rw [← getv_err, hx])
  rw [hx]
  have HB1 := Lib.hid hb1
  have H1 := Lib.hid (h.below hb1)
  have HR1 := Lib.hid r1
  have HS1 := Lib.hid hs1
  have HBB := Lib.hid hb
  have HDb := Lib.hid (show D < b ∧ ∀ q, N q → q < b from ⟨by have := h.lo.2; omega, fun q hq => by have := (h.nD q hq).2.2; omega⟩)
  clear h hb1 r1 hs1 hx
  cases hs : spot T fd with
  | none =>
    have hr : r = 9 := by rw [HE.out]; unfold errV; rw [hs]
    have HT := Lib.hid (show closeT T fd = T from by unfold closeT; rw [hs])
    subst hr
    clear hs HE
    go_enter Try.func14, Try.ntmps14
    go_wp2_with fail
    refine HG.out.mono ?_
    rintro _ w2 ⟨A2, c2, rfl, ho2, hb2⟩
    obtain ⟨G, hG⟩ : ∃ G, w2.heap.size = G := ⟨_, rfl⟩
    obtain ⟨wx, hwx⟩ : ∃ wx, w2.alloc (.cells #[.int .i64 x.ino, .int .i64 x.flag, .int .i64 x.off, .bool x.isd, .slice A2 x.ns.length c2, .int .i64 x.pos] 30) = wx := ⟨_, rfl⟩
    have hbx : Below w1.heap.size w1 wx := by rw [← hwx]; exact below_step hb2 (below_alloc _ _)
    have hsx : wx.heap.size = G + 1 := by rw [← hwx, World.size_alloc, hG]
    have hGb : b < G := by have := hb2.size; have := HS1.out; omega
    have rG : wx.heap[G]? = some (.cells #[.int .i64 x.ino, .int .i64 x.flag, .int .i64 x.off, .bool x.isd, .slice A2 x.ns.length c2, .int .i64 x.pos] 30 (0, 0)) := by rw [← hwx, ← hG]; exact heap_alloc_new w2 _
    have hox : Own wx w1.heap.size A2 c2 x.ns := by rw [← hwx]; exact ho2.keep (below_alloc _ _)
    have hrx := H1.out.below hbx
    have rb := (hbx.block b (by have := HS1.out; omega)).trans HR1.out
    have HTH := Lib.hid (there_row rb rfl)
    have HF := Lib.hid (show ∀ x0 x1 x2 x3 x4 x5, CE w0 w D N (closeT T fd) x 9 (.returned (.tuple #[DV A2 x.ns.length c2 x, .int .i64 9])) (set6 wx b x0 x1 x2 x3 x4 x5) from fun x0 x1 x2 x3 x4 x5 => by
      rw [HT.out]
      refine ⟨A2, c2, rfl, own_base (own_only hox (set6_only _ _ _ _ _ _ _ _) (by intro q e; have := HS1.out; omega)) (by have := HS1.out; have := HBB.out; omega), N, hrx.other b (by have := HDb.out.1; omega) (fun q hq => by have := HDb.out.2 q hq; omega) _ _ _ _ _ _, fun q hq => .inl hq, ?_⟩
      exact only_own (Only.of_below HB1.out) (Only.of_below hbx) (set6_only _ _ _ _ _ _ _ _) (by rw [HBB.out]; exact Nat.le_refl _))
    have hR := range6 (w := wx) (b := G) (by rw [cell_row rG]; rfl) (by rw [cell_row rG]; rfl) (by rw [cell_row rG]; rfl) (by rw [cell_row rG]; rfl) (by rw [cell_row rG]; rfl) (by rw [cell_row rG]; rfl)
    have HRG := Lib.hid hR
    have HWX := Lib.hid hwx
    clear hox hrx rb hbx rG hR hsx ho2 hb2 hwx
    go_upto_region 4 with fail
    rw [HWX.out]
    clear hG
    go_wp2_with (first | refine wpList_load_mid (by rfl) 30 (.tmp 6) (by rfl) G 0 (by rfl) _ _ HRG.out Try.underlying30 (by rfl) (by kernel_rfl) ?_ | refine wpList_store_mid (by rfl) 30 (.tmp 4) (.tmp 21) (by rfl) b 0 #[.int .i64 x.ino, .int .i64 x.flag, .int .i64 x.off, .bool x.isd, .slice A2 x.ns.length c2, .int .i64 x.pos] (by rfl) (by rfl) HTH.out (by kernel_rfl) (by simp [Value.oneCell']) ?_)
    refine bodyPost_ret (results_row_tmp rfl _ _ b [.int .i64 x.ino, .int .i64 x.flag, .int .i64 x.off, .bool x.isd, .slice A2 x.ns.length c2, .int .i64 x.pos] _ rfl (set6_range HTH.out _ _ _ _ _ _) Try.underlying30 (by rfl) (by kernel_rfl)) rfl ?_
    exact HF.out _ _ _ _ _ _
  | some y =>
    obtain ⟨k, rfl, hk, hTk⟩ := spot_some hs
    have hr : r = 0 := by rw [HE.out]; unfold errV; rw [hs]
    have HT := Lib.hid (show closeT T (k : Int) = put T k none from by unfold closeT; rw [hs]; simp)
    have hi0 : (0 : Int) ≤ (k : Int) := by omega
    have hi1 : (k : Int) < 32 := by omega
    subst hr
    clear hs HE hTk
    go_enter Try.func14, Try.ntmps14
    go_wp2_with fail
    refine HG.out.mono ?_
    rintro _ w2 ⟨A2, c2, rfl, ho2, hb2⟩
    obtain ⟨G, hG⟩ : ∃ G, w2.heap.size = G := ⟨_, rfl⟩
    obtain ⟨wx, hwx⟩ : ∃ wx, w2.alloc (.cells #[.int .i64 x.ino, .int .i64 x.flag, .int .i64 x.off, .bool x.isd, .slice A2 x.ns.length c2, .int .i64 x.pos] 30) = wx := ⟨_, rfl⟩
    have hbx : Below w1.heap.size w1 wx := by rw [← hwx]; exact below_step hb2 (below_alloc _ _)
    have hsx : wx.heap.size = G + 1 := by rw [← hwx, World.size_alloc, hG]
    have hGb : b < G := by have := hb2.size; have := HS1.out; omega
    have rG : wx.heap[G]? = some (.cells #[.int .i64 x.ino, .int .i64 x.flag, .int .i64 x.off, .bool x.isd, .slice A2 x.ns.length c2, .int .i64 x.pos] 30 (0, 0)) := by rw [← hwx, ← hG]; exact heap_alloc_new w2 _
    have hox : Own wx w1.heap.size A2 c2 x.ns := by rw [← hwx]; exact ho2.keep (below_alloc _ _)
    have hrx := H1.out.below hbx
    have rb := (hbx.block b (by have := HS1.out; omega)).trans HR1.out
    have cD := hrx.is_ k hk
    have fD := hrx.fz k
    have ho3 := only_at wx D k (.bool false)
    have hoff := hrx.off hk
    obtain ⟨wy, hwy⟩ : ∃ wy, wx.setCell ⟨D, k, none⟩ (.bool false) = wy := ⟨_, rfl⟩
    rw [hwy] at ho3 hoff
    have rG2 := (ho3.block G (by omega) (by have := HDb.out.1; omega)).trans rG
    have rb2 := (ho3.block b (by omega) (by have := HDb.out.1; omega)).trans rb
    have hox2 : Own wy w1.heap.size A2 c2 x.ns := own_only hox ho3 (by intro q e; have := HDb.out.1; have := HS1.out; omega)
    have HTH := Lib.hid (there_row rb2 rfl)
    have HF := Lib.hid (show ∀ x0 x1 x2 x3 x4 x5, CE w0 w D N (closeT T (k : Int)) x 0 (.returned (.tuple #[DV A2 x.ns.length c2 x, .int .i64 0])) (set6 wy b x0 x1 x2 x3 x4 x5) from fun x0 x1 x2 x3 x4 x5 => by
      rw [HT.out]
      refine ⟨A2, c2, rfl, own_base (own_only hox2 (set6_only _ _ _ _ _ _ _ _) (by intro q e; have := HS1.out; omega)) (by have := HS1.out; have := HBB.out; omega), N, hoff.other b (by have := HDb.out.1; omega) (fun q hq => by have := HDb.out.2 q hq; omega) _ _ _ _ _ _, fun q hq => .inl hq, ?_⟩
      exact only_own ((Only.of_below HB1.out).trans (Only.of_below hbx)) ho3 (set6_only _ _ _ _ _ _ _ _) (by rw [HBB.out]; exact Nat.le_refl _))
    have hR := range6 (w := wy) (b := G) (by rw [cell_row rG2]; rfl) (by rw [cell_row rG2]; rfl) (by rw [cell_row rG2]; rfl) (by rw [cell_row rG2]; rfl) (by rw [cell_row rG2]; rfl) (by rw [cell_row rG2]; rfl)
    have HRG := Lib.hid hR
    have HWX := Lib.hid hwx
    have HWY := Lib.hid hwy
    clear hox hrx rb hbx rG hR hsx ho2 hb2 ho3 hoff rG2 rb2 hox2 hwx hwy
    go_upto_region 3 with fail
    rw [HWX.out]
    go_upto_region 4 with fail
    rw [HWY.out]
    clear hG
    go_wp2_with (first | refine wpList_load_mid (by rfl) 30 (.tmp 6) (by rfl) G 0 (by rfl) _ _ HRG.out Try.underlying30 (by rfl) (by kernel_rfl) ?_ | refine wpList_store_mid (by rfl) 30 (.tmp 4) (.tmp 21) (by rfl) b 0 #[.int .i64 x.ino, .int .i64 x.flag, .int .i64 x.off, .bool x.isd, .slice A2 x.ns.length c2, .int .i64 x.pos] (by rfl) (by rfl) HTH.out (by kernel_rfl) (by simp [Value.oneCell']) ?_)
    refine bodyPost_ret (results_row_tmp rfl _ _ b [.int .i64 x.ino, .int .i64 x.flag, .int .i64 x.off, .bool x.isd, .slice A2 x.ns.length c2, .int .i64 x.pos] _ rfl (set6_range HTH.out _ _ _ _ _ _) Try.underlying30 (by rfl) (by kernel_rfl)) rfl ?_
    exact HF.out _ _ _ _ _ _
end Go.Proofs.Ytfbdhpbnmjacmaa.ds
