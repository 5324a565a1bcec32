/- The document's table: Set, Close, All. -/
import Derived.Test.YtfbdhpbnmjacmaaDv
namespace Go.Proofs.Ytfbdhpbnmjacmaa.ds
open Go.RowKit
open Go.Proofs.Ytfbdhpbnmjacmaa.pa (Bs Sv Strs Own own_form info9 own_base)
set_option linter.unusedVariables false
set_option linter.unusedSimpArgs false

theorem r_getv {w0 w : World} {D : Nat} {N : Nat → Prop} {T : Tb} (h : RT w0 w D N T) (fd : Int) {x : De} {r : Int} (hx : getV T fd = (x, r)) : Calls Try.prog 19 #[Pq D, .int .i64 fd] w (fun e w' => ∃ A c, e = .returned (.tuple #[.agg #[.int .i64 x.ino, .int .i64 x.flag, .int .i64 x.off, .bool x.isd, .slice A x.ns.length c, .int .i64 x.pos], .int .i64 r]) ∧ Own w' w.heap.size A c x.ns ∧ Below w.heap.size w w') := by
  have := r_get h fd
  rw [hx] at this
  exact this
theorem getv_err (T : Tb) (fd : Int) : (getV T fd).2 = errV T fd := by unfold getV errV; cases spot T fd <;> rfl
set_option maxHeartbeats 4000000 in
set_option maxRecDepth 100000 in
theorem r_set {w0 w : World} {D n c : Nat} {N : Nat → Prop} {T : Tb} {A : Option Addr} {d : De} (h : RT w0 w D N T) (fd : Int) (hd : DA w A n c d) (hn : n ≤ 1000) (h0 : w0.heap.size ≤ w.heap.size) :
    Calls Try.prog 17 #[Pq D, .int .i64 fd, DV A n c d] w (RE w0 w D N (setT T fd d) (.int .i64 (errV T fd))) := by
  obtain rfl := hd.len
  obtain ⟨b, hb⟩ : ∃ b, w.heap.size = b := ⟨_, rfl⟩
  obtain ⟨w1, hw1⟩ : ∃ w1, w.alloc (.cells #[.int .i64 d.ino, .int .i64 d.flag, .int .i64 d.off, .bool d.isd, .slice A d.ns.length c, .int .i64 d.pos] 30) = w1 := ⟨_, rfl⟩
  have hb1 : Below w.heap.size w w1 := by rw [← hw1]; exact below_alloc w _
  have hs1 : w1.heap.size = b + 1 := by rw [← hw1, World.size_alloc, hb]
  have r1 : w1.heap[b]? = some (.cells #[.int .i64 d.ino, .int .i64 d.flag, .int .i64 d.off, .bool d.isd, .slice A d.ns.length c, .int .i64 d.pos] 30 (0, 0)) := by rw [← hw1, ← hb]; exact heap_alloc_new w _
  obtain ⟨x, r, hx⟩ : ∃ x r, getV T fd = (x, r) := ⟨_, _, rfl⟩
  have HG := Lib.hid (r_getv (h.below hb1) fd hx)
  have HB1 := Lib.hid hb1
  have H1 := Lib.hid (h.below hb1)
  have HD1 := Lib.hid (hd.below hb1)
  have HR1 := Lib.hid r1
  have HS1 := Lib.hid hs1
  have HBB := Lib.hid hb
  have HDb := Lib.hid (show D < b from by have := h.lo.2; omega)
  have H0 := Lib.hid h0
  have HE := Lib.hid (show r = errV T fd from by rw [← getv_err, hx])
  clear h hd hb1 r1 hs1 h0 hx
  unfold DV
  cases hs : spot T fd with
  | none =>
    have hr : r = 9 := by rw [HE.out]; unfold errV; rw [hs]
    have HT := Lib.hid (show setT T fd d = T from by unfold setT; rw [hs])
    have HE9 := Lib.hid (show errV T fd = 9 from by unfold errV; rw [hs])
    rw [hr] at HG
    clear hs hr HE
    go_enter Try.func17, Try.ntmps17
    go_wp2_with fail
    refine HG.out.mono ?_
    rintro _ w2 ⟨A2, c2, rfl, ho2, hb2⟩
    have HF := Lib.hid (fun ob => (show RE w0 w D N (setT T fd d) (.int .i64 (errV T fd)) (.returned (.int .i64 9)) (w2.alloc ob) from by
      rw [HT.out, HE9.out]
      exact ⟨rfl, N, (H1.out.below hb2).below (below_alloc w2 ob), fun q hq => .inl hq, Only.of_below (below_step (below_step HB1.out hb2) (below_alloc w2 ob))⟩))
    clear ho2 hb2 HG
    go_wp2_with fail
    go_ret
    exact HF.out _
  | some y =>
    obtain ⟨k, rfl, hk, hTk⟩ := spot_some hs
    have hr : r = 0 := by rw [HE.out]; unfold errV; rw [hs]
    have HT := Lib.hid (show setT T (k : Int) d = put T k (some d) from by unfold setT; rw [hs]; simp)
    have HE9 := Lib.hid (show errV T (k : Int) = 0 from by unfold errV; rw [hs])
    have HTK := Lib.hid hTk
    have hi0 : (0 : Int) ≤ (k : Int) := by omega
    have hi1 : (k : Int) < 32 := by omega
    rw [hr] at HG
    clear hs hr HE hTk
    go_enter Try.func17, Try.ntmps17
    go_wp2_with fail
    refine HG.out.mono ?_
    rintro _ w2 ⟨A2, c2, rfl, ho2, hb2⟩
    have HB2 := Lib.hid hb2
    clear ho2 hb2 HG
    obtain ⟨wx, hwx⟩ : ∃ wx, w2.alloc (.cells #[.int .i64 x.ino, .int .i64 x.flag, .int .i64 x.off, .bool x.isd, .slice A2 x.ns.length c2, .int .i64 x.pos] 30) = wx := ⟨_, rfl⟩
    have hbx : Below w1.heap.size w1 wx := by rw [← hwx]; exact below_step HB2.out (below_alloc _ _)
    have hon := H1.out.below hbx
    have hstr : Strs wx w1.heap.size A d.ns := HD1.out.st.below hbx
    have hb2 := (hbx.block b (by have := HS1.out; omega)).trans HR1.out
    have hs2 := hbx.size
    have HWX := Lib.hid hwx
    clear hwx
    go_upto_region 3 with fail
    rw [HWX.out]
    have HQ := Lib.hid (fun W (hW : Below wx.heap.size wx W) => (show W.cell? ⟨b, 0, none⟩ = some (.int .i64 d.ino) ∧ W.cell? ⟨b, 1, none⟩ = some (.int .i64 d.flag) ∧ W.cell? ⟨b, 2, none⟩ = some (.int .i64 d.off) ∧ W.cell? ⟨b, 3, none⟩ = some (.bool d.isd) ∧ W.cell? ⟨b, 4, none⟩ = some (.slice A d.ns.length c) ∧ W.cell? ⟨b, 5, none⟩ = some (.int .i64 d.pos) from by
      have hbw := (hW.block b (by have := HS1.out; omega)).trans hb2
      refine ⟨?_, ?_, ?_, ?_, ?_, ?_⟩ <;> (rw [cell_row hbw]; rfl)))
    have HTT := Lib.hid (fun W (hW : Below wx.heap.size wx W) => there6 (there_D (hon.below hW) hk))
    have HC := Lib.hid (show ∀ W, Below wx.heap.size wx W → Calls Try.prog 10 #[.agg #[.int .i64 d.ino, .int .i64 d.flag, .int .i64 d.off, .bool d.isd, .slice A d.ns.length c, .int .i64 d.pos]] W (fun e w' => ∃ A' c', e = .returned (.agg #[.int .i64 d.ino, .int .i64 d.flag, .int .i64 d.off, .bool d.isd, .slice A' d.ns.length c', .int .i64 d.pos]) ∧ Own w' W.heap.size A' c' d.ns ∧ Below W.heap.size W w') from
      fun W hW => own_any A d.ns.length c w1.heap.size d W rfl (by omega) (by have := hW.size; omega) (hstr.keep fun p hp => hW.cell (p := p) (by omega)))
    have HF := Lib.hid (fun W A' c' (hW : Below wx.heap.size wx W) (ho : Own W wx.heap.size A' c' d.ns) => (show RE w0 w D N (setT T (k : Int) d) (.int .i64 (errV T (k : Int))) (.returned (.int .i64 0)) (W.setCells D (32 + k * 6) (DL A' d.ns.length c' d)) from by
      have hr := (hon.below hW).lay hk (by rw [HTK.out]; rfl) ho (by have := HDb.out; have := HS1.out; omega) hn (by have := H0.out; have := HS1.out; omega)
      rw [HT.out, HE9.out]
      refine ⟨rfl, _, hr, fun q hq => ?_, ?_⟩
      · rcases hq with hq | ⟨hq, _⟩
        · exact .inl hq
        · exact .inr (by have := HS1.out; have := HBB.out; omega)
      · exact (((Only.of_below HB1.out).trans (Only.of_below hbx)).trans (Only.of_below hW)).trans (only_setCells D _ _ W)))
    have hDb : D ≠ b := by have := HDb.out; omega
    obtain ⟨p0, p1, p2, p3, p4, p5⟩ := HQ.out wx (Below.refl _ _)
    obtain ⟨pd0, pd1, pd2, pd3, pd4, pd5⟩ := HQ.out wx.drew (Below.refl _ _).drew
    clear hstr hb2 hs2 hon hbx
    go_region_held3 (fun w' => w'.cell? ⟨b, 0, none⟩ = some (.int .i64 d.ino) ∧ w'.cell? ⟨b, 1, none⟩ = some (.int .i64 d.flag) ∧ w'.cell? ⟨b, 2, none⟩ = some (.int .i64 d.off) ∧ w'.cell? ⟨b, 3, none⟩ = some (.bool d.isd) ∧ w'.cell? ⟨b, 4, none⟩ = some (.slice A d.ns.length c) ∧ w'.cell? ⟨b, 5, none⟩ = some (.int .i64 d.pos))
      (first | with_reducible exact ⟨p0, p1, p2, p3, p4, p5⟩ | with_reducible exact ⟨pd0, pd1, pd2, pd3, pd4, pd5⟩ | with_reducible exact ⟨j0, j1, j2, j3, j4, j5⟩ | with_reducible exact ⟨(far6 hDb _ _ _ _ _ _).trans j0, (far6 hDb _ _ _ _ _ _).trans j1, (far6 hDb _ _ _ _ _ _).trans j2, (far6 hDb _ _ _ _ _ _).trans j3, (far6 hDb _ _ _ _ _ _).trans j4, (far6 hDb _ _ _ _ _ _).trans j5⟩)
      (first | (go_at_call 10; ((with_reducible refine (HC.out _ (Below.refl _ _).drew).mono ?_); rintro _ w3 ⟨A', c', rfl, hown, hb3'⟩; have hb3 := (Below.refl wx.heap.size wx).drew.trans hb3'; obtain ⟨⟨v0, t0⟩, ⟨v1, t1⟩, ⟨v2, t2⟩, ⟨v3, t3⟩, ⟨v4, t4⟩, ⟨v5, t5⟩, z0, z1, z2, z3, z4, z5⟩ := HTT.out _ hb3; have HFN := Lib.hid (HF.out w3 A' c' hb3 hown); obtain ⟨j0, j1, j2, j3, j4, j5⟩ := HQ.out _ hb3)))
    all_goals
      go_wp2_with fail
      go_ret
      exact HFN.out
end Go.Proofs.Ytfbdhpbnmjacmaa.ds
