/- 'awake': it returns true; 'play'. -/
import Derived.Test.YtfbdhpbnmjacmaaDa
namespace Go.Proofs.Ytfbdhpbnmjacmaa.ds
open Go.RowKit
open Go.Proofs.Ytfbdhpbnmjacmaa.pa (Bs Sv Strs Own own_form info9 own_base)
set_option linter.unusedVariables false
set_option linter.unusedSimpArgs false

def AwakeE (w : World) (e : Ending) (w' : World) : Prop := e = .returned (.bool true) ∧ Below w.heap.size w w'
def dn (i : Int) : De := ⟨i, 0, 0, false, [], 0⟩
def T1 : Tb := openT em (dn 5)
def T2 : Tb := openT T1 (dn 6)
def T3 : Tb := closeT T2 0
def T4 : Tb := openT T3 (dn 7)
def T5 : Tb := setT T4 1 (dn 9)
theorem aw1 : lowV em = (0, 0) := by kernel_rfl
theorem aw2 : lowV T1 = (1, 0) := by kernel_rfl
theorem aw3 : getV T2 0 = (dn 5, 0) := by kernel_rfl
theorem aw4 : lowV T3 = (0, 0) := by kernel_rfl
theorem aw5 : getV T4 0 = (dn 7, 0) := by kernel_rfl
theorem aw6 : getV T4 2 = (dz, 9) := by kernel_rfl
theorem aw7 : errV T4 1 = 0 := by kernel_rfl
theorem aw8 : full T5 = false := by kernel_rfl
theorem aw9 : allT T5 32 = [0, 1] := by kernel_rfl
theorem da_dn (w : World) (i : Int) : DA w none 0 0 (dn i) := ⟨rfl, ⟨Nat.le_refl _, by unfold maxLen; omega⟩, Strs.nil _ _ _⟩
section
variable {w0 w : World} {P : Nat} {X : Nat → Prop} {T : Tb}
theorem y_open0 (h : TY w0 w P X T) (i : Int) : Calls Try.prog 11 #[Pq P, .agg #[.int .i64 i, .int .i64 0, .int .i64 0, .bool false, .slice none 0 0, .int .i64 0]] w (fun e w' => e = .returned (.tuple #[.int .i64 (lowV T).1, .int .i64 (lowV T).2]) ∧ TY w0 w' P X (openT T (dn i)) ∧ Same X w w') := y_open h (da_dn w i) (by decide)
theorem y_set0 (h : TY w0 w P X T) (fd i : Int) : Calls Try.prog 16 #[Pq P, .int .i64 fd, .agg #[.int .i64 i, .int .i64 0, .int .i64 0, .bool false, .slice none 0 0, .int .i64 0]] w (fun e w' => e = .returned (.int .i64 (errV T fd)) ∧ TY w0 w' P X (setT T fd (dn i)) ∧ Same X w w') := y_set h (da_dn w i) (by decide) fd
theorem y_close0 (h : TY w0 w P X T) (fd i e0 : Int) (hv : getV T fd = (dn i, e0)) : Calls Try.prog 13 #[Pq P, .int .i64 fd] w (fun e w' => ∃ A c, e = .returned (.tuple #[.agg #[.int .i64 i, .int .i64 0, .int .i64 0, .bool false, .slice A 0 c, .int .i64 0], .int .i64 e0]) ∧ TY w0 w' P X (closeT T fd)) := by
  have := y_close h fd
  rw [hv] at this
  exact this.mono fun _ _ ⟨A, c, he, _, h2, _⟩ => ⟨A, c, he, h2.weaken fun _ h => .inl h⟩
theorem y_get0 (h : TY w0 w P X T) (fd i e0 : Int) (hv : getV T fd = (dn i, e0)) : Calls Try.prog 18 #[Pq P, .int .i64 fd] w (fun e w' => ∃ A c, e = .returned (.tuple #[.agg #[.int .i64 i, .int .i64 0, .int .i64 0, .bool false, .slice A 0 c, .int .i64 0], .int .i64 e0]) ∧ Below w.heap.size w w') := by
  have := y_get h fd
  rw [hv] at this
  exact this.mono fun _ _ ⟨A, c, he, _, h2⟩ => ⟨A, c, he, h2⟩
end
theorem box6 (w w' : World) (v0 v1 v2 v3 v4 v5 : Value) (t : TypeId) (h : w' = w.alloc (.cells #[v0, v1, v2, v3, v4, v5] t)) :
    w'.cell? ⟨w.heap.size, 0, none⟩ = some v0 ∧ Below w.heap.size w w' ∧ w'.heap.size = w.heap.size + 1 := by
  subst h
  refine ⟨?_, below_alloc _ _, World.size_alloc _ _⟩; simp
set_option maxHeartbeats 8000000 in
theorem awake_any (w : World) : Calls Try.prog 8 #[] w (AwakeE w) := by
  have HN := Lib.hid (y_new (Below.refl w.heap.size w))
  go_enter Try.func8, Try.ntmps8
  go_wp2_with fail
  refine HN.out.mono ?_
  rintro e w1 ⟨rfl, h1, hb1⟩
  generalize w.heap.size = D at h1 ⊢
  have K1 := Lib.hid (y_open0 h1.forget 5)
  rw [aw1] at K1
  clear h1 hb1 HN
  go_wp2_with fail
  refine K1.out.mono ?_
  rintro e w2 ⟨rfl, h2, -⟩
  have K2 := Lib.hid (y_open0 (T := T1) h2 6)
  rw [aw2] at K2
  clear h2 K1
  go_wp2_with fail
  refine K2.out.mono ?_
  rintro e w3 ⟨rfl, h3, -⟩
  have K3 := Lib.hid (y_close0 (T := T2) h3 0 5 0 aw3)
  clear h3 K2
  go_wp2_with fail
  refine K3.out.mono ?_
  rintro e w4 ⟨A, c, rfl, h4⟩
  obtain ⟨c5, hb5, hs5⟩ := box6 w4 _ (.int .i64 5) (.int .i64 0) (.int .i64 0) (.bool false) (.slice A 0 c) (.int .i64 0) 30 rfl
  obtain ⟨G, hG⟩ : ∃ G, w4.heap.size = G := ⟨_, rfl⟩
  rw [hG] at c5 hs5
  have h5 := (h4.over hb5).weaken (Y := fun b => b = G) (fun b hb => .inr (by omega))
  have K4 := Lib.hid (y_open0 (T := T3) h5 7)
  rw [aw4] at K4
  have C5 := Lib.hid c5
  clear h4 h5 hb5 K3 c5 hs5
  go_wp2_with fail
  clear hG
  refine K4.out.mono ?_
  rintro e w6 ⟨rfl, h6, hs6⟩
  have c6 := (World.cell?_of_block (a := ⟨G, 0, none⟩) (hs6 G rfl)).trans C5.out
  have H6 := Lib.hid h6
  have K5 := Lib.hid (y_get0 (T := T4) h6 0 7 0 aw5)
  clear h6 hs6 C5 K4
  go_wp2_with fail
  refine K5.out.mono ?_
  rintro e w7 ⟨A2, c2, rfl, hb7⟩
  have c7 := (hb7.cell (p := ⟨G, 0, none⟩) (World.block_lt_of_cell? _ _ c6)).trans c6
  have H7 := Lib.hid (H6.out.below hb7)
  obtain ⟨d8, hb8, hs8⟩ := box6 w7 _ (.int .i64 7) (.int .i64 0) (.int .i64 0) (.bool false) (.slice A2 0 c2) (.int .i64 0) 30 rfl
  obtain ⟨G2, hG2⟩ : ∃ G, w7.heap.size = G := ⟨_, rfl⟩
  have hGl := World.block_lt_of_cell? _ _ c7
  have c8 := (hb8.cell (p := ⟨G, 0, none⟩) hGl).trans c7
  have H8 := Lib.hid ((H7.out.over hb8).weaken (Y := fun b => b = G ∨ b = G2) (fun b hb => by
    rcases hb with e | e
    · exact .inl e
    · exact .inr (by omega)))
  rw [hG2] at d8 hs8
  have K6 := Lib.hid (y_get0 (T := T4) H8.out 2 0 9 aw6)
  have C8 := Lib.hid c8
  have D8 := Lib.hid d8
  clear hb7 hb8 H7 H6 c7 c6 K5 c8 d8 hs8
  go_wp2_with fail
  clear hG2
  refine K6.out.mono ?_
  rintro e w9 ⟨A3, c3, rfl, hb9⟩
  have c9 := (hb9.cell (p := ⟨G, 0, none⟩) (World.block_lt_of_cell? _ _ C8.out)).trans C8.out
  have d9 := (hb9.cell (p := ⟨G2, 0, none⟩) (World.block_lt_of_cell? _ _ D8.out)).trans D8.out
  have H9 := Lib.hid (H8.out.below hb9)
  have l9 := World.block_lt_of_cell? _ _ c9
  have m9 := World.block_lt_of_cell? _ _ d9
  have HKS := Lib.hid (fun W (h : TY w W D (fun b => b = G ∨ b = G2) T4) => y_set0 h 1 9)
  rw [aw7] at HKS
  have HB := Lib.hid (fun ob => below_alloc w9 ob)
  have c10 : ∀ ob, (w9.alloc ob).cell? ⟨G, 0, none⟩ = some (.int .i64 5) := fun ob => ((below_alloc w9 ob).cell (p := ⟨G, 0, none⟩) l9).trans c9
  have d10 : ∀ ob, (w9.alloc ob).cell? ⟨G2, 0, none⟩ = some (.int .i64 7) := fun ob => ((below_alloc w9 ob).cell (p := ⟨G2, 0, none⟩) m9).trans d9
  have C10 := Lib.hid c10
  have D10 := Lib.hid d10
  clear hb9 H8 C8 D8 c10 d10 K6 c9 d9
  go_wp2_with fail
  refine (HKS.out _ (H9.out.below (HB.out _))).mono ?_
  rintro e w11 ⟨rfl, h11, hs11⟩
  have c11 := (World.cell?_of_block (a := ⟨G, 0, none⟩) (hs11 G (.inl rfl))).trans (C10.out _)
  have d11 := (World.cell?_of_block (a := ⟨G2, 0, none⟩) (hs11 G2 (.inr rfl))).trans (D10.out _)
  have K7 := Lib.hid (y_full (T := T5) h11)
  have K8 := Lib.hid (y_all (T := T5) h11)
  have H11 := Lib.hid h11
  rw [aw8] at K7
  rw [aw9] at K8
  unfold StE at K7
  unfold IntsE at K8
  clear h11 hs11 HKS H9 HB C10 D10
  go_wp2_with fail
  refine K7.out.mono ?_
  rintro e w12 ⟨rfl, hw12⟩
  subst hw12
  go_wp2_with fail
  refine K8.out.mono ?_
  rintro e w13 ⟨v, rfl, hown, hb13⟩
  obtain ⟨A4, c4, rfl⟩ := own_slice hown
  have HF := Lib.hid (show AwakeE w (.returned (.bool true)) w13 from ⟨rfl, (H11.out.below hb13).bel⟩)
  clear hown hb13
  go_wp2_with fail
  go_ret
  exact HF.out
end Go.Proofs.Ytfbdhpbnmjacmaa.ds
