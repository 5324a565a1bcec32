/- 'awake': it returns true. -/
import Derived.Test.YtchjidijgdkhoaaSys
namespace Go.Proofs.Ytchjidijgdkhoaa
open Go.RowKit Go.Shelf
set_option linter.unusedVariables false

def AwakeE (w : World) (e : Ending) (w' : World) : Prop := e = .returned (.bool true) ∧ Below w.heap.size w w'
abbrev sA : ByteArray := ⟨#[97]⟩
abbrev sB : ByteArray := ⟨#[98]⟩
abbrev sDD : ByteArray := ⟨#[46, 46]⟩
theorem aw1 : lsetE sB 7 [] = [(sB, 7)] ∧ serr sB 7 = 0 := ⟨by kernel_rfl, by kernel_rfl⟩
theorem aw2 : lsetE sA 8 [(sB, 7)] = [(sA, 8), (sB, 7)] ∧ serr sA 8 = 0 := ⟨by kernel_rfl, by kernel_rfl⟩
theorem aw3 : lsetE sB 9 [(sA, 8), (sB, 7)] = [(sA, 8), (sB, 9)] ∧ serr sB 9 = 0 := ⟨by kernel_rfl, by kernel_rfl⟩
theorem aw4 : lsetE sDD 1 [(sA, 8), (sB, 9)] = [(sA, 8), (sB, 9)] ∧ serr sDD 1 = 22 := ⟨by kernel_rfl, by kernel_rfl⟩
theorem aw5 : nextV sA [(sA, 8), (sB, 9)] = .tuple #[Ev (sB, 9), .bool true] := by kernel_rfl
theorem aw6 : ldel sA [(sA, 8), (sB, 9)] = [(sB, 9)] ∧ getV sA [(sA, 8), (sB, 9)] = .tuple #[.int .i64 8, .int .i64 0] := ⟨by kernel_rfl, by kernel_rfl⟩
theorem aw7 : getV sA [(sB, 9)] = .tuple #[.int .i64 0, .int .i64 2] := by kernel_rfl

set_option maxHeartbeats 4000000 in
theorem awake_any (w : World) : Calls Try.prog 8 #[] w (AwakeE w) := by
  go_enter Try.func8, Try.ntmps8
  go_wp2_with fail
  refine (x_new (Below.refl w.heap.size w)).mono ?_
  rintro e w1 ⟨rfl, h1, hb1⟩
  generalize w.heap.size = D at h1 ⊢
  have H1 := Lib.hid h1.forget
  clear h1 hb1
  have HS1 := Lib.hid (x_set H1.out (by decide) sB 7 (by decide))
  rw [aw1.1, aw1.2] at HS1
  go_wp2_with fail
  refine HS1.out.mono ?_
  rintro e w2 ⟨rfl, h2, -⟩
  have HS2 := Lib.hid (x_set h2 (by decide) sA 8 (by decide))
  rw [aw2.1, aw2.2] at HS2
  clear h2 HS1
  go_wp2_with fail
  refine HS2.out.mono ?_
  rintro e w3 ⟨rfl, h3, -⟩
  have HS3 := Lib.hid (x_set h3 (by decide) sB 9 (by decide))
  rw [aw3.1, aw3.2] at HS3
  clear h3 HS2
  go_wp2_with fail
  refine HS3.out.mono ?_
  rintro e w4 ⟨rfl, h4, -⟩
  have HS4 := Lib.hid (x_set h4 (by decide) sDD 1 (by decide))
  rw [aw4.1, aw4.2] at HS4
  clear h4 HS3
  go_wp2_with fail
  refine HS4.out.mono ?_
  rintro e w5 ⟨rfl, h5, -⟩
  have HS5 := Lib.hid (x_all h5 (by decide))
  have H5 := Lib.hid h5
  clear h5 HS4
  go_wp2_with fail
  refine HS5.out.mono ?_
  rintro e w6 ⟨o6, c6, rfl, -, -, hsl, hb6⟩
  obtain ⟨G, rfl⟩ : ∃ G, o6 = some G := by
    cases o6 with
    | none => exact absurd hsl.1 (by simp)
    | some G => exact ⟨G, rfl⟩
  have g1 := (hsl.2.at_ (i := 1) (x := (sB, 9)) rfl).2
  have hGlt := hsl.2.lt
  have hGlo := hsl.1
  have H6 := Lib.hid (H5.out.below hb6)
  have HS6 := Lib.hid (x_next H6.out (by decide) sA)
  rw [aw5] at HS6
  have hDlt : D < w5.heap.size := by obtain ⟨_, _, h, _⟩ := H5.out; exact h.lt
  clear hsl HS5
  go_wp2_with fail
  refine HS6.out.mono ?_
  rintro e w7 ⟨rfl, hb7⟩
  have H7 := Lib.hid (H6.out.below hb7)
  have g17 := (hb7.cell (p := ⟨G, 1 * 2 + 1, none⟩) hGlt).trans g1
  have hz7 := hb7.size
  have hz6 := hb6.size
  have HBX := Lib.hid (below_step hb6 hb7)
  have hz57 : w5.heap.size ≤ w7.heap.size := Nat.le_trans hz6 hz7
  clear hb7 HS6 g1 hb6
  have H8 := Lib.hid (H5.out.over (HBX.out.trans ((below_alloc w7 (.cells #[.string sB, .int .i64 9] 37)).mono hz57)))
  have HS7 := Lib.hid (x_del H8.out (by decide) sA)
  rw [aw6.1, aw6.2] at HS7
  have hw7 : w7.heap.size < (w7.alloc (.cells #[.string sB, .int .i64 9] 37)).heap.size := by simp
  go_wp2_with fail
  refine HS7.out.mono ?_
  rintro e w8 ⟨rfl, h8, hs8⟩
  have g18 := (World.cell?_of_block (a := ⟨G, 1 * 2 + 1, none⟩) (hs8 G (.inr ⟨hGlo, by omega⟩))).trans (((below_alloc w7 _).cell (p := ⟨G, 1 * 2 + 1, none⟩) (by show G < _; omega)).trans g17)
  have b08 := (World.cell?_of_block (a := ⟨w7.heap.size, 0, none⟩) (hs8 w7.heap.size (.inr ⟨by omega, hw7⟩))).trans (show _ = some (.string sB) by simp)
  have HS8 := Lib.hid (x_get h8 (by decide) sA)
  rw [aw7] at HS8
  have H9 := Lib.hid h8
  clear h8 hs8 HS7 g17 hw7
  go_wp2_with fail
  refine HS8.out.mono ?_
  rintro e w9 ⟨rfl, hb9⟩
  have g19 := (hb9.cell (p := ⟨G, 1 * 2 + 1, none⟩) (World.block_lt_of_cell? _ _ g18)).trans g18
  have b09 := (hb9.cell (p := ⟨w7.heap.size, 0, none⟩) (World.block_lt_of_cell? _ _ b08)).trans b08
  have H10 := Lib.hid (H9.out.below hb9)
  have HL := Lib.hid (x_len H10.out)
  clear hb9 HS8 g18 b08
  go_wp2_with fail
  refine HL.out.mono ?_
  rintro e w10 ⟨rfl, rfl⟩
  go_wp2_with fail
  go_ret
  exact ⟨rfl, H10.out.bel⟩
end Go.Proofs.Ytchjidijgdkhoaa
