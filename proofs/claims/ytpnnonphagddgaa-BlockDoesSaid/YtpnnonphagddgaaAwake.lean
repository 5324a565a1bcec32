/- The document's examples: what they answer. -/
import Derived.Test.YtpnnonphagddgaaOne
import Derived.Lib.SlBytesConst
namespace Go.Proofs.Ytpnnonphagddgaa
open Go.RowKit
set_option linter.unusedVariables false
set_option linter.unusedSimpArgs false

theorem wr_ex {b : AB} {used room : Nat} {off : Int} {s len T p q : Nat} {err : Int} (h : WR b used room off len p err) (ho : off = (s : Int)) (hs : s < 65536) (hl : 0 < len) (hT : min len (65536 - s) = T) (hst : IsStop b used room s T q) :
    p = q ∧ err = if q = 0 then 28 else 0 := by
  subst ho
  rcases h with ⟨h, _⟩ | ⟨_, h, _⟩ | ⟨h, _⟩ | ⟨_, _, _, h, he⟩
  · omega
  · omega
  · omega
  · rw [Int.toNat_natCast, hT] at h
    have := h.eq hst
    subst this
    exact ⟨rfl, he⟩
/-- Bytes in a row that the call has laid itself. -/
theorem bytes_new (w w' : World) (F : Nat → Prop) (L : List Value) (t : TypeId) (fr : Nat × Nat) (n : Nat) (f : Nat → UInt8) (hF : ∀ x, F x → x < w.heap.size) (hw : w' = w.alloc (.cells L.toArray t fr)) (hL : ∀ i, i < n → L[i]? = some (U8 (f i))) : BytesIn w' F (some ⟨w.heap.size, 0, none⟩) n f := by
  subst hw
  intro i hi
  refine ⟨w.heap.size, 0, rfl, fun h => by have := hF _ h; omega, by simp, ?_⟩
  rw [Nat.zero_add, cell_of_row _ _ i L.toArray t fr (heap_alloc_last w _)]
  simpa using hL i hi
theorem One.F_lt {w : World} {S room P Q : Nat} {b : AB} (h : One w S room P Q b) : ∀ x, F1 S P Q x → x < w.heap.size := by
  intro x hx
  rcases F1_or.1 hx with e | e | e
  · rw [e]; exact Sys.ltS h
  · rw [e]; exact (h.bod 0 (by omega)).ltB
  · rw [e]; exact (h.bod 0 (by omega)).ltM
theorem own_first {w : World} {b c : Nat} {A : Option Addr} {v : Value} {l : List Value} {n : Nat} (h : w.ownsRow b 3 1 (.slice A n c) n (v :: l)) : ∃ g, A = some ⟨g, 0, none⟩ ∧ b ≤ g ∧ g < w.heap.size ∧ w.cell? ⟨g, 0, none⟩ = some v := by
  have hl := h.lt
  rcases h.2 with ⟨h1, h2⟩ | ⟨g, cap, cur, h1, _⟩
  · have := h.1
    rw [h2] at this
    simp at this
  · injection h1 with h1
    subst h1
    obtain ⟨h3, h4⟩ := hl g rfl
    exact ⟨g, rfl, h3, h4, by simpa [Addr.add] using h.cells (g := g) rfl 0 v rfl⟩
theorem Row.only {w w' : World} {lo n c : Nat} {A : Option Addr} {f : Nat → UInt8} {F : Nat → Prop} (h : Row w lo A n c f) (ho : Only F w w') (hF : ∀ x, F x → x < lo) : Row w' lo A n c f := by
  refine ⟨h.1, ?_⟩
  rcases h.2 with h | ⟨g, h1, h2, h3⟩
  · exact Or.inl h
  · exact Or.inr ⟨g, h1, h2, (ho.block g (Array.getElem?_eq_some_iff.1 h3).1 (fun hf => by have := hF g hf; omega)).trans h3⟩
def AwakeE (w : World) (e : Ending) (w' : World) : Prop := e = .returned (.bool true) ∧ Below w.heap.size w w'

set_option maxHeartbeats 4000000 in
set_option maxRecDepth 100000 in
theorem awake_any (w : World) : Calls Try.prog 10 #[] w (AwakeE w) := by
  have HN := Lib.hid (new_yes 2 w (by omega))
  have HB := Lib.hid (Below.refl w.heap.size w)
  go_enter Try.func10, Try.ntmps10
  go_wp2_with fail
  refine HN.out.mono ?_
  rintro e w1 ⟨rfl, hw1⟩
  have HS := Lib.hid (one_new (w := w) (room := 2) (by omega) hw1)
  have HB1 := Lib.hid (show Below w.heap.size w w1 by rw [hw1]; exact below_one _ _)
  have HN2 := Lib.hid (new_no (-1) w1 (by omega))
  clear hw1
  go_wp2_with fail
  refine HN2.out.mono ?_
  rintro e w2 ⟨rfl, rfl⟩
  have HBO := Lib.hid (one_body HS.out)
  go_wp2_with fail
  refine HBO.out.mono ?_
  rintro e w3 ⟨rfl, h3, hb3⟩
  have hF : ∀ x, F1 w.heap.size (w1.heap.size + 1) w1.heap.size x → w.heap.size ≤ x := fun x hx => by
    have := HB1.out.size
    rcases F1_or.1 hx with e | e | e <;> omega
  have HF := Lib.hid hF
  have HB3 := Lib.hid (below_step HB1.out (hb3.mono HB1.out.size))
  generalize hS : w.heap.size = S at *
  generalize w1.heap.size + 1 = P at *
  generalize w1.heap.size = Q at *
  have HS3 := Lib.hid hS
  have HT3 := Lib.hid h3
  have HZ3 := Lib.hid HB3.out.size
  clear hS h3 hb3 hF HN HN2 HBO HS HB1 HB
  have HW := Lib.hid (one_write (HT3.out.below (below_one w3 (.cells #[.int .u8 97, .int .u8 98] 5 (2, 3)))) 20 (some ⟨w3.heap.size, 0, none⟩) 2 2 exF (bytes_new w3 _ _ [.int .u8 97, .int .u8 98] 5 (2, 3) 2 exF HT3.out.F_lt rfl (fun i hi => by
    have : i = 0 ∨ i = 1 := by omega
    rcases this with rfl | rfl <;> rfl)) (by omega) (by unfold maxLen; omega))
  have hcv : (convert 33 33 (.slice (some ⟨w3.heap.size, 0, none⟩) 2 2)).run Try.prog (w3.alloc (.cells #[.int .u8 97, .int .u8 98] 5)) = .ok (.slice (some ⟨w3.heap.size, 0, none⟩) 2 2) (w3.alloc (.cells #[.int .u8 97, .int .u8 98] 5 (2, 3))) :=
    Lib.run_convert_bytes_const w3 33 5 #[.int .u8 97, .int .u8 98] 2 2 Try.underlying33 Try.underlying5
  go_wp2_with fail
  refine HW.out.mono ?_
  rintro e w4 ⟨p, err, rfl, hw, h4, ho4⟩
  obtain ⟨rfl, he⟩ := wr_ex hw (s := 20) (T := 2) rfl (by omega) (by omega) (by decide) (by rw [ex_n0]; exact ex_s1)
  obtain rfl : err = 0 := he
  have HT4 := Lib.hid (show One w4 S 2 P Q ex1 from h4)
  have HB4 := Lib.hid (ho4.below (HB3.out.alloc (by have := HZ3.out; rw [HS3.out] at this; exact this) _) (by rw [HS3.out]; exact Nat.le_refl _) HF.out)
  clear hw h4 ho4 HW HT3 HB3
  have HH := Lib.hid (one_holes HT4.out)
  rw [ex_h1] at HH
  go_wp2_with fail
  refine HH.out.mono ?_
  rintro e w5 ⟨v, rfl, hown, hb5⟩
  obtain ⟨A5, c5, rfl⟩ := own_slice hown
  have HZ4 := Lib.hid HB4.out.size
  have HB5 := Lib.hid (below_step HB4.out (hb5.mono (by have := HZ4.out; rw [HS3.out] at this; exact this)))
  have HT5 := Lib.hid (HT4.out.below hb5)
  have HO5 := Lib.hid hown
  clear hown hb5 HH
  have HR := Lib.hid (one_read HT5.out 18 9)
  go_wp2_with fail
  refine HR.out.mono ?_
  rintro e w6 ⟨A6, c6, rfl, hrow, hb6⟩
  rw [ex_r1] at hrow ⊢
  have hcv := hrow.conv
  rw [ex_t1] at hcv
  have hrow0 := hrow
  have HB6 := Lib.hid (below_step HB5.out (hb6.mono (by have := HB5.out.size; rw [HS3.out] at this; exact this)))
  have HT6 := Lib.hid (HT5.out.below hb6)
  have HZ5 := Lib.hid hb6.size
  have HO6 := Lib.hid (hb6)
  have HRW := Lib.hid hrow
  clear hrow hrow0 HR hb6
  have hmk : (Instr.makeSlice 33 (.int .i64 40) (.int .i64 40)).run Try.prog w6 = .ok (.slice (some ⟨w6.heap.size, 0, none⟩) 40 40) (w6.alloc (.cells (rowF 40 (fun _ => 0)).toArray 5)) := make_bytes w6 40 (by omega)
  have HT6b := Lib.hid (HT6.out.below (below_one w6 (.cells (rowF 40 (fun _ => 0)).toArray 5)))
  have HW := Lib.hid (one_write HT6b.out 30 (some ⟨w6.heap.size, 0, none⟩) 40 40 (fun _ => 0) (bytes_new w6 _ _ (rowF 40 (fun _ => 0)) 5 (0, 0) 40 (fun _ => 0) HT6.out.F_lt rfl (fun i hi => rowF_get _ hi)) (by omega) (by unfold maxLen; omega))
  have HB6b := Lib.hid (HB6.out.alloc (by have := HB6.out.size; rw [HS3.out] at this; exact this) (.cells (rowF 40 (fun _ => 0)).toArray 5))
  generalize hrw : rowF 40 (fun _ => 0) = RW at *
  clear hrw
  go_wp2_with fail
  refine HW.out.mono ?_
  rintro e w7 ⟨p, err, rfl, hw, h7, ho7⟩
  obtain ⟨rfl, he⟩ := wr_ex hw (s := 30) (T := 40) rfl (by omega) (by omega) (by decide) (by rw [ex_n1]; exact ex_s2)
  obtain rfl : err = 0 := he
  have HT7 := Lib.hid (show One w7 S 2 P Q ex2 from h7)
  have HB7 := Lib.hid (ho7.below HB6b.out (by rw [HS3.out]; exact Nat.le_refl _) HF.out)
  have HO7 := Lib.hid ho7
  clear hw h7 ho7 HW HT6 HB6 hmk
  have hcv3 : (convert 33 33 (.slice (some ⟨w7.heap.size, 0, none⟩) 1 1)).run Try.prog (w7.alloc (.cells #[.int .u8 120] 5)) = .ok (.slice (some ⟨w7.heap.size, 0, none⟩) 1 1) (w7.alloc (.cells #[.int .u8 120] 5 (1, 2))) :=
    Lib.run_convert_bytes_const w7 33 5 #[.int .u8 120] 1 1 Try.underlying33 Try.underlying5
  have HT7b := Lib.hid (HT7.out.below (below_one w7 (.cells #[.int .u8 120] 5 (1, 2))))
  have HW := Lib.hid (one_write HT7b.out 0 (some ⟨w7.heap.size, 0, none⟩) 1 1 (fun _ => 120) (bytes_new w7 _ _ [.int .u8 120] 5 (1, 2) 1 (fun _ => 120) HT7.out.F_lt rfl (fun i hi => by
    obtain rfl : i = 0 := by omega
    rfl)) (by omega) (by unfold maxLen; omega))
  have HB7b := Lib.hid (HB7.out.alloc (by have := HB7.out.size; rw [HS3.out] at this; exact this) (.cells #[.int .u8 120] 5 (1, 2)))
  go_wp2_with fail
  refine HW.out.mono ?_
  rintro e w8 ⟨p, err, rfl, hw, h8, ho8⟩
  obtain ⟨rfl, he⟩ := wr_ex hw (s := 0) (T := 1) rfl (by omega) (by omega) (by decide) (by rw [ex_n2]; exact ex_s3)
  obtain rfl : err = 28 := he
  have HT8 := Lib.hid (show One w8 S 2 P Q ex2 from by
    have hw0 : wr ex2 0 0 (fun _ => 120) = ex2 := wrB_zero _ _ _
    rw [hw0] at h8; exact h8)
  have HB8 := Lib.hid (ho8.below HB7b.out (by rw [HS3.out]; exact Nat.le_refl _) HF.out)
  have hall : Only (F1 S P Q) w5 w8 := (((Only.of_below HO6.out).alloc _).trans HO7.out).trans ((Only.of_below (below_one w7 (.cells #[.int .u8 120] 5 (1, 2)))).trans ho8)
  have hrow8 := HRW.out.only ((Only.of_below (Below.refl w6.heap.size w6)).trans ((((Only.refl _ w6).alloc _).trans HO7.out).trans ((Only.of_below (below_one w7 (.cells #[.int .u8 120] 5 (1, 2)))).trans ho8))) HT5.out.F_lt
  have hcv8 := hrow8.conv
  rw [ex_t1] at hcv8
  obtain ⟨g, rfl, hg1, hg2, hg3⟩ := own_first HO5.out
  have c0 : w8.cell? ⟨g, 0, none⟩ = some (.int .i64 0) := (World.cell?_of_block (a := ⟨g, 0, none⟩) (hall.block g hg2 (fun hf => by have := HT4.out.F_lt g hf; omega))).trans hg3
  have HU := Lib.hid (one_used HT8.out)
  have HRO := Lib.hid (one_room HT8.out)
  have HSZ := Lib.hid (one_size HT8.out)
  have HCH := Lib.hid (one_chunks HT8.out)
  rw [ex_n2] at HU HCH
  rw [ex_z2] at HSZ
  clear hw h8 ho8 HW hcv hcv3 hall hrow8 hg1 hg2 hg3
  go_wp2_with (first | (go_at_call 22; ((with_reducible refine HU.out.mono ?_); rintro e w' ⟨rfl, rfl⟩)) | (go_at_call 23; ((with_reducible refine HRO.out.mono ?_); rintro e w' ⟨rfl, rfl⟩)) | (go_at_call 24; ((with_reducible refine HSZ.out.mono ?_); rintro e w' ⟨rfl, rfl⟩)) | (go_at_call 25; ((with_reducible refine HCH.out.mono ?_); rintro e w' ⟨rfl, rfl⟩)))
  go_ret
  exact ⟨rfl, by rw [HS3.out]; exact HB8.out⟩
end Go.Proofs.Ytpnnonphagddgaa
