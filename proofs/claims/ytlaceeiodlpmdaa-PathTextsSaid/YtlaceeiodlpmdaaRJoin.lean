/- The document's 'Join' by definition: it hands back what the program's does. -/
import Derived.Test.YtlaceeiodlpmdaaRef
import Derived.Test.YtlaceeiodlpmdaaJoin
namespace Go.Proofs.Ytlaceeiodlpmdaa
open Go.RowKit

theorem fz0 (w : World) (v0 v1 : Value) : (w.alloc (.cells #[v0, v1] 25)).frozen? ⟨w.heap.size, 0, none⟩ = false := by simp
theorem fz1 (w : World) (v0 v1 : Value) : (w.alloc (.cells #[v0, v1] 25)).frozen? ⟨w.heap.size, 1, none⟩ = false := by simp
def RJoinE (w : World) (xs ys : List Bs) (d d' : Bool) (e : Ending) (w' : World) : Prop :=
  (40 < xs.length + ys.length ∧ JoinNo w e w') ∨ (xs.length + ys.length ≤ 40 ∧ JoinYes w (xs ++ ys) (joinDir ys d d') e w')

def RW (w : World) (A A' : Option Addr) (n c n' c' : Nat) (d d' : Bool) : World := ((w.alloc (.cells #[.slice A n c, .bool d] 25)).alloc (.cells #[.slice A' n' c', .bool d'] 25)).alloc (.cells #[.slice none 0 0, .bool false] 25)
structure RF (w : World) (A A' : Option Addr) (n c n' c' : Nat) (d d' : Bool) (wr : World) : Prop where
  a0 : wr.cell? ⟨w.heap.size, 0, none⟩ = some (.slice A n c)
  a1 : wr.cell? ⟨w.heap.size, 1, none⟩ = some (.bool d)
  b0 : wr.cell? ⟨w.heap.size + 1, 0, none⟩ = some (.slice A' n' c')
  b1 : wr.cell? ⟨w.heap.size + 1, 1, none⟩ = some (.bool d')
  c0 : wr.cell? ⟨w.heap.size + 1 + 1, 0, none⟩ = some (.slice none 0 0)
  c1 : wr.cell? ⟨w.heap.size + 1 + 1, 1, none⟩ = some (.bool false)
  f0 : wr.frozen? ⟨w.heap.size + 1 + 1, 0, none⟩ = false
  f1 : wr.frozen? ⟨w.heap.size + 1 + 1, 1, none⟩ = false
  bl : Below w.heap.size w wr
  sz : w.heap.size + 3 ≤ wr.heap.size
theorem rf_of {w wr : World} {A A' : Option Addr} {n c n' c' : Nat} {d d' : Bool} (h : Below (w.heap.size + 3) (RW w A A' n c n' c' d d') wr) : RF w A A' n c n' c' d d' wr := by
  have b3 : Below w.heap.size w (RW w A A' n c n' c' d d') := ((below_alloc w _).alloc (by simp) _).alloc (by simp; omega) _
  have hz : (RW w A A' n c n' c' d d').heap.size = w.heap.size + 3 := by simp [RW]
  refine ⟨?_, ?_, ?_, ?_, ?_, ?_, ?_, ?_, b3.trans (h.mono (by omega)), by rw [← hz]; exact h.size⟩
  · rw [h.cell (p := ⟨w.heap.size, 0, none⟩) (by simp)]; unfold RW; rw [World.cell?_alloc_past _ _ _ (by simp; omega)]; simp [World.cell?_alloc_past]
  · rw [h.cell (p := ⟨w.heap.size, 1, none⟩) (by simp)]; unfold RW; rw [World.cell?_alloc_past _ _ _ (by simp; omega)]; simp [World.cell?_alloc_past]
  · rw [h.cell (p := ⟨w.heap.size + 1, 0, none⟩) (by simp)]; unfold RW; simp [World.cell?_alloc_past]
  · rw [h.cell (p := ⟨w.heap.size + 1, 1, none⟩) (by simp)]; unfold RW; simp [World.cell?_alloc_past]
  · rw [h.cell (p := ⟨w.heap.size + 1 + 1, 0, none⟩) (by show w.heap.size + 1 + 1 < w.heap.size + 3; omega)]; unfold RW; have := (Box.new ((w.alloc (.cells #[.slice A n c, .bool d] 25)).alloc (.cells #[.slice A' n' c', .bool d'] 25)) (.slice none 0 0) (.bool false) 25).c0; simpa only [World.size_alloc] using this
  · rw [h.cell (p := ⟨w.heap.size + 1 + 1, 1, none⟩) (by show w.heap.size + 1 + 1 < w.heap.size + 3; omega)]; unfold RW; have := (Box.new ((w.alloc (.cells #[.slice A n c, .bool d] 25)).alloc (.cells #[.slice A' n' c', .bool d'] 25)) (.slice none 0 0) (.bool false) 25).c1; simpa only [World.size_alloc] using this
  · rw [h.frozen (p := ⟨w.heap.size + 1 + 1, 0, none⟩) (by show w.heap.size + 1 + 1 < w.heap.size + 3; omega)]; unfold RW; have := fz0 ((w.alloc (.cells #[.slice A n c, .bool d] 25)).alloc (.cells #[.slice A' n' c', .bool d'] 25)) (.slice none 0 0) (.bool false); simpa only [World.size_alloc] using this
  · rw [h.frozen (p := ⟨w.heap.size + 1 + 1, 1, none⟩) (by show w.heap.size + 1 + 1 < w.heap.size + 3; omega)]; unfold RW; have := fz1 ((w.alloc (.cells #[.slice A n c, .bool d] 25)).alloc (.cells #[.slice A' n' c', .bool d'] 25)) (.slice none 0 0) (.bool false); simpa only [World.size_alloc] using this

set_option maxHeartbeats 2000000 in
theorem rjoin_any (A A' : Option Addr) (n c n' c' : Nat) (d d' : Bool) (xs ys : List Bs) (w : World) (h1 : n ≤ 10000) (h2 : n' ≤ 10000) (hn : n = xs.length) (hn' : n' = ys.length)
    (hx : Strs w w.heap.size A xs) (hy : Strs w w.heap.size A' ys) :
    Calls Try.prog 22 #[Pv A n c d, Pv A' n' c' d'] w (RJoinE w xs ys d d') := by
  obtain ⟨i0, hi, hz0, hz1, hz2⟩ := info_parts info9
  have HN := Lib.hid (And.intro hn hn')
  have HF := Lib.hid (fun wr (h : Below (w.heap.size + 3) (RW w A A' n c n' c' d d') wr) => rf_of h)
  have HS := Lib.hid (And.intro hx hy)
  have hlit := strs_lit (RW w A A' n c n' c' d d') (w.heap.size + 3) (by simp [RW])
  have hbl : Below (w.heap.size + 3) (RW w A A' n c n' c' d d') ((RW w A A' n c n' c' d d').alloc (.cells #[] 9)) := (Below.refl _ _).alloc (by simp [RW]) _
  unfold RW at HF hlit hbl
  simp only [World.size_alloc] at hlit
  have HL := Lib.hid (And.intro hlit hbl)
  clear hx hy hn hn' hlit hbl
  go_enter Try.func22, Try.ntmps22
  go_wp2_with fail
  go_loopg [6, 7] n (fun g v i wr => ∃ k : Nat, k ≤ n ∧ g + k = n ∧ i = .int .i64 k ∧ wr.ownsRow (w.heap.size + 3) 9 1 v (xs.take k).length ((xs.take k).map Sv) ∧
    Below (w.heap.size + 3) (((w.alloc (.cells #[.slice A n c, .bool d] 25)).alloc (.cells #[.slice A' n' c', .bool d'] 25)).alloc (.cells #[.slice none 0 0, .bool false] 25)) wr)
  case atStart => exact ⟨0, by omega, by omega, rfl, HL.out.1, HL.out.2⟩
  case round =>
    obtain ⟨k, hk, hg, rfl, hrow, hbr⟩ := hrel
    have R := HF.out _ hbr
    have q0 := R.a0
    have hsz := R.sz
    by_cases hlt : k < n
    · obtain ⟨ad, x, rfl, hab, hxk, hcx⟩ := (HS.out.1.below R.bl).get (k := k) (by rw [← HN.out.1]; exact hlt)
      have HT := Lib.hid (show xs.take (k + 1) = xs.take k ++ [x] by
        obtain ⟨hk', rfl⟩ := List.getElem?_eq_some_iff.1 hxk
        exact List.take_succ_eq_append_getElem hk')
      have hl : (xs.take k).length ≤ k := by rw [List.length_take]; omega
      clear hxk hab R
      go_wp2_with (at_builtin; go_must (refine wpList_append_own _ rfl (.tmp 17) (.tmp 23) 23 rfl (w.heap.size + 3) 9 i0 _ 1 16 Try.underlying23 hi hz0 hz1 hz2 rfl (by decide) u6 (xs.take k).length ((xs.take k).map Sv) rfl (hrow.alloc _) ⟨wr.heap.size, 0, none⟩ 1 1 [Sv x] rfl rfl (cell_one_new _ _ _) (by intro u hu; simp at hu; subst hu; rfl) (by unfold maxLen; omega) (by omega) (by simp; omega) ?_); intro v1 w3 hown1 hgrow1 _)
      go_roundg (gk - 1)
      case measure => omega
      case rel =>
        refine ⟨k + 1, by omega, by omega, by go_num, ?_, ?_⟩
        · rw [HT.out]; simpa using hown1
        · exact (hbr.alloc (by omega) _).grown hgrow1 (by simp; omega) (fun g hg' => (hrow.lt g hg').1)
    · have HT := Lib.hid (show xs.take k = xs by rw [List.take_of_length_le (by rw [← HN.out.1]; omega)])
      rw [HT.out] at hrow
      have hkl : ¬ ((k : Int) < (n : Int)) := by omega
      clear hlt HT R
      go_wp2_with fail
      have HG := Lib.hid hrow
      clear hrow q0
      go_loopg [6, 8] n' (fun g v i wy => ∃ k : Nat, k ≤ n' ∧ g + k = n' ∧ i = .int .i64 k ∧ wy.ownsRow (w.heap.size + 3) 9 1 v (xs ++ ys.take k).length ((xs ++ ys.take k).map Sv) ∧
        Below (w.heap.size + 3) (((w.alloc (.cells #[.slice A n c, .bool d] 25)).alloc (.cells #[.slice A' n' c', .bool d'] 25)).alloc (.cells #[.slice none 0 0, .bool false] 25)) wy)
      case atStart => exact ⟨0, by omega, by omega, rfl, by simpa using HG.out, hbr⟩
      case round =>
        clear HG hbr hsz
        obtain ⟨j, hj, hg2, rfl, hrow, hbr⟩ := hrel
        have R := HF.out _ hbr
        have q0 := R.b0
        have hsz := R.sz
        by_cases hlt : j < n'
        · obtain ⟨ad, x, rfl, hab, hxk, hcx⟩ := (HS.out.2.below R.bl).get (k := j) (by rw [← HN.out.2]; exact hlt)
          have HT := Lib.hid (show xs ++ ys.take (j + 1) = xs ++ ys.take j ++ [x] by
            obtain ⟨hk', rfl⟩ := List.getElem?_eq_some_iff.1 hxk
            rw [List.take_succ_eq_append_getElem hk', List.append_assoc])
          have hl : (xs ++ ys.take j).length ≤ n + j := by rw [List.length_append, List.length_take, ← HN.out.1]; omega
          clear hxk hab R
          go_wp2_with (at_builtin; go_must (refine wpList_append_own _ rfl (.tmp 32) (.tmp 38) 23 rfl (w.heap.size + 3) 9 i0 _ 1 16 Try.underlying23 hi hz0 hz1 hz2 rfl (by decide) u6 (xs ++ ys.take j).length ((xs ++ ys.take j).map Sv) rfl (hrow.alloc _) ⟨wr.heap.size, 0, none⟩ 1 1 [Sv x] rfl rfl (cell_one_new _ _ _) (by intro u hu; simp at hu; subst hu; rfl) (by unfold maxLen; omega) (by omega) (by simp; omega) ?_); intro v1 w3 hown1 hgrow1 _)
          go_roundg (gk - 1)
          case measure => omega
          case rel =>
            refine ⟨j + 1, by omega, by omega, by go_num, ?_, ?_⟩
            · rw [HT.out]; simpa [List.append_assoc, Nat.add_assoc] using hown1
            · exact (hbr.alloc (by omega) _).grown hgrow1 (by simp; omega) (fun g hg' => (hrow.lt g hg').1)
        · have HT := Lib.hid (show xs ++ ys.take j = xs ++ ys by rw [List.take_of_length_le (by rw [← HN.out.2]; omega)])
          rw [HT.out] at hrow
          have hkl : ¬ ((j : Int) < (n' : Int)) := by omega
          clear hlt HT
          obtain ⟨A2, c2, rfl, hown2, -⟩ := own_form hrow
          clear hrow
          have HZ := Lib.hid (show (xs ++ ys).length = n + n' by rw [List.length_append, ← HN.out.1, ← HN.out.2])
          obtain ⟨z, hz⟩ : ∃ z, (xs ++ ys).length = z := ⟨_, rfl⟩
          have hzn : z = n + n' := by rw [← hz]; exact HZ.out
          have q1 := R.a1
          have q2 := R.b1
          have q3 := R.c0
          have q4 := R.c1
          have q5 := R.f0
          have q6 := R.f1
          have hbw := R.bl
          by_cases h40 : 40 < z
          · have HR : ∀ e W, JoinNo w e W → RJoinE w xs ys d d' e W := fun e W h => .inl ⟨by rw [← List.length_append, hz]; exact h40, h⟩
            have HR := Lib.hid HR
            rw [hz]
            clear hz HZ hown2 hzn
            go_wp2_with fail
            exact bodyPost_ret (v := .tuple #[Pv none 0 0 false, .int .i64 36]) (by simp [results, Try.results22, go_sem, *]) rfl (HR.out _ _ ⟨rfl, (hbw.setCell (by simp; omega) _).setCell (by simp; omega) _⟩)
          · have HR := Lib.hid (show ∀ D W, joinDir ys d d' = D → Own W w.heap.size A2 c2 (xs ++ ys) → Below w.heap.size w W → RJoinE w xs ys d d' (.returned (.tuple #[Pv A2 z c2 D, .int .i64 0])) W from fun D W hD hO hB =>
              .inr ⟨by rw [← List.length_append, hz]; omega, A2, c2, by rw [hz, hD], hO, hB⟩)
            have hown3 : Own _ (w.heap.size + 3) A2 c2 (xs ++ ys) := hown2
            rw [hz]
            have HO := Lib.hid hown3
            by_cases h0 : n' = 0
            · have HD := Lib.hid (show joinDir ys d d' = d by
                have : ys = [] := List.eq_nil_of_length_eq_zero (by rw [← HN.out.2]; exact h0)
                simp [joinDir, this])
              clear hz HZ hown2 hown3 hzn
              go_wp2_with fail
              refine bodyPost_ret (v := .tuple #[Pv A2 z c2 d, .int .i64 0]) (by simp [results, Try.results22, go_sem, *]) rfl (HR.out d _ HD.out ?_ ?_)
              · exact ((HO.out.set (by simp) _).set (by simp) _).base (by omega)
              · exact (hbw.setCell (by simp; omega) _).setCell (by simp; omega) _
            · have HD := Lib.hid (show joinDir ys d d' = d' by
                cases ys with
                | nil => exact absurd HN.out.2 h0
                | cons _ _ => simp [joinDir])
              clear hz HZ hown2 hown3 hzn
              go_wp2_with fail
              refine bodyPost_ret (v := .tuple #[Pv A2 z c2 d', .int .i64 0]) (by simp [results, Try.results22, go_sem, *]) rfl (HR.out d' _ HD.out ?_ ?_)
              · exact ((HO.out.set (by simp) _).set (by simp) _).base (by omega)
              · exact (hbw.setCell (by simp; omega) _).setCell (by simp; omega) _
end Go.Proofs.Ytlaceeiodlpmdaa
