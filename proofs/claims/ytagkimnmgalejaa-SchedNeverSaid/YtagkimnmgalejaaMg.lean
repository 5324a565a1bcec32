/- 'only', 'each', 'Holders', 'Queue'. -/
import Derived.Test.YtagkimnmgalejaaMf
import Derived.Test.YtagkimnmgalejaaShelf
import Derived.Sort.OwnSortedInts
import Derived.Deep.AppendLies
namespace Go.Proofs.Ytagkimnmgalejaa.sc
open Go.RowKit Go.Shelf
set_option linter.unusedVariables false
set_option linter.unusedSimpArgs false

/-- An own row of claims. -/
def OR (w : World) (base : Nat) (v : Value) (xs : List Cl) : Prop := ∃ L, w.ownsRow base 60 3 v xs.length L ∧ CellsL L xs
def OnlyE (w : World) (xs : List Cl) (e : Ending) (w' : World) : Prop := ∃ o c, e = .returned (.slice (Ao o) xs.length c) ∧ Sl w' o c xs ∧ (∀ G, o = some G → w.heap.size ≤ G) ∧ Below w.heap.size w w'
theorem OR.sl {w : World} {base : Nat} {v : Value} {xs : List Cl} (h : OR w base v xs) : ∃ o c, v = .slice (Ao o) xs.length c ∧ Sl w o c xs ∧ ∀ G, o = some G → base ≤ G := by
  obtain ⟨L, h1, h2⟩ := h
  rcases h1.2 with ⟨e, h0⟩ | ⟨G, c, cur, e, hb, h3⟩
  · have hx : xs = [] := List.eq_nil_of_length_eq_zero h0
    subst hx
    exact ⟨none, 0, e, ⟨rfl, rfl⟩, fun G hG => nomatch hG⟩
  · subst e
    obtain ⟨hq, hlo⟩ := QRow.of_owns h1 rfl h2
    exact ⟨some G, c, rfl, hq, fun G' hG => by injection hG with hG; subst hG; exact hlo⟩
theorem info60 : (Try.prog.info? 60).map (fun i => (i.zero, i.size, i.bytes)) = some (some (Cv 0 false false), 3, 16) := by kernel_rfl
theorem filter_snoc {p : Cl → Bool} {xs : List Cl} {k : Nat} (hk : k < xs.length) : (xs.take (k + 1)).filter p = if p (g xs k) then (xs.take k).filter p ++ [g xs k] else (xs.take k).filter p := by
  rw [List.take_succ_eq_append_getElem hk, List.filter_append, g_get hk]
  by_cases h : p xs[k] = true
  · simp [h]
  · simp [h]
set_option maxHeartbeats 4000000 in
theorem only_any (f n c : Nat) (o : Option Nat) (p : Cl → Bool) (xs : List Cl) (w : World) (hE : Enters Try.prog f) (hA : Tells f p) (hn : n = xs.length) (hN : n ≤ 1000000) (h : Sl w o c xs) :
    Calls Try.prog 26 #[.slice (Ao o) n c, .func (.func f) #[] #[]] w (OnlyE w (xs.filter p)) := by
  have HN := Lib.hid hn
  have HS := Lib.hid h
  have HA := Lib.hid hA
  obtain ⟨i0, hi, hz0, hz1, hz2⟩ := info_parts info60
  have HI := Lib.hid hi
  have HZ := Lib.hid (show i0.zero = some (Cv 0 false false) ∧ i0.size = 3 ∧ i0.bytes = 16 from ⟨hz0, hz1, hz2⟩)
  unfold Enters at hE
  clear hn h hA hi hz0 hz1 hz2
  go_enter Try.func26, Try.ntmps26
  go_wp2_with fail
  go_loopg [5, 10] n (fun gk s5 s wr => ∃ k : Nat, k ≤ n ∧ gk + k = n ∧ s = .int .i64 k ∧ Hid (OR wr w.heap.size s5 ((xs.take k).filter p)) ∧ Hid (Below w.heap.size w wr))
  case atStart => exact ⟨0, by omega, by omega, rfl, Lib.hid ⟨[], World.ownsRow_nil _ _ _ _, CellsL.nil⟩, Lib.hid (Below.refl _ _)⟩
  case round =>
    obtain ⟨k, hk, hgk, rfl, HO, HB⟩ := hrel
    by_cases hlt : k < n
    · cases o with
      | none => exact absurd HS.out.1 (by intro e; have := HN.out; rw [e] at this; simp at this; omega)
      | some G =>
        have ha := (QRow.of_block (w := w) HS.out (HB.out.block _ (QRow.lt (w := w) HS.out))).at_ (i := k) (by rw [← HN.out]; exact hlt)
        have HT := Lib.hid (filter_snoc (p := p) (xs := xs) (k := k) (by rw [← HN.out]; exact hlt))
        have HLE := Lib.hid (show ((xs.take k).filter p).length ≤ k from Nat.le_trans (List.length_filter_le _ _) (by rw [List.length_take]; omega))
        generalize g xs k = x at *
        obtain ⟨xk, xt, xm⟩ := x
        have f0 := ha.k
        have f1 := ha.t
        have f2 := ha.m
        dsimp only at f0 f1 f2
        have HW := Lib.hid HB.out.size
        have hal := below_alloc wr (.cells #[.int .i64 (xk : Int), .bool xt, .bool xm] 60)
        have HB1 := Lib.hid (below_step HB.out hal)
        have HC := Lib.hid (HA.out xk xt xm (wr.alloc (.cells #[.int .i64 (xk : Int), .bool xt, .bool xm] 60)))
        obtain ⟨ys, hys⟩ : ∃ ys, (xs.take k).filter p = ys := ⟨_, rfl⟩
        rw [hys] at HO HT HLE
        have HO1 := Lib.hid (show OR (wr.alloc (.cells #[.int .i64 (xk : Int), .bool xt, .bool xm] 60)) w.heap.size u5 ys from by obtain ⟨L, h1, h2⟩ := HO.out; exact ⟨L, h1.alloc _, h2⟩)
        have hbx : (wr.alloc (.cells #[.int .i64 (xk : Int), .bool xt, .bool xm] 60)).heap[wr.heap.size]? = some (.cells #[.int .i64 (xk : Int), .bool xt, .bool xm] 60 (0, 0)) := heap_alloc_new wr _
        have HBX := Lib.hid hbx
        have hlo : wr.heap.size < (wr.alloc (.cells #[.int .i64 (xk : Int), .bool xt, .bool xm] 60)).heap.size := by simp
        have HLO := Lib.hid hlo
        clear ha hal hbx hlo hys
        by_cases he : p ⟨xk, xt, xm⟩ = true
        · rw [he] at HC
          have HT2 := Lib.hid (show (xs.take (k + 1)).filter p = ys ++ [⟨xk, xt, xm⟩] by rw [HT.out, if_pos he])
          clear he HT
          go_wp2_with fail
          refine HC.out.mono ?_
          rintro e w2 ⟨rfl, hb2⟩
          have HB2 := Lib.hid hb2
          have b0 := (hb2.cell (p := ⟨wr.heap.size, 0, none⟩) HLO.out).trans (show _ = some (.int .i64 (xk : Int)) by simp)
          have b1 := (hb2.cell (p := ⟨wr.heap.size, 1, none⟩) HLO.out).trans (show _ = some (.bool xt) by simp)
          have b2 := (hb2.cell (p := ⟨wr.heap.size, 2, none⟩) HLO.out).trans (show _ = some (.bool xm) by simp)
          obtain ⟨L, hL1, hL2⟩ := HO1.out
          have HL1 := Lib.hid (show w2.ownsRow w.heap.size 60 3 u5 ys.length L from hL1.kept (grownBy_below hb2 none) (Classical.em _))
          have HL2 := Lib.hid hL2
          have HSZ := Lib.hid (show w.heap.size ≤ w2.heap.size from Nat.le_trans HB1.out.size hb2.size)
          obtain ⟨m, hm⟩ : ∃ m, ys.length = m := ⟨_, rfl⟩
          rw [hm] at HL1 HLE
          have HM := Lib.hid hm
          clear hb2 hL1 hL2 hm
          go_wp2_with (at_builtin; go_loud (refine wpList_append_own _ rfl (.tmp 17) (.tmp 19) 58 rfl w.heap.size 60 i0 _ 3 16 Try.underlying58 HI.out HZ.out.1 HZ.out.2.1 HZ.out.2.2 rfl (by decide) u5 m L rfl (HL1.out.alloc _) ⟨w2.heap.size, 0, none⟩ 1 1 [Value.int .i64 (xk : Int), .bool xt, .bool xm] rfl rfl (World.news_of_block (cs := #[.int .i64 (xk : Int), .bool xt, .bool xm]) (t := 60) (fr := (0, 0)) (heap_alloc_new w2 _)) (by intro u hu; simp at hu; rcases hu with rfl | rfl | rfl <;> rfl) (by have := HLE.out; unfold maxLen; omega) (by have := HLE.out; omega) (by have := HSZ.out; simp; omega) ?_; intro v1 w3 hown1 hgrow1 _))
          go_roundg (gk - 1)
          case measure => omega
          case rel =>
            have hb3 : Below w.heap.size w w3 := ((below_step HB1.out HB2.out).alloc (by have := HSZ.out; omega) _).grown hgrow1 (by have := HSZ.out; simp; omega) (fun g h => (HL1.out.lt g h).1)
            refine ⟨k + 1, by omega, by omega, by go_num, ?_, Lib.hid hb3⟩
            rw [HT2.out]
            refine Lib.hid ⟨_, ?_, HL2.out.push ⟨xk, xt, xm⟩⟩
            rw [List.length_append, HM.out]
            exact hown1
        · rw [show p ⟨xk, xt, xm⟩ = false by simpa using he] at HC
          have HT2 := Lib.hid (show (xs.take (k + 1)).filter p = ys by rw [HT.out, if_neg he])
          clear he HT
          go_wp2_with fail
          refine HC.out.mono ?_
          rintro e w2 ⟨rfl, hb2⟩
          have HB2 := Lib.hid hb2
          clear hb2
          go_wp2_with fail
          go_roundg (gk - 1)
          case measure => omega
          case rel =>
            refine ⟨k + 1, by omega, by omega, by go_num, ?_, Lib.hid (below_step HB1.out HB2.out)⟩
            rw [HT2.out]
            obtain ⟨L, hL1, hL2⟩ := HO1.out
            exact Lib.hid ⟨L, hL1.kept (grownBy_below HB2.out none) (Classical.em _), hL2⟩
    · have HF := Lib.hid (show ∃ o' c', u5 = .slice (Ao o') (xs.filter p).length c' ∧ Sl wr o' c' (xs.filter p) ∧ (∀ G, o' = some G → w.heap.size ≤ G) from by
        have := HO.out
        rw [List.take_of_length_le (by rw [← HN.out]; omega)] at this
        exact this.sl)
      obtain ⟨o', c', e5, h5⟩ := HF.out
      subst e5
      have HF2 := Lib.hid (show OnlyE w (xs.filter p) (.returned (.slice (Ao o') (xs.filter p).length c')) wr from ⟨o', c', rfl, h5.1, h5.2, HB.out⟩)
      generalize xs.filter p = ys at *
      clear h5 HF
      go_wp2_with fail
      go_ret
      exact HF2.out

/-- An own row of numbers. -/
def tasksN (xs : List Cl) : List Nat := xs.map (·.task)
theorem tasks_snoc {xs : List Cl} {k : Nat} (hk : k < xs.length) : tasksN (xs.take (k + 1)) = tasksN (xs.take k) ++ [(g xs k).task] := by
  unfold tasksN
  rw [List.take_succ_eq_append_getElem hk, List.map_append, g_get hk]; rfl
set_option maxHeartbeats 4000000 in
theorem each_any (n c : Nat) (o : Option Nat) (xs : List Cl) (w : World) (hn : n = xs.length) (hN : n ≤ 1000000) (h : Sl w o c xs) :
    Calls Try.prog 29 #[.slice (Ao o) n c, .func (.func 30) #[] #[]] w (IntsE w (tasksN xs)) := by
  have HN := Lib.hid hn
  have HS := Lib.hid h
  have hE := e30
  obtain ⟨i0, hi, hz0, hz1, hz2⟩ := info_parts (P := Try.prog) (e := 3) (z := .int .i64 0) (size := 1) (bytes := 8) (by kernel_rfl)
  have HI := Lib.hid hi
  have HZ := Lib.hid (show i0.zero = some (.int .i64 0) ∧ i0.size = 1 ∧ i0.bytes = 8 from ⟨hz0, hz1, hz2⟩)
  unfold Enters at hE
  clear hn h hi hz0 hz1 hz2
  go_enter Try.func29, Try.ntmps29
  go_wp2_with fail
  go_loopg [5, 10] n (fun gk s5 s wr => ∃ k : Nat, k ≤ n ∧ gk + k = n ∧ s = .int .i64 k ∧ Hid (wr.ownsRow w.heap.size 3 1 s5 k ((tasksN (xs.take k)).map Iv)) ∧ Hid (Below w.heap.size w wr))
  case atStart => exact ⟨0, by omega, by omega, rfl, Lib.hid (World.ownsRow_nil _ _ _ _), Lib.hid (Below.refl _ _)⟩
  case round =>
    obtain ⟨k, hk, hgk, rfl, HO, HB⟩ := hrel
    by_cases hlt : k < n
    · cases o with
      | none => exact absurd HS.out.1 (by intro e; have := HN.out; rw [e] at this; simp at this; omega)
      | some G =>
        have ha := (QRow.of_block (w := w) HS.out (HB.out.block _ (QRow.lt (w := w) HS.out))).at_ (i := k) (by rw [← HN.out]; exact hlt)
        have HT := Lib.hid (tasks_snoc (xs := xs) (k := k) (by rw [← HN.out]; exact hlt))
        generalize g xs k = x at *
        obtain ⟨xk, xt, xm⟩ := x
        have f0 := ha.k
        have f1 := ha.t
        have f2 := ha.m
        dsimp only at f0 f1 f2 HT
        have HW := Lib.hid HB.out.size
        have hal := below_alloc wr (.cells #[.int .i64 (xk : Int), .bool xt, .bool xm] 60)
        have HB1 := Lib.hid (below_step HB.out hal)
        have HC := Lib.hid (by_any xk xt xm (wr.alloc (.cells #[.int .i64 (xk : Int), .bool xt, .bool xm] 60)))
        have HO1 := Lib.hid (HO.out.alloc (.cells #[.int .i64 (xk : Int), .bool xt, .bool xm] 60))
        generalize (tasksN (xs.take k)) = ys at *
        clear ha hal
        go_wp2_with (first
          | (go_at_call 30; refine HC.out.mono ?_; rintro e w2 ⟨rfl, hb2⟩; have HB2 := Lib.hid hb2; have HL1 := Lib.hid (HO1.out.kept (grownBy_below hb2 none) (Classical.em _)); have HSZ := Lib.hid (show w.heap.size ≤ w2.heap.size from Nat.le_trans HB1.out.size hb2.size); clear hb2)
          | (at_builtin; refine wpList_append_own _ rfl (.tmp 14) (.tmp 18) 34 rfl w.heap.size 3 i0 _ 1 8 Try.underlying34 HI.out HZ.out.1 HZ.out.2.1 HZ.out.2.2 rfl (by decide) u5 k (ys.map Iv) rfl (HL1.out.alloc _) ⟨w2.heap.size, 0, none⟩ 1 1 [Iv xk] rfl rfl (cell_new1 _ _ _) (by intro u hu; simp at hu; subst hu; rfl) (by unfold maxLen; omega) (by omega) (by have := HSZ.out; simp; omega) ?_; intro v1 w3 hown1 hgrow1 _))
        go_roundg (gk - 1)
        case measure => omega
        case rel =>
          have hb3 : Below w.heap.size w w3 := ((below_step HB1.out HB2.out).alloc (by have := HSZ.out; omega) _).grown hgrow1 (by have := HSZ.out; simp; omega) (fun g h => (HL1.out.lt g h).1)
          refine ⟨k + 1, by omega, by omega, by go_num, ?_, Lib.hid hb3⟩
          rw [HT.out, List.map_append]
          exact Lib.hid hown1
    · have HO2 := Lib.hid (show wr.ownsRow w.heap.size 3 1 u5 n ((tasksN xs).map Iv) from by
        have := HO.out
        rw [List.take_of_length_le (by rw [← HN.out]; omega), show k = n by omega] at this
        exact this)
      obtain ⟨A, cc, rfl⟩ := own_slice HO2.out
      have HF := Lib.hid (show IntsE w (tasksN xs) (.returned (.slice A n cc)) wr from ⟨_, rfl, by rw [show (tasksN xs).length = n by rw [HN.out]; simp [tasksN]]; exact HO2.out, HB.out⟩)
      clear HO HO2
      go_wp2_with fail
      go_ret
      exact HF.out
end Go.Proofs.Ytagkimnmgalejaa.sc
