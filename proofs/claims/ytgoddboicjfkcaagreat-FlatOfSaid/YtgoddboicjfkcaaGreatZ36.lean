/- Part 36 of what is known of the program's functions and of the document's words: contracts, and the mathematics beneath them. -/
import Derived.Test.YtgoddboicjfkcaaGreatProg
import Derived.Test.YtgoddboicjfkcaaGreatZ35
set_option linter.unusedVariables false
set_option linter.unusedSimpArgs false
set_option maxRecDepth 100000
set_option maxHeartbeats 8000000
namespace Go.Proofs.YtgoddboicjfkcaaGreat.pa
open Go.RowKit
def ParseE (w : World) (L : Bs) (e : Ending) (w' : World) : Prop :=
 ∃ A c, e = .returned (.tuple #[.agg #[.slice A (pnames L).length c, .bool (pdirE L)], .int .i64 (perr L)]) ∧ Own w' w.heap.size A c (pnames L) ∧ Below w.heap.size w w'
theorem parseE_no {w w' : World} {L : Bs} {n : Int} (h : perr L = n) (hn : n ≠ 0) (hb : Below w.heap.size w w') :
  ParseE w L (.returned (.tuple #[.agg #[.slice none 0 0, .bool false], .int .i64 n])) w' := by
 subst h
 refine ⟨none, 0, ?_, ?_, hb⟩
 ·rw [pnames_no hn, pdirE_no hn]; rfl
 ·rw [pnames_no hn]
  exact World.ownsRow_nil _ _ _ _
theorem parse_empty (w : World) : Calls Tryz.prog 236 #[.string ⟨#[]⟩] w (ParseE w []) := by
 go_enter Tryz.func236, Tryz.ntmps236
 go_wp2
 exact bodyPost_ret (v := .tuple #[.agg #[.slice none 0 0, .bool false], .int .i64 2]) (by simp [results, Tryz.results236, go_sem]) rfl (parseE_no (by decide) (by decide) ((Below.refl _ _).alloc (Nat.le_refl _) _))
theorem parse_long (s : ByteArray) (w : World) (hs : 400 < s.size) : Calls Tryz.prog 236 #[.string s] w (ParseE w s.data.toList) := by
 have hne : s.toList.isEmpty = false := by
  rw [Lib.toList_data]
  cases h : s.data.toList with
  | nil => rw [Lib.size_eq, h] at hs; simp at hs
  | cons _ _ => rfl
 have HP := Lib.hid (show perr s.data.toList = 36 by
  unfold perr
  rw [Lib.size_eq] at hs
  rw [if_neg (by intro h; rw [h] at hs; simp at hs), if_pos hs])
 go_enter Tryz.func236, Tryz.ntmps236
 go_wp2
 exact bodyPost_ret (v := .tuple #[.agg #[.slice none 0 0, .bool false], .int .i64 36]) (by simp [results, Tryz.results236, go_sem]) rfl (parseE_no HP.out (by decide) ((Below.refl _ _).alloc (Nat.le_refl _) _))
theorem index_no (l : Bs) (c : UInt8) (h : c ∉ l) : Lib.indexByte l c = -1 := by
 induction l with
 | nil => rfl
 | cons b l ih =>
  rw [List.mem_cons, not_or] at h
  have hb : (b == c) = false := by rw [beq_eq_false_iff_ne]; exact fun e => h.1 e.symm
  simp [Lib.indexByte, hb, ih h.2]
theorem index_yes (l : Bs) (c : UInt8) (h : c ∈ l) : 0 ≤ Lib.indexByte l c := by
 induction l with
 | nil => simp at h
 | cons b l ih =>
  by_cases hb : b = c
  ·simp [Lib.indexByte, hb]
  ·have hb' : (b == c) = false := by rw [beq_eq_false_iff_ne]; exact hb
   have := ih (by rcases List.mem_cons.1 h with h | h; exact absurd h.symm hb; exact h)
   have h2 : ¬ (Lib.indexByte l c = -1) := by omega
   simp [Lib.indexByte, hb', h2]
   omega
theorem nul_no (s : ByteArray) (w : World) (h : (0 : UInt8) ∉ s.data.toList) : Calls Tryz.prog 244 #[.string s, .int .u8 0] w fun e w' => e = .returned (.int .i64 (-1)) ∧ w = w' :=
 (Tryz.strings_IndexByte s 0 w).mono fun e w' ⟨he, hw⟩ => ⟨by rw [he, show (Int.toNat 0).toUInt8 = 0 from rfl, index_no _ _ h], hw.symm⟩
def NulYes (w : World) (e : Ending) (w' : World) : Prop := ∃ n : Int, 0 ≤ n ∧ e = .returned (.int .i64 n) ∧ w = w'
theorem nul_yes (s : ByteArray) (w : World) (h : (0 : UInt8) ∈ s.data.toList) : Calls Tryz.prog 244 #[.string s, .int .u8 0] w (NulYes w) :=
 (Tryz.strings_IndexByte s 0 w).mono fun e w' ⟨he, hw⟩ => ⟨_, index_yes _ _ h, by rw [he]; rfl, hw.symm⟩
theorem notEmpty {s : ByteArray} (h : s.data.toList ≠ []) : s.toList.isEmpty = false := by
 rw [Lib.toList_data]
 cases h' : s.data.toList with
 | nil => exact absurd h' h
 | cons _ _ => rfl
theorem parse_nul (s : ByteArray) (w : World) (h0 : s.data.toList ≠ []) (hs : s.size ≤ 400) (h : (0 : UInt8) ∈ s.data.toList) : Calls Tryz.prog 236 #[.string s] w (ParseE w s.data.toList) := by
 have hne := notEmpty h0
 have HP := Lib.hid (show perr s.data.toList = 22 by
  unfold perr
  rw [Lib.size_eq] at hs
  rw [if_neg h0, if_neg (by omega), if_pos h])
 have HN := fun w => nul_yes s w h
 clear h h0
 go_enter Tryz.func236, Tryz.ntmps236
 go_wp2_with (go_at_call 244; refine (HN _).mono ?_; rintro e w' ⟨n, hn, rfl, rfl⟩)
 exact bodyPost_ret (v := .tuple #[.agg #[.slice none 0 0, .bool false], .int .i64 22]) (by simp [results, Tryz.results236, go_sem]) rfl (parseE_no HP.out (by decide) ((Below.refl _ _).alloc (Nat.le_refl _) _))
theorem gath_take (xs : List Bs) (k : Nat) (x : Bs) (h : xs[k]? = some x) : gath (xs.take (k + 1)) = gath (xs.take k) ++ if x = [46] then [] else [x] := by
 obtain ⟨hk, rfl⟩ := List.getElem?_eq_some_iff.1 h
 rw [List.take_succ_eq_append_getElem hk, gath_snoc]
theorem parse_main (s : ByteArray) (w : World) (h0 : s.data.toList ≠ []) (hs : s.size ≤ 400) (h : (0 : UInt8) ∉ s.data.toList) : Calls Tryz.prog 236 #[.string s] w (ParseE w s.data.toList) := by
 obtain ⟨i0, hi, hz0, hz1, hz2⟩ := info_parts info9
 have hne := notEmpty h0
 have HN := fun w => nul_no s w h
 have hcnt : (comps s.data.toList).length ≤ 400 := by have := comps_count s.data.toList; rw [← Lib.size_eq] at this; omega
 have HE := fun A n c B w hn hS => ends_any s A n c (comps s.data.toList) B w hn hs hcnt hS
 have HC := components_any s (w.alloc (.cells #[.slice none 0 0, .bool false] 292)) hs
 have H0 := Lib.hid (And.intro h0 h)
 clear h h0
 generalize hx : comps s.data.toList = xs at *
 have HX := Lib.hid hx
 clear hx
 go_enter Tryz.func236, Tryz.ntmps236
 go_wp2_with (first
  | (go_at_call 244; refine (HN _).mono ?_; rintro e w' ⟨rfl, rfl⟩)
  | (go_at_call 248; refine HC.mono ?_; rintro e w1 ⟨A, c, rfl, hown, hb⟩))
 have hxs : Strs w1 w1.heap.size A xs := hown.strs
 have sz1 : w.heap.size + 1 ≤ w1.heap.size := by have := hb.size; simpa using this
 have hb1 : Below w.heap.size w w1 := ((Below.refl _ _).alloc (Nat.le_refl _) _).trans (hb.mono (by simp))
 have r0 : w1.cell? ⟨w.heap.size, 0, none⟩ = some (.slice none 0 0) := by rw [hb.cell (p := ⟨w.heap.size, 0, none⟩) (by simp)]; simp
 have r1 : w1.cell? ⟨w.heap.size, 1, none⟩ = some (.bool false) := by rw [hb.cell (p := ⟨w.heap.size, 1, none⟩) (by simp)]; simp
 have f0 : w1.frozen? ⟨w.heap.size, 0, none⟩ = false := by rw [hb.frozen (p := ⟨w.heap.size, 0, none⟩) (by simp)]; simp
 have f1 : w1.frozen? ⟨w.heap.size, 1, none⟩ = false := by rw [hb.frozen (p := ⟨w.heap.size, 1, none⟩) (by simp)]; simp
 clear hb
 go_loopg [5, 26] xs.length (fun g v i wr => ∃ k : Nat, k ≤ xs.length ∧ g + k = xs.length ∧ i = .int .i64 k ∧ Hid (∀ x ∈ xs.take k, x.length ≤ 60) ∧
  wr.ownsRow w1.heap.size 9 1 v (gath (xs.take k)).length ((gath (xs.take k)).map Sv) ∧ Below w1.heap.size w1 wr)
 case atStart => exact ⟨0, by omega, by omega, rfl, (by show ∀ _, _; simp), World.ownsRow_nil _ _ _ _, Below.refl _ _⟩
 case round =>
  obtain ⟨k, hk, hg, rfl, HA, hrow, hbr⟩ := hrel
  have szr : w.heap.size + 1 ≤ wr.heap.size := by have := hbr.size; omega
  have R0 : wr.cell? ⟨w.heap.size, 0, none⟩ = some (.slice none 0 0) := (hbr.cell (p := ⟨w.heap.size, 0, none⟩) (by simp; omega)).trans r0
  have R1 : wr.cell? ⟨w.heap.size, 1, none⟩ = some (.bool false) := (hbr.cell (p := ⟨w.heap.size, 1, none⟩) (by simp; omega)).trans r1
  have F0 : wr.frozen? ⟨w.heap.size, 0, none⟩ = false := (hbr.frozen (p := ⟨w.heap.size, 0, none⟩) (by simp; omega)).trans f0
  have F1 : wr.frozen? ⟨w.heap.size, 1, none⟩ = false := (hbr.frozen (p := ⟨w.heap.size, 1, none⟩) (by simp; omega)).trans f1
  by_cases hlt : k < xs.length
  ·obtain ⟨ad, x, rfl, hab, hx, hcell⟩ := hxs.get hlt
   have hcr : wr.cell? (ad.add k) = some (Sv x) := (hbr.cell (p := ad.add k) (by rw [addr_block]; exact hab)).trans hcell
   have HG := Lib.hid (gath_take xs k x hx)
   have hgl : (gath (xs.take k)).length ≤ k := by have := gath_le (xs.take k); rw [List.length_take] at this; omega
   have HM := Lib.hid (List.mem_of_getElem? hx)
   have HT := Lib.hid (show xs.take (k + 1) = xs.take k ++ [x] by
    obtain ⟨hk', rfl⟩ := List.getElem?_eq_some_iff.1 hx
    exact List.take_succ_eq_append_getElem hk')
   clear hcell hx
   by_cases h60 : 60 < x.length
   ·have HP := Lib.hid (show perr s.data.toList = 36 by
     unfold perr
     rw [if_neg H0.out.1, if_neg (by rw [← Lib.size_eq]; omega), if_neg H0.out.2, if_pos ⟨x, by rw [HX.out]; exact HM.out, h60⟩])
    go_wp2
    exact bodyPost_ret (v := .tuple #[.agg #[.slice none 0 0, .bool false], .int .i64 36]) (by simp [results, Tryz.results236, go_sem, *]) rfl (parseE_no HP.out (by decide) (((hb1.trans (hbr.mono (by omega))).setCell (Nat.le_refl _) _).setCell (Nat.le_refl _) _))
   ·have HA' : Hid (∀ x ∈ xs.take (k + 1), x.length ≤ 60) := by
     show ∀ _, _
     rw [HT.out]
     intro y hy
     rcases List.mem_append.1 hy with hy | hy
     ·exact HA.out y hy
     ·simp at hy; subst hy; omega
    by_cases hd : x = [46]
    ·subst hd
     go_wp2
     go_roundg (gk - 1)
     case measure => omega
     case rel => exact ⟨k + 1, by omega, by omega, by go_num, HA', by rw [HG.out]; simpa using hrow, hbr⟩
    ·have hdB : (!x == [46]) = true := by simp [hd]
     have HG' := Lib.hid (show gath (xs.take (k + 1)) = gath (xs.take k) ++ [x] by rw [HG.out, if_neg hd])
     clear hd
     go_wp2_with (at_builtin; go_must (refine wpList_append_own _ rfl (.tmp 36) (.tmp 38) 43 rfl w1.heap.size 9 i0 _ 1 16 Tryz.underlying43 hi hz0 hz1 hz2 rfl (by decide) u5 (gath (xs.take k)).length ((gath (xs.take k)).map Sv) rfl (hrow.alloc _) ⟨wr.heap.size, 0, none⟩ 1 1 [Sv x] rfl rfl (cell_one_new _ _ _) (by intro u hu; simp at hu; subst hu; rfl) (by unfold maxLen; omega) (by omega) (by have := hbr.size; simp; omega) ?_); intro v1 w2 hown1 hgrow1 _)
     go_roundg (gk - 1)
     case measure => omega
     case rel =>
      refine ⟨k + 1, by omega, by omega, by go_num, HA', ?_, ?_⟩
      ·rw [HG'.out]; simpa using hown1
      ·exact (hbr.alloc hbr.size _).grown hgrow1 (by have := hbr.size; simp; omega) (fun g hg' => (hrow.lt g hg').1)
  ·have HK := Lib.hid (show xs.take k = xs by rw [List.take_of_length_le (by omega)])
   have hkl : ¬ ((k : Int) < (xs.length : Int)) := by omega
   have hgl : (gath (xs.take k)).length ≤ k := by have := gath_le (xs.take k); rw [List.length_take] at this; omega
   clear hlt
   have HN40 := Lib.hid (show nms s.data.toList = gath (xs.take k) by rw [← gath_comps, HX.out, HK.out])
   obtain ⟨A2, c2, rfl, hown2, hn2⟩ := own_form hrow
   clear hn2
   by_cases h40 : 40 < (gath (xs.take k)).length
   ·have HP := Lib.hid (show perr s.data.toList = 36 by
     unfold perr
     rw [if_neg H0.out.1, if_neg (by rw [← Lib.size_eq]; omega), if_neg H0.out.2, if_neg (by
      rintro ⟨x, hx, hl⟩
      have := HA.out x (by rw [HK.out, ← HX.out]; exact hx)
      omega), if_pos (by rw [HN40.out]; exact h40)])
    go_wp2
    exact bodyPost_ret (v := .tuple #[.agg #[.slice none 0 0, .bool false], .int .i64 36]) (by simp [results, Tryz.results236, go_sem, *]) rfl (parseE_no HP.out (by decide) (((hb1.trans (hbr.mono (by omega))).setCell (Nat.le_refl _) _).setCell (Nat.le_refl _) _))
   ·have HP := Lib.hid (show perr s.data.toList = 0 by
     rw [perr_zero]
     exact ⟨H0.out.1, by rw [← Lib.size_eq]; omega, H0.out.2, fun x hx => HA.out x (by rw [HK.out, ← HX.out]; exact hx), by rw [HN40.out]; omega⟩)
    go_wp2_with (go_at_call 249; refine (HE _ _ _ _ _ rfl (hxs.below hbr)).mono ?_; rintro e w' ⟨rfl, rfl⟩)
    refine bodyPost_ret (v := .tuple #[.agg #[.slice A2 (gath (xs.take k)).length c2, .bool (endB s.data.toList xs)], .int .i64 0]) (by simp [results, Tryz.results236, go_sem, *]) rfl ?_
    have e1 : pnames s.data.toList = gath (xs.take k) := by rw [pnames_ok HP.out, HN40.out]
    have e2 : pdirE s.data.toList = endB s.data.toList xs := by rw [pdirE_ok HP.out, pdir, HX.out]; rfl
    refine ⟨A2, c2, ?_, ?_, ?_⟩
    ·rw [e1, e2, HP.out]
    ·rw [e1]
     exact ((hown2.set (by simp; omega) _).set (by simp; omega) _).base (by omega)
    ·exact ((hb1.trans (hbr.mono (by omega))).setCell (Nat.le_refl _) _).setCell (Nat.le_refl _) _
theorem parse_any (s : ByteArray) (w : World) : Calls Tryz.prog 236 #[.string s] w (ParseE w s.data.toList) := by
 by_cases h0 : s.data.toList = []
 ·have e : s = ⟨#[]⟩ := by rw [← Lib.mk_data s, h0]
  subst e
  exact parse_empty w
 ·by_cases hs : 400 < s.size
  ·exact parse_long s w hs
  ·by_cases h : (0 : UInt8) ∈ s.data.toList
   ·exact parse_nul s w h0 (by omega) h
   ·exact parse_main s w h0 (by omega) h
end Go.Proofs.YtgoddboicjfkcaaGreat.pa
