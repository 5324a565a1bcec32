/- The document's own 'Del'. -/
import Derived.Test.YtlelnpckbcpkkaaGreatDnRGet
import Derived.Test.YtlelnpckbcpkkaaGreatZb
namespace Go.Proofs.YtlelnpckbcpkkaaGreat.dn
open Go.RowKit Go.Shelf
set_option linter.unusedVariables false


theorem below_grown_far {w w1 w2 : World} {B : Nat} (h : Below w.heap.size w w1) (hg : w1.grownBy w2 (some B)) (hB : w.heap.size ≤ B) : Below w.heap.size w w2 :=
  h.trans ⟨hg.os, hg.tape, hg.output, hg.size, fun k hk => hg.block k (by have := h.size; omega) (fun e => by injection e with e; omega)⟩

theorem lo_next {lo gg g2 k cap M : Nat} (hlo : lo ≤ gg) (hM : lo ≤ M) (hat : (Value.slice (some ⟨gg, 0, none⟩) k cap).ownBlock = some g2 ∨ g2 = M) : lo ≤ g2 := by
  rcases hat with e | e
  · have h : gg = g2 := by simpa [Value.ownBlock] using e
    rw [← h]; exact hlo
  · rw [e]; exact hM
theorem app_owns {w w' : World} {gg cap k : Nat} {K : List En} (h : ERow w gg cap K) (hk : k = K.length) (hb : Below w.heap.size w w') : w'.ownsRow 0 59 2 (.slice (some ⟨gg, 0, none⟩) k cap) k (encL K) := by
  subst hk
  exact (h.of_block (hb.block gg h.lt)).owns (Nat.zero_le _)
theorem app_row {w : World} {gg cap k : Nat} {K : List En} {x : En} (h : w.ownsRow 0 59 2 (.slice (some ⟨gg, 0, none⟩) (k + 1) cap) (k + 1) (encL K ++ encL [x])) (hk : k = K.length) : ERow w gg cap (K ++ [x]) := by
  rw [← encL_append] at h
  exact (ERow.of_owns h (by simp [hk])).1
theorem row_new (w : World) : ERow (w.alloc (.cells #[] 59)) w.heap.size 0 [] := ⟨Nat.le_refl _, by unfold maxLen; omega, [], heap_alloc_new w _, rfl, rfl⟩
/-- A new row laid into the directory's box. -/
theorem Du.laid {w w4 : World} {D lo c gg cap n : Nat} {o : Option Nat} {L K : List En} {vv : Value} (h : Du w D lo o c L) (hlo : lo ≤ w.heap.size) (hb : Below w.heap.size w w4) (hg : w.heap.size ≤ gg) (hr : ERow w4 gg cap K) (hK : n = K.length) :
    w4.cell? ⟨D, 0, none⟩ = some (.slice (Ao o) L.length c) ∧ w4.frozen? ⟨D, 0, none⟩ = false ∧ StepE w D lo o vv K (.returned vv) (w4.setCell ⟨D, 0, none⟩ (.slice (some ⟨gg, 0, none⟩) n cap)) := by
  subst hK
  have hD := h.lt
  have h4 := h.below hb
  have hDG : D ≠ gg := by omega
  refine ⟨h4.d0, h4.f0, rfl, some gg, cap, ⟨?_, by simpa using h4.f0, Nat.le_trans hlo hg, hDG, hr.of_block (Below.heap_setCell _ _ _ _ (fun e => hDG (by simpa using e.symm)))⟩, fun G e => by injection e with e; subst e; exact .inr hg, (Fr.below hb).trans (Fr.setQ w4 D o _) (fun k e => .inl e)⟩
  rw [World.cell?_setCell_same _ _ _ h4.d0]; rfl
theorem ldel_take {L : List En} {s : ByteArray} {k : Nat} {x : En} (hx : L[k]? = some x) : ldel s (L.take (k + 1)) = ldel s (L.take k) ++ if x.1 = s then [] else [x] := by
  unfold ldel
  rw [List.take_add_one, hx, List.filter_append]
  by_cases h : x.1 = s <;> simp [h]

set_option maxRecDepth 100000 in
set_option maxHeartbeats 4000000 in
theorem rdel_any (D lo c : Nat) (o : Option Nat) (L : List En) (s : ByteArray) (w : World) (hlo : lo ≤ w.heap.size) (hN : L.length ≤ 900000) (h : Du w D lo o c L) :
    Calls Tryz.prog 98 #[Pq D, .string s] w (StepE w D lo o (getV s L) (ldel s L)) := by
  obtain ⟨i0, hi, hz0, hz1, hz2⟩ := info_parts info37
  have HG := Lib.hid (rget_any D lo c o L s w (by omega) h)
  have hD := h.lt
  have d00 := h.d0
  have HH := Lib.hid h
  obtain ⟨v1, v2, hv⟩ : ∃ v1 v2, getV s L = .tuple #[.int .i64 v1, .int .i64 v2] := by unfold getV; cases lget s L <;> exact ⟨_, _, rfl⟩
  rw [hv] at HG ⊢
  have HST := Lib.hid (fun (w4 : World) (gg cap m : Nat) hb hg hr (hm : m = (ldel s L).length) => Du.laid (w4 := w4) (gg := gg) (cap := cap) (K := ldel s L) (vv := .tuple #[.int .i64 v1, .int .i64 v2]) h hlo hb hg hr hm)
  have hE0 := Lib.hid (row_new w)
  have HB0 := Lib.hid (below_alloc w (.cells #[] 59))
  generalize hn : L.length = n at *
  have HN2 := Lib.hid hn
  have HLO := Lib.hid hlo
  clear hn h hv hlo
  go_enter Tryz.func98, Tryz.ntmps98
  go_wp2_with fail
  refine HG.out.mono ?_
  rintro e w2 ⟨rfl, hw2⟩
  subst hw2
  clear HG
  go_wp2_with fail
  go_loopg [8, 9] n (fun g s8 s9 wr => ∃ (k m gg cap : Nat), g + k = n ∧ s9 = .int .i64 k ∧ s8 = .slice (some ⟨gg, 0, none⟩) m cap ∧ m ≤ k ∧ w2.heap.size ≤ gg ∧ Hid (m = (ldel s (L.take k)).length) ∧ Hid (ERow wr gg cap (ldel s (L.take k))) ∧ Hid (Below w2.heap.size w2 wr))
  case atStart => exact ⟨0, 0, w2.heap.size, 0, by omega, rfl, rfl, Nat.le_refl _, Nat.le_refl _, Lib.hid rfl, hE0, HB0⟩
  case round =>
    clear hE0 HB0 d00
    obtain ⟨k, m, gg, cap, hgk, rfl, rfl, hmk, hlg, HM, HE, HB⟩ := hrel
    have HDr := Lib.hid (HH.out.below HB.out)
    have d0 := HDr.out.d0
    rw [HN2.out] at d0
    by_cases hkn : k < n
    · have hx : L[k]? = some (L[k]'(by rw [HN2.out]; exact hkn)) := List.getElem?_eq_getElem _
      obtain ⟨G, rfl, f0, f1⟩ := HDr.out.at_ hx
      generalize L[k]'(by rw [HN2.out]; exact hkn) = x at *
      have HT := Lib.hid (ldel_take (s := s) hx)
      by_cases hs : x.1 = s
      · have HT2 := Lib.hid (show ldel s (L.take (k + 1)) = ldel s (L.take k) by rw [HT.out, if_pos hs, List.append_nil])
        have hq : (x.1.toList == s.toList) = true := by rw [beq_names]; exact decide_eq_true hs
        obtain ⟨xs, xv⟩ := x
        dsimp only at f0 f1 hq
        clear hx hs HT HST
        go_wp2_with fail
        go_roundg (gk - 1)
        case measure => omega
        case rel => exact ⟨k + 1, m, gg, cap, by omega, by go_num, rfl, by omega, hlg, Lib.hid (by rw [HT2.out]; exact HM.out), Lib.hid (by rw [HT2.out]; exact HE.out), HB⟩
      · have HT2 := Lib.hid (show ldel s (L.take (k + 1)) = ldel s (L.take k) ++ [x] by rw [HT.out, if_neg hs])
        have hq : (x.1.toList == s.toList) = false := by rw [beq_names]; exact decide_eq_false hs
        obtain ⟨xs, xv⟩ := x
        dsimp only at f0 f1 hq
        have HO := Lib.hid (app_owns HE.out HM.out (below_alloc wr (.cells #[.string xs, .int .i64 xv] 59)))
        have HX := Lib.hid (cells_of_box (x := (xs, xv)) (heap_alloc_new wr (.cells #[.string xs, .int .i64 xv] 59)))
        have H1 := Lib.hid (encL_one [(xs, xv)])
        have HBA := Lib.hid (below_step HB.out (below_alloc wr (.cells #[.string xs, .int .i64 xv] 59)))
        clear hx hs HT HST
        go_wp2_with (at_builtin; refine wpList_append_lies _ (by rfl) _ _ _ (by rfl) 0 59 i0 _ 2 24 Tryz.underlying44 hi hz0 hz1 hz2 (by rfl) (by decide) _ _ _ (by rfl) HO.out ⟨wr.heap.size, 0, none⟩ 1 1 (encL [(xs, xv)]) (by rfl) (by rfl) HX.out H1.out (by omega) (by unfold maxLen; omega) (by omega) (Nat.zero_le _) _ rfl ?_; intro g2 cap2 w10 hown1 hgrow hat hlt3)
        have HE2 := Lib.hid (app_row hown1 HM.out)
        have HB2 := Lib.hid (below_grown_far HBA.out hgrow hlg)
        have hg2 := lo_next hlg HBA.out.size hat
        clear hown1 hgrow hat hlt3
        go_wp2_with fail
        go_roundg (gk - 1)
        case measure => omega
        case rel => exact ⟨k + 1, m + 1, g2, cap2, by omega, by go_num, rfl, by omega, hg2, Lib.hid (by rw [HT2.out, List.length_append, HM.out]; rfl), Lib.hid (by rw [HT2.out]; exact HE2.out), HB2⟩
    · have hte : L.take k = L := List.take_of_length_le (by rw [HN2.out]; omega)
      rw [hte] at HM HE
      obtain ⟨c0, c1, hst⟩ := HST.out wr gg cap m HB.out hlg HE.out HM.out
      have HR := Lib.hid hst
      have hjn : ¬ ((k : Int) < (n : Int)) := by omega
      clear hkn HST hst hte HM HE
      go_wp2_with fail
      go_ret2
      exact HR.out
end Go.Proofs.YtlelnpckbcpkkaaGreat.dn
