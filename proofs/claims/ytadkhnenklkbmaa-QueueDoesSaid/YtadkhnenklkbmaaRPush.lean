/- The document's 'Push' by definition. -/
import Derived.Test.YtadkhnenklkbmaaRef
import Derived.Deep.AppendLies
namespace Go.Proofs.Ytadkhnenklkbmaa
open Go.RowKit
set_option linter.unusedVariables false

theorem info55 : (Try.prog.info? 55).map (fun i => (i.zero, i.size, i.bytes)) = some (some (.agg #[.int .i64 0, .int .i64 0]), 2, 16) := by kernel_rfl
/-- Behind a call that has given the document's queue a new list. -/
def RStep (w : World) (R lo : Nat) (v : Value) (L : List KN) (e : Ending) (w' : World) : Prop :=
  e = .returned v ∧ RQ w' R lo L ∧ Fr w w' R none ∧ (RQ w' R w.heap.size L ∨ w'.cell? ⟨R, 0, none⟩ = w.cell? ⟨R, 0, none⟩)
theorem own_lit (w : World) (B : Nat) (hB : B ≤ w.heap.size) : (w.alloc (.cells #[] 55)).ownsRow B 55 2 (.slice (some ⟨w.heap.size, 0, none⟩) 0 0) 0 (cellsK []) := World.ownsRow_made w #[] 0 hB (by unfold maxLen; omega) rfl
theorem own_base {w : World} {B B' : Nat} {e : TypeId} {size : Nat} {v : Value} {n : Nat} {xs : List Value} (h : w.ownsRow B e size v n xs) (hB : B' ≤ B) : w.ownsRow B' e size v n xs := by
  refine ⟨h.1, ?_⟩
  rcases h.2 with h2 | ⟨g, cap, cur, hv, hb, r⟩
  · exact .inl h2
  · exact .inr ⟨g, cap, cur, hv, by omega, r⟩
theorem rstep_of {w w1 : World} {R lo n : Nat} {L M : List KN} {u v : Value} (h : RQ w R lo L) (hlo : lo ≤ w.heap.size) (hb : Below w.heap.size w w1) (hown : w1.ownsRow w.heap.size 55 2 v n (cellsK M)) (hn : n = M.length) :
    RStep w R lo u M (.returned u) (w1.setCell ⟨R, 0, none⟩ v) := by
  subst hn
  have hR := h.lt
  obtain ⟨v0, h0, h1, _, _⟩ := h
  have hblk := hb.block R hR
  have hmk : ∀ lo', lo' ≤ w.heap.size → RQ (w1.setCell ⟨R, 0, none⟩ v) R lo' M := fun lo' hlo' => by
    refine ⟨v, World.cell?_setCell_same _ _ _ ((World.cell?_of_block hblk).trans h0), by simpa using (World.frozen?_of_block (a := ⟨R, 0, none⟩) hblk).trans h1, ?_, ?_⟩
    · exact own_base (ownsRow_setCell_below hown (a := ⟨R, 0, none⟩) hR v) hlo'
    · intro e
      have := (hown.lt R e).1
      omega
  refine ⟨rfl, hmk lo hlo, ?_, .inl (hmk _ (Nat.le_refl _))⟩
  · exact ⟨hb.os, hb.tape, hb.output, by have := hb.size; simpa [World.setCell] using this, fun k hk hk2 _ => by rw [Below.heap_setCell _ _ _ _ (fun e => hk2 e)]; exact hb.block k hk⟩
theorem rframe {w w1 : World} {R lo : Nat} {L : List KN} (h : RQ w R lo L) (hb : Below w.heap.size w w1) : w1.cell? ⟨R, 0, none⟩ = w.cell? ⟨R, 0, none⟩ ∧ w1.frozen? ⟨R, 0, none⟩ = w.frozen? ⟨R, 0, none⟩ :=
  ⟨hb.cell (p := ⟨R, 0, none⟩) h.lt, hb.frozen (p := ⟨R, 0, none⟩) h.lt⟩
theorem RQ.fz {w : World} {R lo : Nat} {L : List KN} (h : RQ w R lo L) : w.frozen? ⟨R, 0, none⟩ = false := by obtain ⟨v, _, h1, _⟩ := h; exact h1
theorem news2 (W : World) (a b : Int) : ∀ j u, (ck (a, b))[j]? = some u → (W.alloc (.cells #[.int .i64 a, .int .i64 b] 55)).cell? ((⟨W.heap.size, 0, none⟩ : Addr).add j) = some u :=
  World.news_of_block (cs := #[.int .i64 a, .int .i64 b]) (t := 55) (fr := (0, 0)) (heap_alloc_new W _)

theorem own_snoc {w3 : World} {B ml : Nat} {v : Value} {M : List KN} {a b : Int} (h : w3.ownsRow B 55 2 v (ml + 1) (cellsK M ++ ck (a, b))) (hm : M.length = ml) : w3.ownsRow B 55 2 v (M ++ [(a, b)]).length (cellsK (M ++ [(a, b)])) := by
  rw [cellsK_app, List.length_append, hm]
  simpa [cellsK] using h
theorem own_slice {w : World} {B n : Nat} {e : TypeId} {size : Nat} {v : Value} {xs : List Value} (h : w.ownsRow B e size v n xs) : ∃ A c, v = .slice A n c := by
  rcases h.2 with ⟨e, h0⟩ | ⟨g, cap, cur, hv, _⟩
  · exact ⟨none, 0, by rw [e, h0]⟩
  · exact ⟨_, cap, hv⟩
theorem below_app {w wr w3 : World} {o : Obj} {v : Value} {n : Nat} {xs : List Value} (hb : Below w.heap.size w wr) (ho : wr.ownsRow w.heap.size 55 2 v n xs) (hg : (wr.alloc o).grownBy w3 v.ownBlock) : Below w.heap.size w w3 :=
  (hb.alloc hb.size o).grown hg (by have := hb.size; simp; omega) (fun g h => (ho.lt g h).1)

set_option maxHeartbeats 4000000 in
set_option maxRecDepth 100000 in
theorem rpush_any (R lo : Nat) (L : List KN) (xk xn : Int) (w : World) (hlo : lo ≤ w.heap.size) (hN : L.length ≤ 900000) (h : RQ w R lo L) :
    Calls Try.prog 11 #[.pointer (some ⟨R, 0, none⟩), .int .i64 xk, .int .i64 xn] w (RStep w R lo (.tuple #[]) (ins (xk, xn) L)) := by
  obtain ⟨i0, hi, hz0, hz1, hz2⟩ := info_parts info55
  obtain ⟨A, c, q0, hg, _, _⟩ := h.get
  have HG := Lib.hid hg
  have HQ := Lib.hid h
  have hR := h.lt
  have HRF := Lib.hid (fun w1 hb => rframe (w1 := w1) h hb)
  have HST := Lib.hid (fun w1 M v n hb hown hn => rstep_of (w1 := w1) (M := M) (v := v) (n := n) (u := .tuple #[]) h hlo hb hown hn)
  have hfz := h.fz
  have hlit := own_lit w w.heap.size (Nat.le_refl _)
  have HLIT := Lib.hid hlit
  obtain ⟨n, hn⟩ : ∃ n, L.length = n := ⟨_, rfl⟩
  have HN := Lib.hid hn
  rw [hn] at q0 hN
  clear hg h hlo hlit hn
  go_enter Try.func11, Try.ntmps11
  go_wp2_with fail
  go_loopg [6, 7, 8] n (fun g v d i wr => ∃ (k : Nat) (b : Bool) (M : List KN), k ≤ n ∧ g + k = n ∧ d = .bool b ∧ i = .int .i64 k ∧ Hid (PM (xk, xn) L k b M) ∧ Hid (wr.ownsRow w.heap.size 55 2 v M.length (cellsK M)) ∧ Hid (Below w.heap.size w wr))
  case atStart => exact ⟨0, false, [], by omega, by omega, rfl, rfl, Lib.hid (by simp [PM]), HLIT, Lib.hid (below_alloc _ _)⟩
  case round =>
    obtain ⟨k, b, M, hk, hgk, rfl, rfl, HM, HO, HB⟩ := hrel
    have c0 := (HRF.out wr HB.out).1.trans q0
    have hml : M.length ≤ n + 1 := by have := HM.out.len; have := HN.out; omega
    obtain ⟨ml, hmle⟩ : ∃ ml, M.length = ml := ⟨_, rfl⟩
    have HML := Lib.hid hmle
    rw [hmle] at hml HO
    clear hmle
    have hsz := HB.out.size
    by_cases hlt : k < n
    · obtain ⟨y, hy⟩ : ∃ y, L[k]? = some y := ⟨L[k]'(by have := HN.out; omega), List.getElem?_eq_getElem _⟩
      obtain ⟨rb, rfl, hrb, r0, r1⟩ := HG.out k y hy
      have HDONE := Lib.hid (fun h : PM (xk, xn) L k true M => h.done hy)
      have HPUT := Lib.hid (fun (h : PM (xk, xn) L k false M) hx => h.put hy hx)
      have HWAIT := Lib.hid (fun (h : PM (xk, xn) L k false M) hx => h.wait hy hx)
      obtain ⟨yk, yn⟩ := y
      have e0 := (HB.out.cell (p := ⟨rb, k * 2, none⟩) hrb).trans r0
      have e1 := (HB.out.cell (p := ⟨rb, k * 2 + 1, none⟩) hrb).trans r1
      dsimp only at e0 e1 HPUT HWAIT
      clear hy
      have g0 := fun o => ((below_alloc wr o).cell (p := ⟨rb, k * 2, none⟩) (Nat.lt_of_lt_of_le hrb HB.out.size)).trans e0
      cases b with
      | true =>
        go_wp2_with (at_builtin; refine wpList_append_own _ rfl (.tmp 39) (.tmp 47) 27 rfl w.heap.size 55 i0 _ 2 16 Try.underlying27 hi hz0 hz1 hz2 rfl (by decide) _ ml (cellsK M) rfl (HO.out.alloc _) ⟨wr.heap.size, 0, none⟩ 1 1 (ck (yk, yn)) rfl rfl (news2 _ _ _) (by intro u hu; simp [ck] at hu; rcases hu with rfl | rfl <;> rfl) (by unfold maxLen; omega) (by omega) (by simp; omega) ?_; intro v1 w3 hown1 hgrow1 _)
        go_roundg (gk - 1)
        case measure => omega
        case rel => exact ⟨k + 1, true, M ++ [(yk, yn)], by omega, by omega, rfl, by go_num, Lib.hid (HDONE.out HM.out), Lib.hid (own_snoc hown1 HML.out), Lib.hid (below_app HB.out HO.out hgrow1)⟩
      | false =>
        by_cases hx : xk < yk
        · go_wp2_with (first | (at_builtin; refine wpList_append_own _ rfl (.tmp 33) (.tmp 37) 27 rfl w.heap.size 55 i0 _ 2 16 Try.underlying27 hi hz0 hz1 hz2 rfl (by decide) _ ml (cellsK M) rfl (HO.out.alloc _) ⟨wr.heap.size, 0, none⟩ 1 1 (ck (xk, xn)) rfl rfl (news2 _ _ _) (by intro u hu; simp [ck] at hu; rcases hu with rfl | rfl <;> rfl) (by unfold maxLen; omega) (by omega) (by simp; omega) ?_; intro v1 w3 hown1 hgrow1 _; have HO1 := Lib.hid (own_snoc hown1 HML.out); have HB1 := Lib.hid (below_app HB.out HO.out hgrow1); rw [List.length_append, List.length_singleton, HML.out] at HO1; have c1 := (HRF.out w3 HB1.out).1.trans q0; have e2 := (HB1.out.cell (p := ⟨rb, k * 2, none⟩) hrb).trans r0; have e3 := (HB1.out.cell (p := ⟨rb, k * 2 + 1, none⟩) hrb).trans r1; have hs3 := HB1.out.size; clear hown1 hgrow1) | (at_builtin; refine wpList_append_own _ rfl (.tmp 39) (.tmp 47) 27 rfl w.heap.size 55 i0 _ 2 16 Try.underlying27 hi hz0 hz1 hz2 rfl (by decide) _ (ml + 1) (cellsK (M ++ [(xk, xn)])) rfl (HO1.out.alloc _) ⟨w3.heap.size, 0, none⟩ 1 1 (ck (yk, yn)) rfl rfl (news2 _ _ _) (by intro u hu; simp [ck] at hu; rcases hu with rfl | rfl <;> rfl) (by unfold maxLen; omega) (by omega) (by simp; omega) ?_; intro v2 w4 hown2 hgrow2 _))
          go_roundg (gk - 1)
          case measure => omega
          case rel => exact ⟨k + 1, true, M ++ [(xk, xn)] ++ [(yk, yn)], by omega, by omega, rfl, by go_num, Lib.hid (HPUT.out HM.out hx), Lib.hid (own_snoc hown2 (by rw [List.length_append, List.length_singleton, HML.out])), Lib.hid (below_app HB1.out HO1.out hgrow2)⟩
        · go_wp2_with (at_builtin; refine wpList_append_own _ rfl (.tmp 39) (.tmp 47) 27 rfl w.heap.size 55 i0 _ 2 16 Try.underlying27 hi hz0 hz1 hz2 rfl (by decide) _ ml (cellsK M) rfl (HO.out.alloc _) ⟨wr.heap.size, 0, none⟩ 1 1 (ck (yk, yn)) rfl rfl (news2 _ _ _) (by intro u hu; simp [ck] at hu; rcases hu with rfl | rfl <;> rfl) (by unfold maxLen; omega) (by omega) (by simp; omega) ?_; intro v1 w3 hown1 hgrow1 _)
          go_roundg (gk - 1)
          case measure => omega
          case rel => exact ⟨k + 1, false, M ++ [(yk, yn)], by omega, by omega, rfl, by go_num, Lib.hid (HWAIT.out HM.out hx), Lib.hid (own_snoc hown1 HML.out), Lib.hid (below_app HB.out HO.out hgrow1)⟩
    · have hkn : k = n := by omega
      have HE := Lib.hid (show (if b then M else M ++ [(xk, xn)]) = ins (xk, xn) L by have := HM.out; rw [hkn, ← HN.out] at this; exact this.end_)
      have z0 := (HRF.out wr HB.out).2.trans hfz
      clear hlt
      obtain ⟨A1, cc1, rfl⟩ := own_slice HO.out
      cases b with
      | true =>
        have HR := Lib.hid (HST.out wr M _ ml HB.out HO.out HML.out.symm)
        rw [show M = ins (xk, xn) L from HE.out] at HR
        go_wp2_with fail
        go_end0
        exact HR.out
      | false =>
        go_wp2_with (at_builtin; refine wpList_append_own _ rfl (.tmp 51) (.tmp 55) 27 rfl w.heap.size 55 i0 _ 2 16 Try.underlying27 hi hz0 hz1 hz2 rfl (by decide) _ ml (cellsK M) rfl (HO.out.alloc _) ⟨wr.heap.size, 0, none⟩ 1 1 (ck (xk, xn)) rfl rfl (news2 _ _ _) (by intro u hu; simp [ck] at hu; rcases hu with rfl | rfl <;> rfl) (by unfold maxLen; omega) (by omega) (by simp; omega) ?_; intro v1 w3 hown1 hgrow1 _; have HO1 := Lib.hid (own_snoc hown1 HML.out); have HB1 := Lib.hid (below_app HB.out HO.out hgrow1); have c1 := (HRF.out w3 HB1.out).1.trans q0; have z1 := (HRF.out w3 HB1.out).2.trans hfz; obtain ⟨A2, cc2, rfl⟩ := own_slice hown1; clear hown1 hgrow1)
        go_end0
        have HR := HST.out w3 (M ++ [(xk, xn)]) _ _ HB1.out HO1.out rfl
        rw [show M ++ [(xk, xn)] = ins (xk, xn) L from HE.out] at HR
        exact HR
end Go.Proofs.Ytadkhnenklkbmaa
