/- The table's functions that look: copied, lowest, at, Full, All. -/
import Derived.Test.YtfbdhpbnmjacmaaDm
namespace Go.Proofs.Ytfbdhpbnmjacmaa.ds
open Go.RowKit
open Go.Proofs.Ytfbdhpbnmjacmaa.pa (Bs Sv Strs Own own_form info9 own_base)
set_option linter.unusedVariables false
set_option linter.unusedSimpArgs false

theorem results_row {fn : Func} {p : Tmp} {ty : TypeId} (h : fn.results = #[.cell p ty]) (tmps : Array Value) (w : World) (b : Nat) (cs : List Value) (d : TypeDesc)
    (hp : tmps.getD p undef = .pointer (some ⟨b, 0, none⟩)) (hc : w.rangeAt b 0 cs) (hu : Try.prog.underlying ty = some d) (hd : d.isRow = true) (hi : (Try.prog.info? ty).map (·.size) = some cs.length) :
    (results fn tmps).run Try.prog w = .ok (.agg cs.toArray) w := by
  rw [Array.getD_eq_getD_getElem?] at hp
  simp only [results, h]
  simp [Sem.run_bind, Result.andThen, hp, asAddr, run_loadVar_mid w b 0 ty cs d hc hu hd hi]
theorem only_at (w : World) (b j : Nat) (v : Value) : Only (fun k => k = b) w (w.setCell ⟨b, j, none⟩ v) := only_cell w ⟨b, j, none⟩ v
theorem range6 {w : World} {b : Nat} {x0 x1 x2 x3 x4 x5 : Value} (h0 : w.cell? ⟨b, 0, none⟩ = some x0) (h1 : w.cell? ⟨b, 1, none⟩ = some x1) (h2 : w.cell? ⟨b, 2, none⟩ = some x2) (h3 : w.cell? ⟨b, 3, none⟩ = some x3) (h4 : w.cell? ⟨b, 4, none⟩ = some x4) (h5 : w.cell? ⟨b, 5, none⟩ = some x5) : w.rangeAt b 0 [x0, x1, x2, x3, x4, x5] := by
  intro j v hv
  rw [Nat.zero_add]
  match j, hv with
  | 0, hv => cases hv; exact h0
  | 1, hv => cases hv; exact h1
  | 2, hv => cases hv; exact h2
  | 3, hv => cases hv; exact h3
  | 4, hv => cases hv; exact h4
  | 5, hv => cases hv; exact h5
  | j + 6, hv => simp at hv
theorem range6_out {w : World} {b : Nat} {x0 x1 x2 x3 x4 x5 : Value} (h : w.rangeAt b 0 [x0, x1, x2, x3, x4, x5]) : w.cell? ⟨b, 0, none⟩ = some x0 ∧ w.cell? ⟨b, 1, none⟩ = some x1 ∧ w.cell? ⟨b, 2, none⟩ = some x2 ∧ w.cell? ⟨b, 3, none⟩ = some x3 ∧ w.cell? ⟨b, 4, none⟩ = some x4 ∧ w.cell? ⟨b, 5, none⟩ = some x5 :=
  ⟨by simpa using h 0 x0 rfl, by simpa using h 1 x1 rfl, by simpa using h 2 x2 rfl, by simpa using h 3 x3 rfl, by simpa using h 4 x4 rfl, by simpa using h 5 x5 rfl⟩
/-- Six cells set. -/
def set6 (w : World) (b : Nat) (x0 x1 x2 x3 x4 x5 : Value) : World := w.setCells b 0 [x0, x1, x2, x3, x4, x5]
theorem set6_form (w : World) (b : Nat) (x0 x1 x2 x3 x4 x5 : Value) : ((((((w.setCell ⟨b, 0, none⟩ x0).setCell ⟨b, 1, none⟩ x1).setCell ⟨b, 2, none⟩ x2).setCell ⟨b, 3, none⟩ x3).setCell ⟨b, 4, none⟩ x4).setCell ⟨b, 5, none⟩ x5) = set6 w b x0 x1 x2 x3 x4 x5 := rfl
theorem set6_range {w : World} {b : Nat} (h : w.there b 0 6) (x0 x1 x2 x3 x4 x5 : Value) : (set6 w b x0 x1 x2 x3 x4 x5).rangeAt b 0 [x0, x1, x2, x3, x4, x5] := World.rangeAt_setCells_same w b 0 _ h
theorem only_trans {B : Nat} {w w1 w2 : World} (h : Only (fun b => b = B) w w1) (k : Only (fun b => b = B) w1 w2) : Only (fun b => b = B) w w2 := h.trans k
theorem set6_only (w : World) (b : Nat) (x0 x1 x2 x3 x4 x5 : Value) : Only (fun k => k = b) w (set6 w b x0 x1 x2 x3 x4 x5) := by
  rw [← set6_form]
  exact only_trans (only_trans (only_trans (only_trans (only_trans (only_at _ _ _ _) (only_at _ _ _ _)) (only_at _ _ _ _)) (only_at _ _ _ _)) (only_at _ _ _ _)) (only_at _ _ _ _)
theorem there_row {w : World} {b : Nat} {vs : Array Value} {t : TypeId} (h : w.heap[b]? = some (.cells vs t (0, 0))) (hs : vs.size = 6) : w.there b 0 6 := fun j hj =>
  ⟨by rw [cell_row h, Nat.zero_add, Array.getElem?_eq_getElem (by omega)]; rfl, by simp [World.frozen?, h]⟩
theorem own_nm {w : World} {lo : Nat} {tg : Nat → Nat} {A : Option Addr} {c : Nat} {xs : List Bs} (h : Own w lo A c xs) (ht : ∀ b, lo ≤ b → b < w.heap.size → tg b = 100) : Nm w tg A xs := fun hn => by
  obtain ⟨ad, e, h1, h2⟩ := h.strs hn
  refine ⟨ad, e, ht _ ?_ h1, h2⟩
  rcases h.2 with ⟨e1, h0⟩ | ⟨g, cap, cur, hv, hb, hg, _⟩
  · rw [h0] at hn; exact absurd hn (by decide)
  · injection hv with hA
    rw [e] at hA
    injection hA with hA
    subst hA
    exact hb
theorem own_cap {w : World} {lo c : Nat} {A : Option Addr} {xs : List Bs} (h : Own w lo A c xs) : xs.length ≤ c ∧ c ≤ maxLen := by
  rcases h.2 with ⟨e1, h0⟩ | ⟨g, cap, cur, hv, hb, hg, hl, hm, _⟩
  · injection e1 with _ _ e3
    rw [h0, e3]; exact ⟨Nat.le_refl _, by unfold maxLen; omega⟩
  · injection hv with _ _ hc
    rw [hc]; exact ⟨hl, hm⟩

theorem own_only {w w' : World} {lo c : Nat} {A : Option Addr} {xs : List Bs} {F : Nat → Prop} (h : Own w lo A c xs) (ho : Only F w w') (hF : ∀ b, F b → b < lo ∨ w.heap.size ≤ b) : Own w' lo A c xs := by
  refine ⟨h.1, ?_⟩
  rcases h.2 with h2 | ⟨g, cap, cur, hv, hgb, hg, r⟩
  · exact .inl h2
  · exact .inr ⟨g, cap, cur, hv, hgb, (ho.block g (by rcases Nat.lt_or_ge g w.heap.size with h | h; exact h; rw [Array.getElem?_eq_none h] at hg; cases hg) (fun e => by
      have := hF g e
      have : g < w.heap.size := by rcases Nat.lt_or_ge g w.heap.size with h | h; exact h; rw [Array.getElem?_eq_none h] at hg; cases hg
      omega)).trans hg, r⟩
def CopE (w : World) (d : De) (e : Ending) (w' : World) : Prop := ∃ A c, e = .returned (DV A d.ns.length c d) ∧ Own w' w.heap.size A c d.ns ∧ Below w.heap.size w w'
set_option maxHeartbeats 4000000 in
theorem copied_any (A : Option Addr) (n c B : Nat) (d : De) (w : World) (hn : n = d.ns.length) (hm : n ≤ 60000) (hB : B ≤ w.heap.size) (h : Strs w B A d.ns) : Calls Try.prog 26 #[DV A n c d] w (CopE w d) := by
  have HC := Lib.hid (fun w2 (hb : Below w.heap.size w w2) => clone_any A n c B d.ns w2 hn hm (Nat.le_trans hB hb.size) (h.keep fun p hp => hb.cell (p := p) (Nat.lt_of_lt_of_le hp hB)))
  obtain ⟨d0, d1, d2, d3, xs, d5⟩ := d
  dsimp only [DV, CopE] at HC ⊢
  dsimp only at hn
  subst hn
  clear h hm hB
  obtain ⟨b, hb⟩ : ∃ b, w.heap.size = b := ⟨_, rfl⟩
  obtain ⟨w1, hw1⟩ : ∃ w1, w.alloc (.cells #[.int .i64 d0, .int .i64 d1, .int .i64 d2, .bool d3, .slice A xs.length c, .int .i64 d5] 30) = w1 := ⟨_, rfl⟩
  have hb1 : w1.heap.size = b + 1 := by rw [← hw1, World.size_alloc, hb]
  obtain ⟨w2, hw2⟩ : ∃ w2, w1.alloc (.cells #[.int .i64 0, .int .i64 0, .int .i64 0, .bool false, .slice none 0 0, .int .i64 0] 30) = w2 := ⟨_, rfl⟩
  have HB2 := Lib.hid (show Below w.heap.size w w2 by rw [← hw2, ← hw1]; exact below_step (below_alloc _ _) (below_alloc _ _))
  have r1 : w2.heap[b]? = some (.cells #[.int .i64 d0, .int .i64 d1, .int .i64 d2, .bool d3, .slice A xs.length c, .int .i64 d5] 30 (0, 0)) := by
    rw [← hw2, (below_alloc w1 _).block b (by omega), ← hw1, ← hb]; exact heap_alloc_new w _
  have r2 : w2.heap[b + 1]? = some (.cells #[.int .i64 0, .int .i64 0, .int .i64 0, .bool false, .slice none 0 0, .int .i64 0] 30 (0, 0)) := by
    rw [← hw2, ← hb1]; exact heap_alloc_new w1 _
  have hs2 : w2.heap.size = b + 2 := by rw [← hw2, World.size_alloc, hb1]
  have HK := Lib.hid (HC.out w2 HB2.out)
  have c4 : w2.cell? ⟨b, 4, none⟩ = some (.slice A xs.length c) := by rw [cell_row r1]; rfl
  have R1 := Lib.hid r1
  have R2 := Lib.hid r2
  clear HC r1 r2
  go_enter Try.func26, Try.ntmps26
  go_wp2_with fail
  refine HK.out.mono ?_
  rintro _ w3 ⟨A', c', rfl, hown, hb3⟩
  have q1 := (hb3.block b (by omega)).trans R1.out
  have q2 := (hb3.block (b + 1) (by omega)).trans R2.out
  have f4 : w3.frozen? ⟨b, 4, none⟩ = false := by simp [World.frozen?, q1]
  have k0 : w3.cell? ⟨b, 0, none⟩ = some (.int .i64 d0) := by rw [cell_row q1]; rfl
  have k1 : w3.cell? ⟨b, 1, none⟩ = some (.int .i64 d1) := by rw [cell_row q1]; rfl
  have k2 : w3.cell? ⟨b, 2, none⟩ = some (.int .i64 d2) := by rw [cell_row q1]; rfl
  have k3 : w3.cell? ⟨b, 3, none⟩ = some (.bool d3) := by rw [cell_row q1]; rfl
  have k4 : w3.cell? ⟨b, 4, none⟩ = some (.slice A xs.length c) := by rw [cell_row q1]; rfl
  have k5 : w3.cell? ⟨b, 5, none⟩ = some (.int .i64 d5) := by rw [cell_row q1]; rfl
  obtain ⟨w4, hw4⟩ : ∃ w4, w3.setCell ⟨b, 4, none⟩ (.slice A' xs.length c') = w4 := ⟨_, rfl⟩
  have ne : ∀ i : Nat, i ≠ 4 → (⟨b, 4, none⟩ : Addr) ≠ ⟨b, i, none⟩ := fun i hi e => by injection e with _ e; exact hi e.symm
  have HL4 := Lib.hid (show w4.rangeAt b 0 [.int .i64 d0, .int .i64 d1, .int .i64 d2, .bool d3, .slice A' xs.length c', .int .i64 d5] by
    rw [← hw4]
    exact range6 ((World.cell?_setCell_other _ _ _ _ (ne 0 (by decide))).trans k0) ((World.cell?_setCell_other _ _ _ _ (ne 1 (by decide))).trans k1) ((World.cell?_setCell_other _ _ _ _ (ne 2 (by decide))).trans k2) ((World.cell?_setCell_other _ _ _ _ (ne 3 (by decide))).trans k3) (World.cell?_setCell_same' _ _ _ (by rw [k4]; rfl)) ((World.cell?_setCell_other _ _ _ _ (ne 5 (by decide))).trans k5))
  have hO4 : Only (fun k => k = b) w3 w4 := by rw [← hw4]; exact only_at _ _ _ _
  have q4 := (hO4.block (b + 1) (by have := hb3.size; omega) (by omega)).trans q2
  have HT := Lib.hid (there_row q4 rfl)
  have HE := Lib.hid (show ∀ x0 x1 x2 x3 x4 x5, Below w.heap.size w (set6 w4 (b + 1) x0 x1 x2 x3 x4 x5) ∧ Own (set6 w4 (b + 1) x0 x1 x2 x3 x4 x5) w.heap.size A' c' xs from fun x0 x1 x2 x3 x4 x5 => by
    have o1 : Only (fun k => b ≤ k ∧ k < b + 2) w3 (set6 w4 (b + 1) x0 x1 x2 x3 x4 x5) := (hO4.mono fun k e => by omega).trans ((set6_only _ _ _ _ _ _ _ _).mono fun k e => by omega)
    refine ⟨(below_step HB2.out hb3).trans ⟨o1.os, o1.tape, o1.output, o1.size, fun k hk => o1.block k (by have := HB2.out.size; have := hb3.size; omega) (by omega)⟩, ?_⟩
    have h1 := own_base hown (B' := w.heap.size) (by omega)
    refine ⟨h1.1, ?_⟩
    rcases hown.2 with h2 | ⟨g, cap, cur, hv, hgb, hg, r⟩
    · exact .inl h2
    · exact .inr ⟨g, cap, cur, hv, by omega, (o1.block g (by rcases Nat.lt_or_ge g w3.heap.size with h | h; exact h; rw [Array.getElem?_eq_none h] at hg; cases hg) (by omega)).trans hg, r⟩)
  clear k0 k1 k2 k3 k5 ne q1 q2 q4 hO4 hown hb3 c4
  go_wp2_with (first | refine wpList_load_mid (by rfl) 30 (.tmp 1) (by rfl) b 0 (by rfl) _ _ HL4.out Try.underlying30 (by rfl) (by kernel_rfl) ?_ | refine wpList_store_mid (by rfl) 30 (.tmp 2) (.tmp 7) (by rfl) (b + 1) 0 #[.int .i64 d0, .int .i64 d1, .int .i64 d2, .bool d3, .slice A' xs.length c', .int .i64 d5] (by rfl) (by rfl) HT.out (by kernel_rfl) (by simp [Value.oneCell']) ?_)
  refine bodyPost_ret (results_row rfl _ _ (b + 1) [.int .i64 d0, .int .i64 d1, .int .i64 d2, .bool d3, .slice A' xs.length c', .int .i64 d5] _ rfl (set6_range HT.out _ _ _ _ _ _) Try.underlying30 (by rfl) (by kernel_rfl)) rfl ?_
  exact ⟨A', c', rfl, (HE.out _ _ _ _ _ _).2, (HE.out _ _ _ _ _ _).1⟩

def StE (w : World) (v : Value) (e : Ending) (w' : World) : Prop := e = .returned v ∧ w' = w
set_option maxHeartbeats 2000000 in
theorem lowest_any {w0 w : World} {P : Nat} {tg : Nat → Nat} {T : Tb} (h : TbX w0 w P tg T) : Calls Try.prog 25 #[Pq P] w (StE w (.tuple #[.int .i64 (lowV T).1, .bool (low T).isSome])) := by
  have HS := Lib.hid h.slot
  unfold StE
  clear h
  go_enter Try.func25, Try.ntmps25
  go_wp2_with fail
  go_loopg [5] 32 (fun g s5 wr => ∃ k : Nat, g + k = 32 ∧ s5 = .int .i64 k ∧ Hid (∀ j, j < k → T j ≠ none) ∧ wr = w)
  case atStart => exact ⟨0, by omega, rfl, Lib.hid (by omega), rfl⟩
  case round =>
    obtain ⟨k, hg, rfl, HN, rfl⟩ := hrel
    by_cases hk : k < 32
    · have hs := HS.out k hk
      cases hT : T k with
      | none =>
        rw [hT] at hs
        have c : wr.cell? ⟨P, k, none⟩ = some (.pointer none) := hs
        have HL := Lib.hid (low_of hk hT HN.out)
        clear hs hT
        go_wp2_with fail
        go_ret2
        exact ⟨by unfold lowV; rw [HL.out]; rfl, rfl⟩
      | some d =>
        rw [hT] at hs
        obtain ⟨b, c, -⟩ := hs
        have HN2 := Lib.hid (show ∀ j, j < k + 1 → T j ≠ none from fun j hj => by
          rcases Nat.lt_succ_iff_lt_or_eq.1 hj with h1 | h1
          · exact HN.out j h1
          · rw [h1, hT]; exact fun e => nomatch e)
        clear hT
        go_wp2_with fail
        go_roundg (gk - 1)
        case measure => omega
        case rel => exact ⟨k + 1, by omega, by go_num, HN2, rfl⟩
    · have HL := Lib.hid (low_no (T := T) fun j hj => HN.out j (by omega))
      go_wp2_with fail
      go_ret2
      exact ⟨by unfold lowV; rw [HL.out]; rfl, rfl⟩

theorem at_out {w : World} {P : Nat} {fd : Int} (h : ¬ (0 ≤ fd ∧ fd < 32)) : Calls Try.prog 27 #[Pq P, .int .i64 fd] w (StE w (.pointer none)) := by
  unfold StE
  by_cases h0 : fd < 0
  · go_enter Try.func27, Try.ntmps27
    go_wp2_with fail
    go_ret
    exact ⟨rfl, rfl⟩
  · have h1 : 32 ≤ fd := by omega
    clear h
    go_enter Try.func27, Try.ntmps27
    go_wp2_with fail
    go_ret
    exact ⟨rfl, rfl⟩
theorem at_in {w : World} {P k : Nat} {v : Option Addr} (hk : k < 32) (hc : w.cell? ⟨P, k, none⟩ = some (.pointer v)) : Calls Try.prog 27 #[Pq P, .int .i64 k] w (StE w (.pointer v)) := by
  unfold StE
  go_enter Try.func27, Try.ntmps27
  go_wp2_with fail
  go_ret
  exact ⟨rfl, rfl⟩
set_option maxHeartbeats 2000000 in
theorem full_any {w0 w : World} {P : Nat} {tg : Nat → Nat} {T : Tb} (h : TbX w0 w P tg T) : Calls Try.prog 23 #[Pq P] w (StE w (.bool (full T))) := by
  have HL := Lib.hid (lowest_any h)
  unfold StE at HL ⊢
  unfold full
  obtain ⟨r, hr⟩ : ∃ r, low T = r := ⟨_, rfl⟩
  rw [hr] at HL ⊢
  generalize (lowV T).1 = v at *
  clear h hr
  cases r with
  | none =>
    go_enter Try.func23, Try.ntmps23
    go_wp2_with fail
    refine HL.out.mono ?_
    rintro _ w1 ⟨rfl, rfl⟩
    go_wp2_with fail
    go_ret
    exact ⟨rfl, rfl⟩
  | some k =>
    go_enter Try.func23, Try.ntmps23
    go_wp2_with fail
    refine HL.out.mono ?_
    rintro _ w1 ⟨rfl, rfl⟩
    go_wp2_with fail
    go_ret
    exact ⟨rfl, rfl⟩

def Iv (k : Nat) : Value := .int .i64 (k : Int)
def IntsE (w : World) (L : List Nat) (e : Ending) (w' : World) : Prop := ∃ v, e = .returned v ∧ w'.ownsRow w.heap.size 3 1 v L.length (L.map Iv) ∧ Below w.heap.size w w'
theorem own_slice {w : World} {b e sz n : Nat} {v : Value} {L : List Value} (h : w.ownsRow b e sz v n L) : ∃ A c, v = .slice A n c := by
  rcases h.2 with ⟨h1, h2⟩ | ⟨g, cap, cur, h1, _⟩
  · exact ⟨none, 0, by rw [h1, h2]⟩
  · exact ⟨_, cap, h1⟩
theorem cell_new1 (w : World) (v : Value) (t : TypeId) : ∀ j u, [v][j]? = some u → (w.alloc (.cells #[v] t)).cell? ((⟨w.heap.size, 0, none⟩ : Addr).add j) = some u := by
  intro j u hj
  rcases j with _ | j
  · simp at hj
    subst hj
    simp [Addr.add]
  · simp at hj
theorem all_le (T : Tb) (n : Nat) : (allT T n).length ≤ n := by rw [all_len]; exact cnt_le T n
set_option maxHeartbeats 4000000 in
theorem all_any {w0 w : World} {P : Nat} {tg : Nat → Nat} {T : Tb} (h : TbX w0 w P tg T) : Calls Try.prog 21 #[Pq P] w (IntsE w (allT T 32)) := by
  have HX := Lib.hid h
  obtain ⟨i0, hi, hz0, hz1, hz2⟩ := info_parts (P := Try.prog) (e := 3) (z := .int .i64 0) (size := 1) (bytes := 8) (by kernel_rfl)
  have HI := Lib.hid hi
  have HZ := Lib.hid (show i0.zero = some (.int .i64 0) ∧ i0.size = 1 ∧ i0.bytes = 8 from ⟨hz0, hz1, hz2⟩)
  clear h hi hz0 hz1 hz2
  go_enter Try.func21, Try.ntmps21
  go_wp2_with fail
  go_loopg [3, 5] 32 (fun g s3 s5 wr => ∃ k : Nat, g + k = 32 ∧ s5 = .int .i64 k ∧ Hid (wr.ownsRow w.heap.size 3 1 s3 (allT T k).length ((allT T k).map Iv)) ∧ Hid (Below w.heap.size w wr))
  case atStart => exact ⟨0, by omega, rfl, Lib.hid (World.ownsRow_nil _ _ _ _), Lib.hid (Below.refl _ _)⟩
  case round =>
    obtain ⟨k, hg, rfl, HO, HB⟩ := hrel
    have HLE := Lib.hid (all_le T k)
    obtain ⟨L, hL⟩ : ∃ L, L = allT T k := ⟨_, rfl⟩
    obtain ⟨n, hn⟩ : ∃ n, n = L.length := ⟨_, rfl⟩
    rw [← hL, ← hn] at HO HLE
    have HLL := Lib.hid hL
    have HNN := Lib.hid hn
    have HW := Lib.hid HB.out.size
    clear hL hn
    by_cases hk : k < 32
    · have hs := (HX.out.below HB.out).slot k hk
      cases hT : T k with
      | none =>
        rw [hT] at hs
        have c : wr.cell? ⟨P, k, none⟩ = some (.pointer none) := hs
        have HT := Lib.hid (all_succ_out hT)
        clear hs hT
        go_wp2_with fail
        go_roundg (gk - 1)
        case measure => omega
        case rel => exact ⟨k + 1, by omega, by go_num, by rw [HT.out, ← HLL.out, ← HNN.out]; exact HO, HB⟩
      | some d =>
        rw [hT] at hs
        obtain ⟨b, c, -⟩ := hs
        have HT := Lib.hid (all_succ_in hT)
        clear hT
        go_wp2_with (at_builtin; refine wpList_append_own _ rfl (.tmp 15) (.tmp 17) 45 rfl w.heap.size 3 i0 _ 1 8 Try.underlying45 HI.out HZ.out.1 HZ.out.2.1 HZ.out.2.2 rfl (by decide) u3 n (L.map Iv) rfl (HO.out.alloc _) ⟨wr.heap.size, 0, none⟩ 1 1 [Iv k] rfl rfl (cell_new1 _ _ _) (by intro u hu; simp at hu; subst hu; rfl) (by have := HLE.out; unfold maxLen; omega) (by have := HLE.out; omega) (by have := HW.out; simp; omega) ?_; intro v1 w3 hown1 hgrow1 _)
        go_roundg (gk - 1)
        case measure => omega
        case rel =>
          have hb3 : Below w.heap.size w w3 := (HB.out.alloc HW.out _).grown hgrow1 (by have := HW.out; simp; omega) (fun g h => (HO.out.lt g h).1)
          refine ⟨k + 1, by omega, by go_num, ?_, Lib.hid hb3⟩
          rw [HT.out, ← HLL.out, List.length_append, List.length_singleton, ← HNN.out, List.map_append]
          exact Lib.hid hown1
    · have hk2 : k = 32 := by omega
      obtain ⟨A, cc, rfl⟩ := own_slice HO.out
      have HF := Lib.hid (show IntsE w (allT T 32) (.returned (.slice A n cc)) wr from ⟨_, rfl, by rw [← hk2, ← HLL.out, ← HNN.out]; exact HO.out, HB.out⟩)
      clear hk2
      go_wp2_with fail
      go_ret
      exact HF.out
end Go.Proofs.Ytfbdhpbnmjacmaa.ds
