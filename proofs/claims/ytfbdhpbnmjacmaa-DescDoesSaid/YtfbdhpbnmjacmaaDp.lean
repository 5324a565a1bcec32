/- 'play': an act. -/
import Derived.Test.YtfbdhpbnmjacmaaDb
namespace Go.Proofs.Ytfbdhpbnmjacmaa.ds
open Go.RowKit
open Go.Proofs.Ytfbdhpbnmjacmaa.pa (Bs Sv Strs Own own_form info9 own_base)
set_option linter.unusedVariables false
set_option linter.unusedSimpArgs false

def actT (T : Tb) (n : Nat) (k fd : Int) (d : De) : Tb := if 100 < n then T else if k = 0 then openT T d else if k = 1 then closeT T fd else if k = 2 then setT T fd d else T
def AL (k fd : Int) (A : Option Addr) (n c : Nat) (d : De) : Array Value := #[.int .i64 k, .int .i64 fd, .int .i64 d.ino, .int .i64 d.flag, .int .i64 d.off, .bool d.isd, .slice A n c, .int .i64 d.pos]
def PlayE (w0 w : World) (P : Nat) (X : Nat → Prop) (T : Tb) (e : Ending) (w' : World) : Prop := (∃ v, e = .returned v) ∧ TY w0 w' P X T ∧ Same X w w'
theorem box8 (w w' : World) (v0 v1 v2 v3 v4 v5 v6 v7 : Value) (t : TypeId) (h : w' = w.alloc (.cells #[v0, v1, v2, v3, v4, v5, v6, v7] t)) :
    w'.heap[w.heap.size]? = some (.cells #[v0, v1, v2, v3, v4, v5, v6, v7] t (0, 0)) ∧ Below w.heap.size w w' ∧ w'.heap.size = w.heap.size + 1 := by
  subst h
  exact ⟨heap_alloc_new w _, below_alloc _ _, World.size_alloc _ _⟩
theorem range8 {w : World} {b : Nat} {v0 v1 v2 v3 v4 v5 v6 v7 : Value} {t : TypeId} (h : w.heap[b]? = some (.cells #[v0, v1, v2, v3, v4, v5, v6, v7] t (0, 0))) :
    w.cell? ⟨b, 0, none⟩ = some v0 ∧ w.cell? ⟨b, 1, none⟩ = some v1 ∧ w.cell? ⟨b, 2 + 4, none⟩ = some v6 ∧ w.rangeAt b 2 [v2, v3, v4, v5, v6, v7] := by
  refine ⟨by rw [cell_row h]; rfl, by rw [cell_row h]; rfl, by rw [cell_row h]; rfl, fun j v hv => ?_⟩
  rw [cell_row h]
  match j, hv with
  | 0, hv => exact hv
  | 1, hv => exact hv
  | 2, hv => exact hv
  | 3, hv => exact hv
  | 4, hv => exact hv
  | 5, hv => exact hv
  | j + 6, hv => simp at hv
set_option maxHeartbeats 8000000 in
theorem play_any {w0 w : World} {P n c : Nat} {X : Nat → Prop} {T : Tb} {A : Option Addr} {d : De} {k fd : Int} (h : TY w0 w P X T) (hd : DA w A n c d) :
    Calls Try.prog 24 #[Pq P, .agg (AL k fd A n c d)] w (PlayE w0 w P X (actT T n k fd d)) := by
  obtain ⟨b, hb⟩ : ∃ b, w.heap.size = b := ⟨_, rfl⟩
  obtain ⟨w1, hw1⟩ : ∃ w1, w.alloc (.cells (AL k fd A n c d) 35) = w1 := ⟨_, rfl⟩
  unfold AL at hw1 ⊢
  obtain ⟨hr1, hb1, hs1⟩ := box8 _ _ _ _ _ _ _ _ _ _ _ hw1.symm
  rw [hb] at hr1 hs1
  obtain ⟨c0, c1, c6, hrow⟩ := range8 hr1
  have HROW := Lib.hid hrow
  have h1 := h.below hb1
  have hd1 := hd.below hb1
  have HSM := Lib.hid (show ∀ w', Same X w1 w' → Same X w w' from fun w' hs q hq => by
    obtain ⟨tg, _, hx⟩ := h
    exact (hs q hq).trans (hb1.block q (hx q hq).1))
  by_cases hn : 100 < n
  · have HF := Lib.hid (show PlayE w0 w P X (actT T n k fd d) (.returned (.tuple #[])) w1 from ⟨⟨_, rfl⟩, by unfold actT; rw [if_pos hn]; exact h1, HSM.out _ (fun q hq => rfl)⟩)
    have hni : (100 : Int) < (n : Int) := by omega
    clear h h1 hd hd1 hn hr1 hb1 hrow HROW HSM
    go_enter Try.func24, Try.ntmps24
    go_wp2_with fail
    refine bodyPost_ret (v := .tuple #[]) (by simp [results]) rfl ?_
    exact HF.out
  have hni : ¬ (100 : Int) < (n : Int) := by omega
  have hn1 : n ≤ 1000 := by omega
  by_cases e0 : k = 0
  · subst e0
    have HC := Lib.hid (y_open h1 hd1 hn1)
    rw [show openT T d = actT T n 0 fd d by unfold actT; rw [if_neg hn, if_pos rfl]] at HC
    generalize actT T n 0 fd d = K at *
    generalize lowV T = lv at HC
    clear h h1 hd hd1 hn hr1 hb1 hrow hn1
    obtain ⟨d0, d1, d2, d3, xs, d5⟩ := d
    dsimp only [DV] at *
    go_enter Try.func24, Try.ntmps24
    go_wp2_with (first | refine wpList_load_mid (by rfl) 30 (.tmp 14) (by rfl) b 2 (by rfl) _ _ HROW.out Try.underlying30 (by rfl) (by kernel_rfl) ?_)
    refine HC.out.mono ?_
    rintro _ w2 ⟨rfl, h2, hs2⟩
    have HF := Lib.hid (show PlayE w0 w P X K (.returned (.tuple #[])) w2 from ⟨⟨_, rfl⟩, h2, HSM.out _ hs2⟩)
    clear h2 hs2
    go_wp2_with fail
    go_end0
    exact HF.out
  by_cases e1 : k = 1
  · subst e1
    have HC := Lib.hid (y_close h1 fd)
    rw [show closeT T fd = actT T n 1 fd d by unfold actT; rw [if_neg hn, if_neg (by decide), if_pos rfl]] at HC
    generalize actT T n 1 fd d = K at *
    generalize getV T fd = gv at HC
    clear h h1 hd hd1 hn hr1 hb1 hrow hn1 HROW
    go_enter Try.func24, Try.ntmps24
    go_wp2_with fail
    refine HC.out.mono ?_
    rintro _ w2 ⟨A2, c2, rfl, -, h2, hs2⟩
    have HF := Lib.hid (show PlayE w0 w P X K (.returned (.tuple #[])) w2 from ⟨⟨_, rfl⟩, h2.weaken fun _ h => .inl h, HSM.out _ hs2⟩)
    clear h2 hs2
    go_wp2_with fail
    go_end0
    exact HF.out
  by_cases e2 : k = 2
  · subst e2
    have HC := Lib.hid (y_set h1 hd1 hn1 fd)
    rw [show setT T fd d = actT T n 2 fd d by unfold actT; rw [if_neg hn, if_neg (by decide), if_neg (by decide), if_pos rfl]] at HC
    generalize actT T n 2 fd d = K at *
    generalize errV T fd = ev at HC
    clear h h1 hd hd1 hn hr1 hb1 hrow hn1
    obtain ⟨d0, d1, d2, d3, xs, d5⟩ := d
    dsimp only [DV] at *
    go_enter Try.func24, Try.ntmps24
    go_wp2_with (first | refine wpList_load_mid (by rfl) 30 (.tmp 28) (by rfl) b 2 (by rfl) _ _ HROW.out Try.underlying30 (by rfl) (by kernel_rfl) ?_)
    refine HC.out.mono ?_
    rintro _ w2 ⟨rfl, h2, hs2⟩
    have HF := Lib.hid (show PlayE w0 w P X K (.returned (.tuple #[])) w2 from ⟨⟨_, rfl⟩, h2, HSM.out _ hs2⟩)
    clear h2 hs2
    go_wp2_with fail
    go_end0
    exact HF.out
  have HF := Lib.hid (show PlayE w0 w P X (actT T n k fd d) (.returned (.tuple #[])) w1 from ⟨⟨_, rfl⟩, by unfold actT; rw [if_neg hn, if_neg e0, if_neg e1, if_neg e2]; exact h1, HSM.out _ (fun q hq => rfl)⟩)
  have q0 : (k == 0) = false := by simpa using e0
  have q1 : (k == 1) = false := by simpa using e1
  have q2 : (k == 2) = false := by simpa using e2
  clear h h1 hd hd1 hn hr1 hb1 hrow HROW HSM hn1 e0 e1 e2
  go_enter Try.func24, Try.ntmps24
  go_wp2_with fail
  go_end0
  exact HF.out

/-- What the first k acts make. -/
def playT (F : Nat → Act7) (T : Tb) : Nat → Tb
  | 0 => T
  | k + 1 => actT (playT F T k) (F k).n (F k).kind (F k).fd (F k).d
end Go.Proofs.Ytfbdhpbnmjacmaa.ds
