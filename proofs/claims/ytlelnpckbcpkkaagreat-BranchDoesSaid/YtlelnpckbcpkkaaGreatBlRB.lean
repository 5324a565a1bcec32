/- The document's own body: its bytes and its marks, each a row; what only asks of it. -/
import Derived.Test.YtlelnpckbcpkkaaGreatZd
import Derived.OneCell
namespace Go.Proofs.YtlelnpckbcpkkaaGreat.bl
open Go.RowKit
set_option linter.unusedVariables false
set_option linter.unusedSimpArgs false


def tL (T : Nat) (th : Nat → Bool) : List Value := (List.range T).map fun k => .bool (th k)
theorem tL_length (T : Nat) (th : Nat → Bool) : (tL T th).length = T := by simp [tL]
theorem tL_get {T k : Nat} (th : Nat → Bool) (hk : k < T) : (tL T th)[k]? = some (.bool (th k)) := by simp [tL, hk]
structure RB (w : World) (lo C : Nat) (vB vT : Value) (b : AB) (T : Nat) : Prop where
  c0 : w.cell? ⟨C, 0, none⟩ = some vB
  c1 : w.cell? ⟨C, 1, none⟩ = some vT
  f0 : w.frozen? ⟨C, 0, none⟩ = false
  f1 : w.frozen? ⟨C, 1, none⟩ = false
  rB : w.ownsRow lo 5 1 vB b.size (rowF b.size b.dat)
  rT : w.ownsRow lo 4 1 vT T (tL T b.th)
  tT : ∀ k, b.th k = true → k < T
  le : T ≤ 4096
  nB : vB.ownBlock ≠ some C
  nT : vT.ownBlock ≠ some C
  sep : ∀ g, vB.ownBlock = some g → vT.ownBlock ≠ some g
theorem own_val {w : World} {b e n : Nat} {v : Value} {L : List Value} (h : w.ownsRow b e 1 v n L) {i : Nat} {u : Value} (hu : L[i]? = some u) (hi : i < n) : ∃ g c, v = .slice (some ⟨g, 0, none⟩) n c ∧ b ≤ g ∧ g < w.heap.size ∧ w.cell? ⟨g, i, none⟩ = some u := by
  have hl := h.lt
  rcases h.2 with ⟨h1, h2⟩ | ⟨g, cap, cur, h1, _⟩
  · omega
  · subst h1
    obtain ⟨h3, h4⟩ := hl g rfl
    have := h.cells (g := g) rfl i u hu
    rw [add0, Nat.zero_add] at this
    exact ⟨g, cap, rfl, h3, h4, this⟩
set_option maxRecDepth 100000 in
theorem there_any {w : World} {lo C T : Nat} {vB vT : Value} {b : AB} (h : RB w lo C vB vT b T) (k : Nat) : Calls Tryz.prog 126 #[Pq C, .int .i64 (k : Int)] w (fun e w' => e = .returned (.bool (b.th k)) ∧ w = w') := by
  have c1 := h.c1
  have hT := h.le
  by_cases hk : k < T
  · obtain ⟨g, c, rfl, _, hgl, hc⟩ := own_val h.rT (tL_get b.th hk) hk
    have hki : (k : Int) < (T : Int) := by omega
    generalize b.th k = r at *
    have H := Lib.hid h
    clear h hT
    go_enter Tryz.func126, Tryz.ntmps126
    go_wp2
    go_ret
    exact ⟨rfl, rfl⟩
  · have hf : b.th k = false := by
      cases e : b.th k
      · rfl
      · exact absurd (h.tT k e) hk
    rw [hf]
    obtain ⟨A, c, rfl⟩ := own_slice h.rT
    have hki : ¬ ((k : Int) < (T : Int)) := by omega
    have H := Lib.hid h
    clear h hT hf
    go_enter Tryz.func126, Tryz.ntmps126
    go_wp2
    go_ret
    exact ⟨rfl, rfl⟩

theorem cnt_succ (k : Nat) (th : Nat → Bool) : cnt (k + 1) th = cnt k th + if th k then 1 else 0 := by
  unfold cnt
  rw [List.range_succ, List.filter_append]
  cases h : th k <;> simp [h]
theorem cnt_stop {th : Nat → Bool} {d c : Nat} (hdc : d ≤ c) (hd : ∀ k, th k = true → k < d) : cnt c th = cnt d th := by
  induction c with
  | zero => obtain rfl : d = 0 := by omega
            rfl
  | succ c ih =>
    by_cases e : d = c + 1
    · rw [e]
    · rw [← ih (by omega), cnt_succ]
      have hf : th c = false := by
        cases ht : th c
        · rfl
        · have := hd c ht; omega
      rw [hf]; rfl
end Go.Proofs.YtlelnpckbcpkkaaGreat.bl
