/- The binary search and its closures; 'place', 'Get', 'Len'. -/
import Derived.Test.YtchjidijgdkhoaaMem
namespace Go.Proofs.Ytchjidijgdkhoaa
open Go.RowKit Go.Shelf
set_option linter.unusedVariables false

/-- Block o of the row, if there is one. -/
abbrev Ao (o : Option Nat) : Option Addr := o.map fun G => ⟨G, 0, none⟩
abbrev Pq (Q : Nat) : Value := .pointer (some ⟨Q, 0, none⟩)
/-- A directory in memory: its row lies at lo or behind. -/
structure Du (w : World) (D lo : Nat) (o : Option Nat) (c : Nat) (L : List En) : Prop where
  d0 : w.cell? ⟨D, 0, none⟩ = some (.slice (Ao o) L.length c)
  f0 : w.frozen? ⟨D, 0, none⟩ = false
  row : match o with | none => L = [] ∧ c = 0 | some G => lo ≤ G ∧ D ≠ G ∧ ERow w G c L
theorem Du.lt {w : World} {D lo c : Nat} {o : Option Nat} {L : List En} (h : Du w D lo o c L) : D < w.heap.size := World.block_lt_of_cell? w _ h.d0
theorem Du.of_blocks {w w' : World} {D lo c : Nat} {o : Option Nat} {L : List En} (h : Du w D lo o c L) (hD : w'.heap[D]? = w.heap[D]?) (hG : ∀ G, o = some G → w'.heap[G]? = w.heap[G]?) : Du w' D lo o c L := by
  refine ⟨(World.cell?_of_block (a := ⟨D, 0, none⟩) hD).trans h.d0, (World.frozen?_of_block (a := ⟨D, 0, none⟩) hD).trans h.f0, ?_⟩
  cases o with
  | none => exact h.row
  | some G => exact ⟨h.row.1, h.row.2.1, h.row.2.2.of_block (hG G rfl)⟩
theorem Du.glt {w : World} {D lo c : Nat} {o : Option Nat} {L : List En} (h : Du w D lo o c L) : ∀ G, o = some G → G < w.heap.size ∧ lo ≤ G ∧ D ≠ G := by
  intro G e; subst e; exact ⟨h.row.2.2.lt, h.row.1, h.row.2.1⟩
theorem Du.below {w w' : World} {D lo c : Nat} {o : Option Nat} {L : List En} (h : Du w D lo o c L) (hb : Below w.heap.size w w') : Du w' D lo o c L :=
  h.of_blocks (hb.block _ h.lt) fun G e => hb.block _ (h.glt G e).1
theorem Du.at_ {w : World} {D lo c : Nat} {o : Option Nat} {L : List En} (h : Du w D lo o c L) {i : Nat} {x : En} (hx : L[i]? = some x) :
    ∃ G, o = some G ∧ w.cell? ⟨G, i * 2, none⟩ = some (.string x.1) ∧ w.cell? ⟨G, i * 2 + 1, none⟩ = some (.int .i64 x.2) := by
  cases o with
  | none => rw [h.row.1] at hx; simp at hx
  | some G => exact ⟨G, rfl, h.row.2.2.at_ hx⟩
theorem Du.cap {w : World} {D lo c : Nat} {o : Option Nat} {L : List En} (h : Du w D lo o c L) : L.length ≤ c ∧ c ≤ maxLen := by
  cases o with
  | none => rw [h.row.1, h.row.2]; exact ⟨Nat.le_refl _, by unfold maxLen; omega⟩
  | some G => exact ⟨h.row.2.2.1, h.row.2.2.2.1⟩

set_option maxHeartbeats 400000 in
theorem less_any (a b : ByteArray) (w : World) : Calls Try.prog 23 #[.string a, .string b] w fun e w' => e = .returned (.bool (lessB a b)) ∧ w' = w := by
  go_enter Try.func23, Try.ntmps23
  go_wp2
  go_ret
  exact ⟨rfl, rfl⟩

set_option maxHeartbeats 1000000 in
theorem asks33 (bd bn D lo c i : Nat) (o : Option Nat) (L : List En) (s : ByteArray) (x : En) (w : World) (hN : L.length ≤ 1000000) (hd : w.cell? ⟨bd, 0, none⟩ = some (Pq D)) (hn : w.cell? ⟨bn, 0, none⟩ = some (.string s)) (h : Du w D lo o c L) (hx : L[i]? = some x) :
    Calls Try.prog 33 #[.int .i64 i, .pointer (some ⟨bd, 0, none⟩), .pointer (some ⟨bn, 0, none⟩)] w (RetB w (!lessB x.1 s)) := by
  have hi : i < L.length := (List.getElem?_eq_some_iff.1 hx).1
  have d0 := h.d0
  obtain ⟨G, rfl, f0, f1⟩ := h.at_ hx
  have hC := fun W => less_any x.1 s W
  have HH := Lib.hid h
  generalize L.length = n at *
  obtain ⟨xs, xv⟩ := x
  dsimp only at *
  clear hx h f1
  generalize lessB xs s = r at *
  go_enter Try.func33, Try.ntmps33
  go_wp2_with fail
  go_quiet ((go_at_call 23; exact Calls.quiet_of_same (hC _)))
  go_wp2_with fail
  go_ret
  exact ⟨rfl, below_drewN (Below.refl _ _) _⟩
set_option maxHeartbeats 1000000 in
theorem asks30 (bd bn D lo c i : Nat) (o : Option Nat) (L : List En) (s : ByteArray) (x : En) (w : World) (hN : L.length ≤ 1000000) (hd : w.cell? ⟨bd, 0, none⟩ = some (Pq D)) (hn : w.cell? ⟨bn, 0, none⟩ = some (.string s)) (h : Du w D lo o c L) (hx : L[i]? = some x) :
    Calls Try.prog 30 #[.int .i64 i, .pointer (some ⟨bn, 0, none⟩), .pointer (some ⟨bd, 0, none⟩)] w (RetB w (lessB s x.1)) := by
  have hi : i < L.length := (List.getElem?_eq_some_iff.1 hx).1
  have d0 := h.d0
  obtain ⟨G, rfl, f0, f1⟩ := h.at_ hx
  have hC := fun W => less_any s x.1 W
  have HH := Lib.hid h
  generalize L.length = n at *
  obtain ⟨xs, xv⟩ := x
  dsimp only at *
  clear hx h f1
  generalize lessB s xs = r at *
  go_enter Try.func30, Try.ntmps30
  go_wp2_with fail
  go_quiet ((go_at_call 23; exact Calls.quiet_of_same (hC _)))
  go_wp2_with fail
  go_ret
  exact ⟨rfl, below_drewN (Below.refl _ _) _⟩

set_option maxHeartbeats 2000000 in
/-- The binary search: of a closure that leaves all as it was, the number of places at which it still says no. -/
theorem search_any (f n k : Nat) (env : Array Value) (p : Nat → Bool) (w : World) (hE : Enters Try.prog f) (hN : n ≤ 1000000) (hk : k ≤ n)
    (hf : ∀ W, Below w.heap.size w W → ∀ i, i < n → Calls Try.prog f (#[.int .i64 i] ++ env) W (RetB W (p i)))
    (hlo : ∀ i, i < k → p i = false) (hhi : ∀ i, k ≤ i → i < n → p i = true) :
    Calls Try.prog 29 #[.int .i64 n, .func (.func f) #[] env] w (RetI w k) := by
  have HF := Lib.hid hf
  have HLO := Lib.hid hlo
  have HHI := Lib.hid hhi
  unfold Enters at hE
  clear hf hlo hhi
  go_enter Try.func29, Try.ntmps29
  go_wp2_with fail
  go_loopg [5, 6] n (fun kx s5 s6 wr => ∃ lo hi : Nat, s5 = .int .i64 lo ∧ s6 = .int .i64 hi ∧ lo ≤ k ∧ k ≤ hi ∧ hi ≤ n ∧ hi - lo ≤ kx ∧ Hid (Below w.heap.size w wr))
  case atStart => exact ⟨0, n, rfl, rfl, by omega, by omega, by omega, by omega, Lib.hid (Below.refl _ _)⟩
  case round =>
    obtain ⟨lo, hi, rfl, rfl, hl, hh, hin, hg, HB⟩ := hrel
    by_cases hlt : lo < hi
    · have hc := HF.out wr HB.out ((lo + hi) / 2) (by omega)
      rw [show (((lo + hi) / 2 : Nat) : Int) = ((lo : Int) + (hi : Int)) / 2 by omega] at hc
      by_cases hp : (lo + hi) / 2 < k
      · rw [HLO.out _ hp] at hc
        have HC := Lib.hid hc
        clear hc
        go_wp2_with fail
        refine HC.out.mono ?_
        rintro e w2 ⟨rfl, hb2⟩
        have HB2 := Lib.hid (below_step HB.out hb2)
        clear hb2
        go_wp2_with fail
        go_roundg (hi - ((lo + hi) / 2 + 1))
        case measure => omega
        case rel => exact ⟨(lo + hi) / 2 + 1, hi, by rw [show ((lo : Int) + (hi : Int)) / 2 + 1 = (((lo + hi) / 2 + 1 : Nat) : Int) by omega], rfl, by omega, by omega, by omega, by omega, HB2⟩
      · rw [HHI.out _ (by omega) (by omega)] at hc
        have HC := Lib.hid hc
        clear hc
        go_wp2_with fail
        refine HC.out.mono ?_
        rintro e w2 ⟨rfl, hb2⟩
        have HB2 := Lib.hid (below_step HB.out hb2)
        clear hb2
        go_wp2_with fail
        go_roundg ((lo + hi) / 2 - lo)
        case measure => omega
        case rel => exact ⟨lo, (lo + hi) / 2, rfl, by rw [show ((lo : Int) + (hi : Int)) / 2 = (((lo + hi) / 2 : Nat) : Int) by omega], by omega, by omega, by omega, by omega, HB2⟩
    · obtain rfl : lo = k := by omega
      obtain rfl : hi = lo := by omega
      go_wp2_with fail
      go_ret
      exact ⟨rfl, HB.out⟩
end Go.Proofs.Ytchjidijgdkhoaa
