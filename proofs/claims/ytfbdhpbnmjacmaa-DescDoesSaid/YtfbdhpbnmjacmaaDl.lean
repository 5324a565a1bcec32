/- Names of the call's own that may be spoilt. -/
import Derived.Test.YtfbdhpbnmjacmaaDj
import Derived.Deep.CutRange
import Derived.Deep.CutBlock
import Derived.Deep.RegionHeld3
namespace Go.Proofs.Ytfbdhpbnmjacmaa.ds
open Go.RowKit
open Go.Proofs.Ytfbdhpbnmjacmaa.pa (Bs Sv Strs Own own_form info9 own_base)
set_option linter.unusedVariables false
set_option linter.unusedSimpArgs false
/-- n cells in a block between lo and hi that may be written. -/
def NC (w : World) (A : Option Addr) (n lo hi : Nat) : Prop := 0 < n → ∃ g, A = some ⟨g, 0, none⟩ ∧ lo ≤ g ∧ g < hi ∧ (∀ j, j < n → ∃ v, w.cell? ⟨g, j, none⟩ = some v) ∧ ∀ j, w.frozen? ⟨g, j, none⟩ = false
theorem own_nc {w : World} {lo c : Nat} {A : Option Addr} {xs : List Bs} (h : Own w lo A c xs) : NC w A xs.length lo w.heap.size := fun hn => by
  rcases h.2 with ⟨e2, h0⟩ | ⟨g, cap, cur, hv, hb, hg, hrest⟩
  · omega
  · injection hv with hA
    subst hA
    have hlt : g < w.heap.size := row_lt hg
    refine ⟨g, rfl, hb, hlt, fun j hj => ?_, fun j => by rw [World.frozen?, hg]; simp⟩
    have := World.ownsRow.cells h (g := g) rfl j
    obtain ⟨y, hy⟩ := get_some (l := xs.map Sv) (by rw [List.length_map]) hj
    have h2 := this y hy
    rw [Addr.add_mid, Nat.zero_add] at h2
    exact ⟨y, h2⟩
theorem NC.keep {w w' : World} {A : Option Addr} {n lo hi : Nat} (h : NC w A n lo hi) (hk : ∀ b, lo ≤ b → b < hi → w'.heap[b]? = w.heap[b]?) : NC w' A n lo hi := fun hn => by
  obtain ⟨g, h1, h2, h3, h4, h5⟩ := h hn
  refine ⟨g, h1, h2, h3, fun j hj => ?_, fun j => (World.frozen?_of_block (a := ⟨g, j, none⟩) (hk g h2 h3)).trans (h5 j)⟩
  obtain ⟨v, hv⟩ := h4 j hj
  exact ⟨v, (World.cell?_of_block (a := ⟨g, j, none⟩) (hk g h2 h3)).trans hv⟩
theorem NC.set {w : World} {A : Option Addr} {n lo hi g i : Nat} {v : Value} (h : NC w A n lo hi) : NC (w.setCell ⟨g, i, none⟩ v) A n lo hi := fun hn => by
  obtain ⟨g2, h1, h2, h3, h4, h5⟩ := h hn
  refine ⟨g2, h1, h2, h3, fun j hj => ?_, fun j => by rw [World.frozen?_setCell]; exact h5 j⟩
  obtain ⟨u, hu⟩ := h4 j hj
  by_cases e : (⟨g2, j, none⟩ : Addr) = ⟨g, i, none⟩
  · rw [e] at hu ⊢
    exact ⟨v, World.cell?_setCell_same _ _ _ hu⟩
  · exact ⟨u, (World.cell?_setCell_other _ _ _ _ (fun e2 => e e2.symm)).trans hu⟩
theorem st_le {w0 w : World} {P D : Nat} {X : Nat → Prop} {T T' : Tb} (h : ST w0 w P D X T T') (fd : Int) : (getV T fd).1.ns.length ≤ 1000 := by
  obtain ⟨tg, _, h, _⟩ := h
  unfold getV
  cases hs : spot T fd with
  | none => exact Nat.zero_le _
  | some d =>
    obtain ⟨k, rfl, hk, hT⟩ := spot_some hs
    have hsl := h.slot k hk
    rw [hT] at hsl
    obtain ⟨b, _, _, hle, _⟩ := hsl
    exact hle
/-- Numbers at A. -/
def IA (w : World) (A : Option Addr) (L : List Nat) : Prop := ∀ i k : Nat, L[i]? = some k → ∃ g, A = some ⟨g, 0, none⟩ ∧ g < w.heap.size ∧ w.cell? ⟨g, i, none⟩ = some (.int .i64 (k : Int))
theorem IA.below {w w' : World} {A : Option Addr} {L : List Nat} (h : IA w A L) (hb : Below w.heap.size w w') : IA w' A L := fun i k e => by
  obtain ⟨g, h1, h2, h3⟩ := h i k e
  exact ⟨g, h1, Nat.lt_of_lt_of_le h2 hb.size, (hb.cell (p := ⟨g, i, none⟩) h2).trans h3⟩
theorem own_ia {w : World} {lo n c : Nat} {A : Option Addr} {L : List Nat} (h : w.ownsRow lo 3 1 (.slice A n c) n (L.map Iv)) : IA w A L := fun i k e => by
  obtain ⟨g, h1, _, h2, h3⟩ := own_ints h i k e
  exact ⟨g, h1, h2, h3⟩
set_option maxHeartbeats 4000000 in
theorem ints_yes2 {w : World} {n c c' : Nat} {A A' : Option Addr} {L : List Nat} (hn : n = L.length) (hx : IA w A L) (hy : IA w A' L) (hl : n ≤ 1000) :
    Calls Try.prog 20 #[.slice A n c, .slice A' n c'] w (YesE w) := by
  have HX := Lib.hid hx
  have HY := Lib.hid hy
  have HN := Lib.hid hn
  clear hx hy hn
  go_enter Try.func20, Try.ntmps20
  go_wp2_with fail
  go_loopg [13] n (fun g i wr => ∃ k : Nat, k ≤ n ∧ g + k = n ∧ i = .int .i64 k ∧ ∃ nq, w.drewN nq = wr)
  case atStart => exact ⟨0, by omega, by omega, rfl, 0, rfl⟩
  case round =>
    obtain ⟨k, hk, hg, rfl, nq, rfl⟩ := hrel
    by_cases hlt : k < n
    · obtain ⟨y, hy⟩ := get_some (l := L) HN.out.symm hlt
      obtain ⟨g1, rfl, -, c1⟩ := HX.out k y hy
      obtain ⟨g2, rfl, -, c2⟩ := HY.out k y hy
      clear hy
      go_wp2_with fail
      go_quiet (fail)
      go_wp2_with fail
      go_roundg (gk - 1)
      case measure => omega
      case rel => exact ⟨k + 1, by omega, by omega, by go_num, _, rfl⟩
    · go_wp2_with fail
      go_ret
      exact ⟨rfl, below_drewN (Below.refl _ _) _⟩
theorem own_low {w : World} {lo c : Nat} {A : Option Addr} {xs : List Bs} (h : Own w lo A c xs) {ad : Addr} (hA : A = some ad) (hn : 0 < xs.length) : lo ≤ ad.block := by
  rcases h.2 with ⟨e2, h0⟩ | ⟨g, cap, cur, hv, hb, hg, _⟩
  · omega
  · injection hv with hA2
    rw [hA] at hA2
    injection hA2 with hA2
    subst hA2
    exact hb
theorem da_keep {w w' : World} {lo c : Nat} {A : Option Addr} {d : De} (h : Own w lo A c d.ns) (hs : w.heap.size ≤ w'.heap.size) (hk : ∀ b, lo ≤ b → b < w.heap.size → w'.heap[b]? = w.heap[b]?) : DA w' A d.ns.length c d :=
  ⟨rfl, own_cap h, fun hn => by
    obtain ⟨ad, e, h1, h2⟩ := h.strs hn
    exact ⟨ad, e, Nat.lt_of_lt_of_le h1 hs, fun j x hx => (World.cell?_of_block (by rw [pa.addr_block]; exact hk _ (own_low h e hn) h1)).trans (h2 j x hx)⟩⟩
theorem row_range6 {w : World} {b : Nat} {v0 v1 v2 v3 v4 v5 : Value} {t : TypeId} (h : w.heap[b]? = some (.cells #[v0, v1, v2, v3, v4, v5] t (0, 0))) : w.rangeAt b 0 [v0, v1, v2, v3, v4, v5] := fun j v hv => by
  rw [Nat.zero_add, cell_row h]; simpa using hv
theorem Same.trans {X : Nat → Prop} {w w1 w2 : World} (h : Same X w w1) (k : Same X w1 w2) : Same X w w2 := fun b hb => (k b hb).trans (h b hb)
end Go.Proofs.Ytfbdhpbnmjacmaa.ds
