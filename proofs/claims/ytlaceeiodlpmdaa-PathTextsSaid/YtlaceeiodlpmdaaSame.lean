/- 'Same', 'Less': whether two paths are one; whether a text is less. -/
import Derived.Test.YtlaceeiodlpmdaaMem
namespace Go.Proofs.Ytlaceeiodlpmdaa
open Go.RowKit

/-- A path as a value. -/
abbrev Pv (A : Option Addr) (n c : Nat) (d : Bool) : Value := .agg #[.slice A n c, .bool d]
def sameB (xs ys : List Bs) (d d' : Bool) : Bool := d == d' && xs == ys

theorem same_len {xs ys : List Bs} {d d' : Bool} (h : ¬ (d = d' ∧ xs.length = ys.length)) : sameB xs ys d d' = false := by
  unfold sameB
  rw [Bool.eq_false_iff]
  intro hh
  simp at hh
  exact h ⟨hh.1, by rw [hh.2]⟩

def SameE (w : World) (xs ys : List Bs) (d d' : Bool) (e : Ending) (w' : World) : Prop := e = .returned (.bool (sameB xs ys d d')) ∧ Below w.heap.size w w'

set_option maxHeartbeats 1000000 in
theorem same_dirs (A A' : Option Addr) (n c n' c' : Nat) (d d' : Bool) (xs ys : List Bs) (w : World) (hd : d ≠ d') :
    Calls Try.prog 15 #[Pv A n c d, Pv A' n' c' d'] w (SameE w xs ys d d') := by
  have HS := Lib.hid (same_len (d := d) (d' := d') (xs := xs) (ys := ys) (by simp [hd]))
  cases d <;> cases d' <;> first | (exact absurd rfl hd) | skip
  all_goals
    clear hd
    go_enter Try.func15, Try.ntmps15
    go_wp2
    go_ret
    exact ⟨by rw [HS.out]; rfl, ((Below.refl _ _).alloc (Nat.le_refl _) _).alloc (by simp) _⟩

set_option maxHeartbeats 1000000 in
theorem same_lens (A A' : Option Addr) (n c n' c' : Nat) (d : Bool) (xs ys : List Bs) (w : World) (hn : n = xs.length) (hn' : n' = ys.length) (hne : xs.length ≠ ys.length) :
    Calls Try.prog 15 #[Pv A n c d, Pv A' n' c' d] w (SameE w xs ys d d) := by
  have HS := Lib.hid (same_len (d := d) (d' := d) (xs := xs) (ys := ys) (by simp [hne]))
  have hT : ((n : Int) != (n' : Int)) = true := by rw [bne_iff_ne]; omega
  clear hne hn hn'
  cases d
  all_goals
    go_enter Try.func15, Try.ntmps15
    go_wp2
    go_ret
    exact ⟨by rw [HS.out]; rfl, ((Below.refl _ _).alloc (Nat.le_refl _) _).alloc (by simp) _⟩

set_option maxHeartbeats 1000000 in
theorem same_eq (A A' : Option Addr) (n c c' B : Nat) (d : Bool) (xs ys : List Bs) (w : World) (hn : n = xs.length) (hn' : n = ys.length) (hl : n ≤ 65536)
    (hB : B ≤ w.heap.size) (hx : Strs w B A xs) (hy : Strs w B A' ys) :
    Calls Try.prog 15 #[Pv A n c d, Pv A' n c' d] w (SameE w xs ys d d) := by
  have HN := Lib.hid hn
  have HN' := Lib.hid hn'
  clear hn hn'
  have b2 : Below w.heap.size w ((w.alloc (.cells #[.slice A n c, .bool d] 25)).alloc (.cells #[.slice A' n c', .bool d] 25)) := ((Below.refl _ _).alloc (Nat.le_refl _) _).alloc (by simp) _
  have hx2 := hx.below (b2.mono hB)
  have hy2 := hy.below (b2.mono hB)
  clear hx hy
  go_enter Try.func15, Try.ntmps15
  cases d
  all_goals
    go_wp2
    go_loopg [5] n (fun g i wr => ∃ k : Nat, k ≤ n ∧ g + k = n ∧ i = .int .i64 k ∧ Hid (∀ j, j < k → xs[j]? = ys[j]?) ∧ ∃ nq, ((w.alloc (.cells #[.slice A n c, .bool _] 25)).alloc (.cells #[.slice A' n c', .bool _] 25)).drewN nq = wr)
    case atStart => exact ⟨0, by omega, by omega, rfl, (by show ∀ _, _; intro j hj; omega), 0, rfl⟩
    case round =>
      obtain ⟨k, hk, hg, rfl, HA, nq, rfl⟩ := hrel
      by_cases hlt : k < n
      · obtain ⟨ad, x, rfl, _, hxk, hcx⟩ := hx2.get (k := k) (by rw [← HN.out]; exact hlt)
        obtain ⟨ad', y, rfl, _, hyk, hcy⟩ := hy2.get (k := k) (by rw [← HN'.out]; exact hlt)
        have HX := Lib.hid hxk
        have HY := Lib.hid hyk
        clear hxk hyk
        have HA2 := Lib.hid (show x = y → ∀ j, j < k + 1 → xs[j]? = ys[j]? by
          intro e j hj
          rcases Nat.lt_or_ge j k with h | h
          · exact HA.out j h
          · rw [show j = k from by omega, HX.out, HY.out, e])
        by_cases hxy : x = y
        · have HA3 := Lib.hid (HA2.out hxy)
          subst hxy
          go_wp2
          go_quiet (fail)
          go_wp2
          go_roundg (gk - 1)
          case measure => omega
          case rel => exact ⟨k + 1, by omega, by omega, by go_num, HA3, _, rfl⟩
        · have HS := Lib.hid (show ∀ d, sameB xs ys d d = false from by
            intro d
            unfold sameB
            rw [Bool.eq_false_iff]
            intro hh
            simp only [beq_self_eq_true, Bool.true_and, beq_iff_eq] at hh
            have := HX.out
            rw [hh, HY.out] at this
            exact hxy (Option.some.inj this).symm)
          have hne : (x == y) = false := by rw [beq_eq_false_iff_ne]; exact hxy
          clear hxy
          go_wp2
          go_quiet (fail)
          go_wp2
          go_ret
          exact ⟨by rw [HS.out _]; rfl, below_drewN (below_drewN b2 _) _⟩
      · have HS := Lib.hid (show ∀ d, sameB xs ys d d = true from by
            intro d
            unfold sameB
            have : xs = ys := by
              apply List.ext_getElem?
              intro j
              rcases Nat.lt_or_ge j n with h | h
              · exact HA.out j (by omega)
              · rw [List.getElem?_eq_none (by rw [← HN.out]; exact h), List.getElem?_eq_none (by rw [← HN'.out]; exact h)]
            simp [this])
        go_wp2
        go_ret
        exact ⟨by rw [HS.out _]; rfl, below_drewN b2 _⟩

theorem same_any (A A' : Option Addr) (n c n' c' B : Nat) (d d' : Bool) (xs ys : List Bs) (w : World) (hn : n = xs.length) (hn' : n' = ys.length) (hl : n ≤ 65536)
    (hB : B ≤ w.heap.size) (hx : Strs w B A xs) (hy : Strs w B A' ys) :
    Calls Try.prog 15 #[Pv A n c d, Pv A' n' c' d'] w (SameE w xs ys d d') := by
  by_cases hd : d = d'
  · subst hd
    by_cases hlen : xs.length = ys.length
    · have e : n' = n := by omega
      subst e
      exact same_eq A A' n' c c' B d xs ys w hn hn' hl hB hx hy
    · exact same_lens A A' n c n' c' d xs ys w hn hn' hlen
  · exact same_dirs A A' n c n' c' d d' xs ys w hd
end Go.Proofs.Ytlaceeiodlpmdaa
