/- 'awake': it returns true. -/
import Derived.Test.YtlaceeiodlpmdaaParse2
import Derived.Test.YtlaceeiodlpmdaaLast
import Derived.Test.YtlaceeiodlpmdaaJoin
namespace Go.Proofs.Ytlaceeiodlpmdaa
open Go.RowKit

theorem parse_ab (w : World) : Calls Try.prog 13 #[.string ⟨#[47, 97, 47, 47, 46, 47, 98]⟩] w fun e w' =>
    ∃ A c, e = .returned (.tuple #[Pv A 2 c false, .int .i64 0]) ∧ Own w' w.heap.size A c [[97], [98]] ∧ Below w.heap.size w w' := by
  have e1 : pnames [47, 97, 47, 47, 46, 47, 98] = [[97], [98]] := by decide
  have e2 : pdirE [47, 97, 47, 47, 46, 47, 98] = false := by decide
  have e3 : perr [47, 97, 47, 47, 46, 47, 98] = 0 := by decide
  have h := parse_any ⟨#[47, 97, 47, 47, 46, 47, 98]⟩ w
  unfold ParseE at h
  rw [show (⟨#[47, 97, 47, 47, 46, 47, 98]⟩ : ByteArray).data.toList = [47, 97, 47, 47, 46, 47, 98] from rfl, e1, e2, e3] at h
  exact h
theorem parse_ab2 (w : World) : Calls Try.prog 13 #[.string ⟨#[97, 47, 98, 47]⟩] w fun e w' =>
    ∃ A c, e = .returned (.tuple #[Pv A 2 c true, .int .i64 0]) ∧ Own w' w.heap.size A c [[97], [98]] ∧ Below w.heap.size w w' := by
  have e1 : pnames [97, 47, 98, 47] = [[97], [98]] := by decide
  have e2 : pdirE [97, 47, 98, 47] = true := by decide
  have e3 : perr [97, 47, 98, 47] = 0 := by decide
  have h := parse_any ⟨#[97, 47, 98, 47]⟩ w
  unfold ParseE at h
  rw [show (⟨#[97, 47, 98, 47]⟩ : ByteArray).data.toList = [97, 47, 98, 47] from rfl, e1, e2, e3] at h
  exact h
theorem parse_none (w : World) : Calls Try.prog 13 #[.string ⟨#[]⟩] w fun e w' =>
    ∃ A c, e = .returned (.tuple #[Pv A 0 c false, .int .i64 2]) ∧ Below w.heap.size w w' :=
  (parse_empty w).mono fun _ _ ⟨A, c, he, _, hb⟩ => ⟨A, c, he, hb⟩

theorem cap_le {w : World} {B : Nat} {A : Option Addr} {c : Nat} {xs : List Bs} (h : Own w B A c xs) : xs.length ≤ c ∧ c ≤ maxLen := by
  rcases h.2 with ⟨e, h0⟩ | ⟨g, cap, cur, hv, _, _, hnc, hm, _⟩
  · injection e with _ h1 h2
    omega
  · injection hv with _ _ h2
    subst h2
    exact ⟨hnc, hm⟩

theorem last_ab (A : Option Addr) (c B : Nat) (w : World) (hc : 2 ≤ c) (hB : B ≤ w.heap.size) (hx : Strs w B A [[97], [98]]) : Calls Try.prog 19 #[Pv A 2 c true] w fun e w' =>
    ∃ A' c', e = .returned (.tuple #[Pv A' 1 c' true, .string ⟨#[98]⟩, .int .i64 0]) ∧ Below w.heap.size w w' :=
  (last_yes A c B true [[97]] [98] w (by decide) hc hB hx (by decide)).mono fun _ _ ⟨A', c', he, _, hb⟩ => ⟨A', c', he, hb⟩
theorem join_ab (A A' : Option Addr) (c c' B : Nat) (w : World) (hB : B ≤ w.heap.size) (hx : Strs w B A [[97], [98]]) (hy : Strs w B A' [[97], [98]]) : Calls Try.prog 21 #[Pv A 2 c false, Pv A' 2 c' true] w fun e w' =>
    ∃ A5 c5 d, e = .returned (.tuple #[Pv A5 4 c5 d, .int .i64 0]) ∧ Below w.heap.size w w' :=
  (join_yes A A' 2 c 2 c' B false true [[97], [98]] [[97], [98]] w (by decide) rfl rfl hB hx hy).mono fun _ _ ⟨A5, c5, he, _, hb⟩ => ⟨A5, c5, _, he, hb⟩
theorem text_ab (A : Option Addr) (c B : Nat) (w : World) (hc : 2 ≤ c) (hB : B ≤ w.heap.size) (hx : Strs w B A [[97], [98]]) : Calls Try.prog 23 #[Pv A 2 c true] w fun e w' =>
    e = .returned (.string ⟨#[47, 97, 47, 98, 47]⟩) ∧ Below w.heap.size w w' :=
  (text_any A 2 c B true [[97], [98]] w rfl hc hB hx (by decide) (by decide)).mono fun _ _ ⟨he, hb⟩ => ⟨by rw [he, show textL [[97], [98]] true = [47, 97, 47, 98, 47] by decide], hb⟩
theorem less_ab (w : World) : Calls Try.prog 25 #[.string ⟨#[97]⟩, .string ⟨#[98]⟩] w fun e w' => e = .returned (.bool true) ∧ w = w' :=
  (less_any ⟨#[97]⟩ ⟨#[98]⟩ w).mono fun _ _ ⟨he, hw⟩ => ⟨by rw [he, lessB, Lib.toList_data, Lib.toList_data]; rfl, hw⟩

def AwakeE (w : World) (e : Ending) (w' : World) : Prop := e = .returned (.bool true) ∧ Below w.heap.size w w'

/-- A box that the call made, and kept. -/
structure Box (w : World) (b : Nat) (v0 v1 : Value) : Prop where
  c0 : w.cell? ⟨b, 0, none⟩ = some v0
  c1 : w.cell? ⟨b, 1, none⟩ = some v1
  lt : b < w.heap.size
theorem Box.new (w : World) (v0 v1 : Value) (t : TypeId) : Box (w.alloc (.cells #[v0, v1] t)) w.heap.size v0 v1 := ⟨by simp, by simp, by simp⟩
theorem Box.keep {w w' : World} {b : Nat} {v0 v1 : Value} (h : Box w b v0 v1) (hb : Below w.heap.size w w') : Box w' b v0 v1 :=
  ⟨(hb.cell (p := ⟨b, 0, none⟩) h.lt).trans h.c0, (hb.cell (p := ⟨b, 1, none⟩) h.lt).trans h.c1, Nat.lt_of_lt_of_le h.lt hb.size⟩
theorem below_alloc (w : World) (o : Obj) : Below w.heap.size w (w.alloc o) := (Below.refl _ _).alloc (Nat.le_refl _) _

set_option maxHeartbeats 4000000 in
theorem awake_any (w : World) : Calls Try.prog 12 #[] w (AwakeE w) := by
  go_enter Try.func12, Try.ntmps12
  go_wp2_with fail
  refine (parse_ab _).mono ?_
  rintro e w1 ⟨A1, c1, rfl, o1, b1⟩
  have p1 := Box.new w1 (.slice A1 2 c1) (.bool false) 25
  have u1 := o1.strs.below (below_alloc w1 (.cells #[.slice A1 2 c1, .bool false] 25))
  have l1 := cap_le o1
  replace b1 := b1.trans ((below_alloc w1 (.cells #[.slice A1 2 c1, .bool false] 25)).mono b1.size)
  clear o1
  go_wp2_with fail
  refine (parse_ab2 _).mono ?_
  rintro e w2 ⟨A2, c2, rfl, o2, b2⟩
  have b2' := b2.trans ((below_alloc w2 (.cells #[.slice A2 2 c2, .bool true] 25)).mono b2.size)
  have p2 := Box.new w2 (.slice A2 2 c2) (.bool true) 25
  have u2 := o2.strs.below (below_alloc w2 (.cells #[.slice A2 2 c2, .bool true] 25))
  have l2 := cap_le o2
  replace p1 := p1.keep b2'
  replace u1 := u1.below (b2'.mono (by simp))
  replace b1 := b1.trans (b2'.mono b1.size)
  clear o2 b2 b2'
  go_wp2_with fail
  refine (parse_none _).mono ?_
  rintro e w3 ⟨A3, c3, rfl, b3⟩
  have b3' := b3.trans ((below_alloc w3 (.cells #[.slice A3 0 c3, .bool false] 25)).mono b3.size)
  replace u1 := u1.below (b3'.mono (Nat.le_of_lt p1.lt))
  replace u2 := u2.below (b3'.mono (by simp))
  replace p1 := p1.keep b3'
  replace p2 := p2.keep b3'
  replace b1 := b1.trans (b3'.mono b1.size)
  clear b3 b3'
  have q0 := p2.c0
  have q1 := p2.c1
  go_wp2_with fail
  refine (last_ab A2 c2 _ _ l2.1 (Nat.le_of_lt p2.lt) u2).mono ?_
  rintro e w4 ⟨A4, c4, rfl, b4⟩
  have b4' := b4.trans ((below_alloc w4 (.cells #[.slice A4 1 c4, .bool true] 25)).mono b4.size)
  have p4 := Box.new w4 (.slice A4 1 c4) (.bool true) 25
  replace u1 := u1.below (b4'.mono (Nat.le_of_lt p1.lt))
  replace u2 := u2.below (b4'.mono (Nat.le_of_lt p2.lt))
  replace p1 := p1.keep b4'
  replace p2 := p2.keep b4'
  replace b1 := b1.trans (b4'.mono b1.size)
  clear b4 b4' q0 q1
  have q0 := p2.c0
  have q1 := p2.c1
  have r0 := p1.c0
  have r1 := p1.c1
  go_wp2_with fail
  have hB1 : w1.heap.size ≤ max w1.heap.size w2.heap.size := Nat.le_max_left _ _
  have hB2 : w2.heap.size ≤ max w1.heap.size w2.heap.size := Nat.le_max_right _ _
  have hB3 : max w1.heap.size w2.heap.size ≤ (w4.alloc (.cells #[.slice A4 1 c4, .bool true] 25)).heap.size := Nat.max_le.2 ⟨Nat.le_of_lt p1.lt, Nat.le_of_lt p2.lt⟩
  refine (join_ab A1 A2 c1 c2 _ _ hB3 (u1.more hB1) (u2.more hB2)).mono ?_
  clear hB1 hB2 hB3
  rintro e w5 ⟨A5, c5, d5, rfl, b5⟩
  have b5' := b5.trans ((below_alloc w5 (.cells #[.slice A5 4 c5, .bool d5] 25)).mono b5.size)
  have p5 := Box.new w5 (.slice A5 4 c5) (.bool d5) 25
  replace u2 := u2.below (b5'.mono (Nat.le_of_lt p2.lt))
  replace p1 := p1.keep b5'
  replace p2 := p2.keep b5'
  replace p4 := p4.keep b5'
  replace b1 := b1.trans (b5'.mono b1.size)
  clear b5 b5' q0 q1 r0 r1 u1
  have q0 := p2.c0
  have q1 := p2.c1
  have r0 := p1.c0
  have r1 := p1.c1
  have s0 := p4.c0
  have t0 := p5.c0
  go_wp2_with fail
  refine (text_ab A2 c2 _ _ l2.1 (Nat.le_of_lt p2.lt) u2).mono ?_
  rintro e w6 ⟨rfl, b6⟩
  replace b1 := b1.trans (b6.mono b1.size)
  clear b6 q0 q1 r0 r1 s0 t0 u2 p1 p2 p4 p5
  go_wp2_with fail
  refine (name_slash _).mono ?_
  rintro e w7 ⟨rfl, b7⟩
  replace b1 := b1.trans (b7.mono b1.size)
  clear b7
  go_wp2_with fail
  refine (less_ab _).mono ?_
  rintro e w8 ⟨rfl, rfl⟩
  go_wp2_with fail
  go_ret
  exact ⟨rfl, b1⟩
end Go.Proofs.Ytlaceeiodlpmdaa
