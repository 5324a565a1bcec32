/- 'Join': what it hands back of any two paths. -/
import Derived.Test.YtlaceeiodlpmdaaConcat
import Derived.Test.YtlaceeiodlpmdaaSame
import Derived.Deep.RegionHeld3
namespace Go.Proofs.Ytlaceeiodlpmdaa
open Go.RowKit

section
attribute [local simp] World.cell?_alloc_past World.cell?_alloc_at World.frozen?_alloc_past World.frozen?_alloc_at

def joinDir (ys : List Bs) (d d' : Bool) : Bool := if ys.isEmpty then d else d'
def JoinNo (w : World) (e : Ending) (w' : World) : Prop := e = .returned (.tuple #[Pv none 0 0 false, .int .i64 36]) ∧ Below w.heap.size w w'
def JoinYes (w : World) (zs : List Bs) (d : Bool) (e : Ending) (w' : World) : Prop :=
  ∃ A c, e = .returned (.tuple #[Pv A zs.length c d, .int .i64 0]) ∧ Own w' w.heap.size A c zs ∧ Below w.heap.size w w'

set_option maxHeartbeats 400000 in
theorem join_no (A A' : Option Addr) (n c n' c' : Nat) (d d' : Bool) (w : World) (h : 40 < n + n') (h1 : n ≤ 65536) (h2 : n' ≤ 65536) :
    Calls Try.prog 21 #[Pv A n c d, Pv A' n' c' d'] w (JoinNo w) := by
  go_enter Try.func21, Try.ntmps21
  go_wp2
  exact bodyPost_ret (v := .tuple #[Pv none 0 0 false, .int .i64 36]) (by simp [results, Try.results21, go_sem]) rfl ⟨rfl, (((Below.refl _ _).alloc (Nat.le_refl _) _).alloc (by simp) _).alloc (by simp; omega) _⟩

/-- What the call of 'Concat' leaves, whichever of the three worlds it was made in. -/
def JW0 (w : World) (A A' : Option Addr) (n c n' c' : Nat) (d d' : Bool) : World := ((w.alloc (.cells #[.slice A n c, .bool d] 25)).alloc (.cells #[.slice A' n' c', .bool d'] 25)).alloc (.cells #[.slice none 0 0, .bool false] 25)
structure JF (w : World) (A A' : Option Addr) (n c n' c' : Nat) (d d' : Bool) (w2 : World) : Prop where
  a0 : w2.cell? ⟨w.heap.size, 1, none⟩ = some (.bool d)
  a1 : w2.cell? ⟨w.heap.size + 1, 0, none⟩ = some (.slice A' n' c')
  a2 : w2.cell? ⟨w.heap.size + 1, 1, none⟩ = some (.bool d')
  a3 : w2.cell? ⟨w.heap.size + 1 + 1, 0, none⟩ = some (.slice none 0 0)
  a4 : w2.cell? ⟨w.heap.size + 1 + 1, 1, none⟩ = some (.bool false)
  a5 : w2.frozen? ⟨w.heap.size + 1 + 1, 0, none⟩ = false
  a6 : w2.frozen? ⟨w.heap.size + 1 + 1, 1, none⟩ = false
  a7 : w.heap.size + 4 ≤ w2.heap.size
  a8 : w2.cell? ⟨w.heap.size, 0, none⟩ = some (.slice A n c)
  a9 : w.heap.size + 1 + 1 < w2.heap.size

theorem jf_of {w W w2 : World} {A A' : Option Addr} {n c n' c' : Nat} {d d' : Bool} (h1 : Below (w.heap.size + 3) (JW0 w A A' n c n' c' d d') W) (hs : w.heap.size + 4 ≤ W.heap.size) (h2 : Below W.heap.size W w2) :
    JF w A A' n c n' c' d d' w2 := by
  have h := h1.trans (h2.mono (by omega))
  refine ⟨?_, ?_, ?_, ?_, ?_, ?_, ?_, ?_, ?_, ?_⟩
  · rw [h.cell (p := ⟨w.heap.size, 1, none⟩) (by simp), JW0, World.cell?_alloc_past _ _ _ (by rw [World.size_alloc, World.size_alloc]; omega)]; simp
  · rw [h.cell (p := ⟨w.heap.size + 1, 0, none⟩) (by simp)]; simp [JW0]
  · rw [h.cell (p := ⟨w.heap.size + 1, 1, none⟩) (by simp)]; simp [JW0]
  · rw [h.cell (p := ⟨w.heap.size + 1 + 1, 0, none⟩) (by simp)]; simp [JW0]
  · rw [h.cell (p := ⟨w.heap.size + 1 + 1, 1, none⟩) (by simp)]; simp [JW0]
  · rw [h.frozen (p := ⟨w.heap.size + 1 + 1, 0, none⟩) (by simp)]; simp [JW0]
  · rw [h.frozen (p := ⟨w.heap.size + 1 + 1, 1, none⟩) (by simp)]; simp [JW0]
  · have := h2.size; omega
  · rw [h.cell (p := ⟨w.heap.size, 0, none⟩) (by simp), JW0, World.cell?_alloc_past _ _ _ (by rw [World.size_alloc, World.size_alloc]; omega)]; simp
  · have := h2.size; omega

theorem keep_alloc {w2 : World} {b i k : Nat} {u : Value} (h : w2.cell? ⟨b, i, none⟩ = some u) (_hk : b + k < w2.heap.size) (o : Obj) : (w2.alloc o).cell? ⟨b, i, none⟩ = some u := by
  rw [World.cell?_alloc_past _ _ _ (by omega)]; exact h

theorem keep_set2 {w2 : World} {b i b' i1 i2 : Nat} {u1 u2 u : Value} (h : w2.cell? ⟨b, i, none⟩ = some u) (hne : b ≠ b') : ((w2.setCell ⟨b', i1, none⟩ u1).setCell ⟨b', i2, none⟩ u2).cell? ⟨b, i, none⟩ = some u := by
  have h1 : ∀ k, (⟨b', k, none⟩ : Addr) ≠ ⟨b, i, none⟩ := fun k e => hne (congrArg Addr.block e).symm
  rw [World.cell?_setCell_other _ _ _ _ (h1 _), World.cell?_setCell_other _ _ _ _ (h1 _)]; exact h

theorem joinOwn0 {w w2 : World} {A2 : Option Addr} {c2 : Nat} {zs : List Bs} (h : Own w2 (w.heap.size + 5) A2 c2 zs) (b : Nat) (hb : b < w.heap.size + 5) (u1 u2 : Value) :
    Own ((w2.setCell ⟨b, 0, none⟩ u1).setCell ⟨b, 1, none⟩ u2) (w.heap.size + 5) A2 c2 zs := (h.set hb _).set hb _
theorem joinBel0 {w w2 : World} (h : Below w.heap.size w w2) (b : Nat) (hb : w.heap.size ≤ b) (u1 u2 : Value) : Below w.heap.size w ((w2.setCell ⟨b, 0, none⟩ u1).setCell ⟨b, 1, none⟩ u2) := (h.setCell hb _).setCell hb _
theorem joinOwn1 {w w2 : World} {A2 : Option Addr} {c2 : Nat} {zs : List Bs} (h : Own w2 (w.heap.size + 4) A2 c2 zs) (u1 u2 : Value) (o : Obj) :
    Own (((w2.setCell ⟨w.heap.size + 1 + 1, 0, none⟩ u1).setCell ⟨w.heap.size + 1 + 1, 1, none⟩ u2).alloc o) w.heap.size A2 c2 zs :=
  Own.base (World.ownsRow.alloc ((h.set (by simp) _).set (by simp) _) o) (by omega)
theorem joinBel1 {w w2 : World} (h : Below w.heap.size w w2) (_h4 : w.heap.size + 4 ≤ w2.heap.size) (u1 u2 : Value) (o : Obj) :
    Below w.heap.size w (((w2.setCell ⟨w.heap.size + 1 + 1, 0, none⟩ u1).setCell ⟨w.heap.size + 1 + 1, 1, none⟩ u2).alloc o) :=
  ((h.setCell (by show _ ≤ _ + 1 + 1; omega) _).setCell (by show _ ≤ _ + 1 + 1; omega) _).alloc (by show _ ≤ _; simp; omega) _
theorem keep_new2 {w2 : World} {b : Nat} {u1 u2 v1 v2 : Value} (h0 : w2.cell? ⟨b, 0, none⟩ = some v1) (h1 : w2.cell? ⟨b, 1, none⟩ = some v2) (f0 : w2.frozen? ⟨b, 0, none⟩ = false) (f1 : w2.frozen? ⟨b, 1, none⟩ = false) :
    ((w2.setCell ⟨b, 0, none⟩ u1).setCell ⟨b, 1, none⟩ u2).cell? ⟨b, 0, none⟩ = some u1 ∧ ((w2.setCell ⟨b, 0, none⟩ u1).setCell ⟨b, 1, none⟩ u2).cell? ⟨b, 1, none⟩ = some u2 ∧
    ((w2.setCell ⟨b, 0, none⟩ u1).setCell ⟨b, 1, none⟩ u2).frozen? ⟨b, 0, none⟩ = false ∧ ((w2.setCell ⟨b, 0, none⟩ u1).setCell ⟨b, 1, none⟩ u2).frozen? ⟨b, 1, none⟩ = false := by
  have hne : (⟨b, 1, none⟩ : Addr) ≠ ⟨b, 0, none⟩ := by intro e; have := congrArg Addr.off e; simp at this
  have hne' : (⟨b, 0, none⟩ : Addr) ≠ ⟨b, 1, none⟩ := fun e => hne e.symm
  refine ⟨?_, ?_, by simpa using f0, by simpa using f1⟩
  · rw [World.cell?_setCell_other _ _ _ _ hne, World.cell?_setCell_same _ _ _ h0]
  · rw [World.cell?_setCell_same _ _ _ (by rw [World.cell?_setCell_other _ _ _ _ hne']; exact h1)]

structure JBox (w2 : World) (b : Nat) : Prop where
  c0 : w2.cell? ⟨b, 0, none⟩ = some (.slice none 0 0)
  c1 : w2.cell? ⟨b, 1, none⟩ = some (.bool false)
  f0 : w2.frozen? ⟨b, 0, none⟩ = false
  f1 : w2.frozen? ⟨b, 1, none⟩ = false

set_option maxHeartbeats 8000000 in
theorem join_yes (A A' : Option Addr) (n c n' c' B : Nat) (d d' : Bool) (xs ys : List Bs) (w : World) (h : n + n' ≤ 40) (hn : n = xs.length) (hn' : n' = ys.length)
    (hB : B ≤ w.heap.size) (hx : Strs w B A xs) (hy : Strs w B A' ys) :
    Calls Try.prog 21 #[Pv A n c d, Pv A' n' c' d'] w (JoinYes w (xs ++ ys) (joinDir ys d d')) := by
  have HN := Lib.hid hn
  have HN' := Lib.hid hn'
  clear hn hn'
  have hz : (JW0 w A A' n c n' c' d d').heap.size = w.heap.size + 3 := by simp [JW0]
  have b3 : Below w.heap.size w (JW0 w A A' n c n' c' d d') :=
    (((Below.refl _ _).alloc (Nat.le_refl _) _).alloc (by simp) _).alloc (by simp; omega) _
  have HC : ∀ (W : World) (b : Nat), Below (w.heap.size + 3) (JW0 w A A' n c n' c' d d') W → w.heap.size + 4 ≤ W.heap.size → b < W.heap.size → W.cell? ⟨b, 0, none⟩ = some (.slice A n c) → W.cell? ⟨b, 1, none⟩ = some (.slice A' n' c') →
      Calls Try.prog 34 #[.slice (some ⟨b, 0, none⟩) 2 2] W fun e w2 => ∃ A2 c2, e = .returned (.slice A2 (xs ++ ys).length c2) ∧ Own w2 W.heap.size A2 c2 (xs ++ ys) ∧ Below W.heap.size W w2 ∧ Below w.heap.size w w2 ∧ JF w A A' n c n' c' d d' w2 :=
    fun W b hW hs hb h0 h1 => by
      have b4 : Below w.heap.size w W := b3.trans (hW.mono (by omega))
      refine (concat_any b B A A' n c n' c' xs ys W HN.out HN'.out (by omega) hb (by omega) h0 h1 (hx.below (b4.mono hB)) (hy.below (b4.mono hB))).mono ?_
      rintro e w2 ⟨A2, c2, he, hown, hb2⟩
      exact ⟨A2, c2, he, hown, hb2, b4.trans (hb2.mono (by omega)), jf_of hW hs hb2⟩
  have C1 := HC ((JW0 w A A' n c n' c' d d').alloc (.cells #[.slice A n c, .slice A' n' c'] 23)).drew (w.heap.size + 1 + 1 + 1) ((Below.refl _ _).alloc (by omega) _).drew (by simp [hz]) (by simp [hz]) (by simp [JW0]) (by simp [JW0])
  have C2 := HC (((JW0 w A A' n c n' c' d d').alloc (.cells #[.slice A n c, .slice A' n' c'] 23)).alloc (.cells #[.slice none 0 0, .bool false] 25)).drew (w.heap.size + 1 + 1 + 1) (((Below.refl _ _).alloc (by omega) _).alloc (by simp; omega) _).drew (by simp [hz]) (by simp [hz]) (by simp [JW0]) (by simp [JW0])
  have C3 := HC (((JW0 w A A' n c n' c' d d').alloc (.cells #[.slice none 0 0, .bool false] 25)).alloc (.cells #[.slice A n c, .slice A' n' c'] 23)).drew (w.heap.size + 1 + 1 + 1 + 1) (((Below.refl _ _).alloc (by omega) _).alloc (by simp; omega) _).drew (by simp [hz]) (by simp [hz]) (by simp [JW0]) (by simp [JW0])
  have s0 : ∀ (b i : Nat) (u : Value), b < w.heap.size + 2 → (JW0 w A A' n c n' c' d d').cell? ⟨b, i, none⟩ = some u → (∀ o1, ((JW0 w A A' n c n' c' d d').alloc o1).cell? ⟨b, i, none⟩ = some u) ∧ (∀ o1 o2, (((JW0 w A A' n c n' c' d d').alloc o1).alloc o2).cell? ⟨b, i, none⟩ = some u) := fun b i u hb h => by
    have h1 : ∀ o1, ((JW0 w A A' n c n' c' d d').alloc o1).cell? ⟨b, i, none⟩ = some u := fun o1 => by rw [World.cell?_alloc_past _ _ _ (by omega)]; exact h
    exact ⟨h1, fun o1 o2 => by rw [World.cell?_alloc_past _ _ _ (by rw [World.size_alloc]; omega)]; exact h1 o1⟩
  have e0 : (JW0 w A A' n c n' c' d d').cell? ⟨w.heap.size, 0, none⟩ = some (.slice A n c) := by rw [JW0, World.cell?_alloc_past _ _ _ (by rw [World.size_alloc, World.size_alloc]; omega)]; simp
  obtain ⟨g0, m0⟩ := s0 _ _ _ (by omega) e0
  have e1 : (JW0 w A A' n c n' c' d d').cell? ⟨w.heap.size + 1, 0, none⟩ = some (.slice A' n' c') := by simp [JW0]
  obtain ⟨g1, m1⟩ := s0 _ _ _ (by omega) e1
  have e2 : (JW0 w A A' n c n' c' d d').cell? ⟨w.heap.size + 1, 1, none⟩ = some (.bool d') := by simp [JW0]
  obtain ⟨g2, m2⟩ := s0 _ _ _ (by omega) e2
  clear s0
  have x2 : ∀ w2, Below (((JW0 w A A' n c n' c' d d').alloc (.cells #[.slice A n c, .slice A' n' c'] 23)).alloc (.cells #[.slice none 0 0, .bool false] 25)).drew.heap.size (((JW0 w A A' n c n' c' d d').alloc (.cells #[.slice A n c, .slice A' n' c'] 23)).alloc (.cells #[.slice none 0 0, .bool false] 25)).drew w2 → JBox w2 (w.heap.size + 1 + 1 + 1 + 1) := fun w2 hb => by
    refine ⟨?_, ?_, ?_, ?_⟩
    · rw [hb.cell (p := ⟨w.heap.size + 1 + 1 + 1 + 1, 0, none⟩) (by simp [hz])]; simp [JW0]
    · rw [hb.cell (p := ⟨w.heap.size + 1 + 1 + 1 + 1, 1, none⟩) (by simp [hz])]; simp [JW0]
    · rw [hb.frozen (p := ⟨w.heap.size + 1 + 1 + 1 + 1, 0, none⟩) (by simp [hz])]; simp [JW0]
    · rw [hb.frozen (p := ⟨w.heap.size + 1 + 1 + 1 + 1, 1, none⟩) (by simp [hz])]; simp [JW0]
  have x3 : ∀ w2, Below (((JW0 w A A' n c n' c' d d').alloc (.cells #[.slice none 0 0, .bool false] 25)).alloc (.cells #[.slice A n c, .slice A' n' c'] 23)).drew.heap.size (((JW0 w A A' n c n' c' d d').alloc (.cells #[.slice none 0 0, .bool false] 25)).alloc (.cells #[.slice A n c, .slice A' n' c'] 23)).drew w2 → JBox w2 (w.heap.size + 1 + 1 + 1) := fun w2 hb => by
    refine ⟨?_, ?_, ?_, ?_⟩
    · rw [hb.cell (p := ⟨w.heap.size + 1 + 1 + 1, 0, none⟩) (by simp [hz])]; simp [JW0]
    · rw [hb.cell (p := ⟨w.heap.size + 1 + 1 + 1, 1, none⟩) (by simp [hz])]; simp [JW0]
    · rw [hb.frozen (p := ⟨w.heap.size + 1 + 1 + 1, 0, none⟩) (by simp [hz])]; simp [JW0]
    · rw [hb.frozen (p := ⟨w.heap.size + 1 + 1 + 1, 1, none⟩) (by simp [hz])]; simp [JW0]
  have HJ0 := Lib.hid (show n' = 0 → joinDir ys d d' = d by
    intro h0
    have : ys = [] := List.eq_nil_of_length_eq_zero (by rw [← HN'.out]; exact h0)
    simp [joinDir, this])
  have HJ1 := Lib.hid (show ¬ n' = 0 → joinDir ys d d' = d' by
    intro h0
    cases ys with
    | nil => exact absurd HN'.out h0
    | cons _ _ => simp [joinDir])
  clear HC hx hy hz
  unfold JW0 at x2 x3 C1 C2 C3 e0 e1 e2 g0 g1 g2 m0 m1 m2
  go_enter Try.func21, Try.ntmps21
  go_wp2_with fail
  go_region_held3 (fun w' => w'.cell? ⟨w.heap.size, 0, none⟩ = some (.slice A n c) ∧ w'.cell? ⟨w.heap.size + 1, 0, none⟩ = some (.slice A' n' c') ∧ w'.cell? ⟨w.heap.size + 1, 1, none⟩ = some (.bool d'))
    (first
      | exact ⟨e0, e1, e2⟩
      | exact ⟨g0 _, g1 _, g2 _⟩
      | exact ⟨m0 _ _, m1 _ _, m2 _ _⟩
      | exact ⟨a8, a1, a2⟩
      | exact ⟨keep_alloc (k := 2) a8 (by omega) _, keep_alloc (k := 1) a1 (by omega) _, keep_alloc (k := 1) a2 (by omega) _⟩
      | exact ⟨keep_set2 a8 (by omega), keep_set2 a1 (by omega), keep_set2 a2 (by omega)⟩
      | go_keep)
    (first
    | (go_at_call 34; with_reducible refine C1.mono ?_; rintro e w2 ⟨A2, c2, rfl, hown, hb, hbw, a0, a1, a2, a3, a4, a5, a6, a7, a8, a9⟩)
    | (go_at_call 34; with_reducible refine C2.mono ?_; rintro e w2 ⟨A2, c2, rfl, hown, hb, hbw, a0, a1, a2, a3, a4, a5, a6, a7, a8, a9⟩; have q0 := (x2 w2 hb).c0; have q1 := (x2 w2 hb).c1; have q2 := (x2 w2 hb).f0; have q3 := (x2 w2 hb).f1)
    | (go_at_call 34; with_reducible refine C3.mono ?_; rintro e w2 ⟨A2, c2, rfl, hown, hb, hbw, a0, a1, a2, a3, a4, a5, a6, a7, a8, a9⟩; have q0 := (x3 w2 hb).c0; have q1 := (x3 w2 hb).c1; have q2 := (x3 w2 hb).f0; have q3 := (x3 w2 hb).f1))
  all_goals clear C1 C2 C3 x2 x3 e0 e1 e2 g0 g1 g2 m0 m1 m2
  · have ho := (hown.base (B' := w.heap.size + 4) (by simp))
    have s0 : w.heap.size < w2.heap.size := by omega
    have s1 : w.heap.size + 1 < w2.heap.size := by omega
    clear hown hb
    by_cases h0 : n' = 0
    · have H0 := Lib.hid (HJ0.out h0)
      clear HJ0 HJ1
      go_wp2
      refine bodyPost_ret (v := .tuple #[Pv A2 (xs.length + ys.length) c2 d, .int .i64 0]) (by simp [results, Try.results21, go_sem, *]) rfl ⟨A2, c2, by rw [H0.out, List.length_append], ?_, ?_⟩
      · exact joinOwn1 ho _ _ _
      · exact joinBel1 hbw a7 _ _ _
    · have H0 := Lib.hid (HJ1.out h0)
      clear HJ0 HJ1
      go_wp2
      refine bodyPost_ret (v := .tuple #[Pv A2 (xs.length + ys.length) c2 d', .int .i64 0]) (by simp [results, Try.results21, go_sem, *]) rfl ⟨A2, c2, by rw [H0.out, List.length_append], ?_, ?_⟩
      · exact joinOwn1 ho _ _ _
      · exact joinBel1 hbw a7 _ _ _
  · have ho := joinOwn0 (hown.base (B' := w.heap.size + 5) (by simp)) (w.heap.size + 1 + 1 + 1 + 1) (by omega) (.slice A2 (xs.length + ys.length) c2) (.bool d')
    have hbw2 := joinBel0 hbw (w.heap.size + 1 + 1 + 1 + 1) (by omega) (.slice A2 (xs.length + ys.length) c2) (.bool d')
    have y0 := keep_set2 (b' := w.heap.size + 1 + 1 + 1 + 1) (i1 := 0) (i2 := 1) (u1 := .slice A2 (xs.length + ys.length) c2) (u2 := .bool d') a0 (by omega)
    have y1 := keep_set2 (b' := w.heap.size + 1 + 1 + 1 + 1) (i1 := 0) (i2 := 1) (u1 := .slice A2 (xs.length + ys.length) c2) (u2 := .bool d') a1 (by omega)
    have y3 := keep_set2 (b' := w.heap.size + 1 + 1 + 1 + 1) (i1 := 0) (i2 := 1) (u1 := .slice A2 (xs.length + ys.length) c2) (u2 := .bool d') a3 (by omega)
    have y4 := keep_set2 (b' := w.heap.size + 1 + 1 + 1 + 1) (i1 := 0) (i2 := 1) (u1 := .slice A2 (xs.length + ys.length) c2) (u2 := .bool d') a4 (by omega)
    have z0 := keep_new2 (u1 := .slice A2 (xs.length + ys.length) c2) (u2 := .bool d') q0 q1 q2 q3
    have z5 : ((w2.setCell ⟨w.heap.size + 1 + 1 + 1 + 1, 0, none⟩ (.slice A2 (xs.length + ys.length) c2)).setCell ⟨w.heap.size + 1 + 1 + 1 + 1, 1, none⟩ (.bool d')).frozen? ⟨w.heap.size + 1 + 1, 0, none⟩ = false := by simpa using a5
    have z6 : ((w2.setCell ⟨w.heap.size + 1 + 1 + 1 + 1, 0, none⟩ (.slice A2 (xs.length + ys.length) c2)).setCell ⟨w.heap.size + 1 + 1 + 1 + 1, 1, none⟩ (.bool d')).frozen? ⟨w.heap.size + 1 + 1, 1, none⟩ = false := by simpa using a6
    obtain ⟨z1, z2, z3, z4⟩ := z0
    clear q0 q1 q2 q3 a0 a1 a2 a3 a4 a5 a6 a7 a8 a9 hown hb hbw b3
    rename_i hHeld
    clear hHeld
    generalize (w2.setCell ⟨w.heap.size + 1 + 1 + 1 + 1, 0, none⟩ (.slice A2 (xs.length + ys.length) c2)).setCell ⟨w.heap.size + 1 + 1 + 1 + 1, 1, none⟩ (.bool d') = w3 at *
    by_cases h0 : n' = 0
    · have H0 := Lib.hid (HJ0.out h0)
      clear HJ0 HJ1
      go_wp2
      refine bodyPost_ret (v := .tuple #[Pv A2 (xs.length + ys.length) c2 d, .int .i64 0]) (by simp [results, Try.results21, go_sem, *]) rfl ⟨A2, c2, by rw [H0.out, List.length_append], ?_, ?_⟩
      · exact (((ho.set (by simp) _).set (by simp) _).set (by simp) _).base (by omega)
      · exact ((hbw2.setCell (by simp; omega) _).setCell (by simp; omega) _).setCell (by simp; omega) _
    · have H0 := Lib.hid (HJ1.out h0)
      clear HJ0 HJ1
      go_wp2
      refine bodyPost_ret (v := .tuple #[Pv A2 (xs.length + ys.length) c2 d', .int .i64 0]) (by simp [results, Try.results21, go_sem, *]) rfl ⟨A2, c2, by rw [H0.out, List.length_append], ?_, ?_⟩
      · exact ((ho.set (by simp) _).set (by simp) _).base (by omega)
      · exact (hbw2.setCell (by simp; omega) _).setCell (by simp; omega) _
  · have ho := joinOwn0 (hown.base (B' := w.heap.size + 5) (by simp)) (w.heap.size + 1 + 1 + 1) (by omega) (.slice A2 (xs.length + ys.length) c2) (.bool d')
    have hbw2 := joinBel0 hbw (w.heap.size + 1 + 1 + 1) (by omega) (.slice A2 (xs.length + ys.length) c2) (.bool d')
    have y0 := keep_set2 (b' := w.heap.size + 1 + 1 + 1) (i1 := 0) (i2 := 1) (u1 := .slice A2 (xs.length + ys.length) c2) (u2 := .bool d') a0 (by omega)
    have y1 := keep_set2 (b' := w.heap.size + 1 + 1 + 1) (i1 := 0) (i2 := 1) (u1 := .slice A2 (xs.length + ys.length) c2) (u2 := .bool d') a1 (by omega)
    have y3 := keep_set2 (b' := w.heap.size + 1 + 1 + 1) (i1 := 0) (i2 := 1) (u1 := .slice A2 (xs.length + ys.length) c2) (u2 := .bool d') a3 (by omega)
    have y4 := keep_set2 (b' := w.heap.size + 1 + 1 + 1) (i1 := 0) (i2 := 1) (u1 := .slice A2 (xs.length + ys.length) c2) (u2 := .bool d') a4 (by omega)
    have z0 := keep_new2 (u1 := .slice A2 (xs.length + ys.length) c2) (u2 := .bool d') q0 q1 q2 q3
    have z5 : ((w2.setCell ⟨w.heap.size + 1 + 1 + 1, 0, none⟩ (.slice A2 (xs.length + ys.length) c2)).setCell ⟨w.heap.size + 1 + 1 + 1, 1, none⟩ (.bool d')).frozen? ⟨w.heap.size + 1 + 1, 0, none⟩ = false := by simpa using a5
    have z6 : ((w2.setCell ⟨w.heap.size + 1 + 1 + 1, 0, none⟩ (.slice A2 (xs.length + ys.length) c2)).setCell ⟨w.heap.size + 1 + 1 + 1, 1, none⟩ (.bool d')).frozen? ⟨w.heap.size + 1 + 1, 1, none⟩ = false := by simpa using a6
    obtain ⟨z1, z2, z3, z4⟩ := z0
    clear q0 q1 q2 q3 a0 a1 a2 a3 a4 a5 a6 a7 a8 a9 hown hb hbw b3
    rename_i hHeld
    clear hHeld
    generalize (w2.setCell ⟨w.heap.size + 1 + 1 + 1, 0, none⟩ (.slice A2 (xs.length + ys.length) c2)).setCell ⟨w.heap.size + 1 + 1 + 1, 1, none⟩ (.bool d') = w3 at *
    by_cases h0 : n' = 0
    · have H0 := Lib.hid (HJ0.out h0)
      clear HJ0 HJ1
      go_wp2
      refine bodyPost_ret (v := .tuple #[Pv A2 (xs.length + ys.length) c2 d, .int .i64 0]) (by simp [results, Try.results21, go_sem, *]) rfl ⟨A2, c2, by rw [H0.out, List.length_append], ?_, ?_⟩
      · exact (((ho.set (by simp) _).set (by simp) _).set (by simp) _).base (by omega)
      · exact ((hbw2.setCell (by simp; omega) _).setCell (by simp; omega) _).setCell (by simp; omega) _
    · have H0 := Lib.hid (HJ1.out h0)
      clear HJ0 HJ1
      go_wp2
      refine bodyPost_ret (v := .tuple #[Pv A2 (xs.length + ys.length) c2 d', .int .i64 0]) (by simp [results, Try.results21, go_sem, *]) rfl ⟨A2, c2, by rw [H0.out, List.length_append], ?_, ?_⟩
      · exact ((ho.set (by simp) _).set (by simp) _).base (by omega)
      · exact (hbw2.setCell (by simp; omega) _).setCell (by simp; omega) _
end
end Go.Proofs.Ytlaceeiodlpmdaa
