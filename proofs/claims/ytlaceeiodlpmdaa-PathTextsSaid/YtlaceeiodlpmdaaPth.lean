/- A path in a box that the call made: its names, and how all of it is kept. -/
import Derived.Test.YtlaceeiodlpmdaaAwake
import Derived.Test.YtlaceeiodlpmdaaLarge
namespace Go.Proofs.Ytlaceeiodlpmdaa
open Go.RowKit

theorem Strs.up {w w' : World} {A : Option Addr} {xs : List Bs} (h : Strs w w.heap.size A xs) (hb : Below w.heap.size w w') : Strs w' w'.heap.size A xs := (h.below hb).more hb.size
theorem below_step {w0 w w' : World} (h : Below w0.heap.size w0 w) (hb : Below w.heap.size w w') : Below w0.heap.size w0 w' := h.trans (hb.mono h.size)

structure Pth (w : World) (b : Nat) (A : Option Addr) (n c : Nat) (d : Bool) (xs : List Bs) : Prop where
  box : Box w b (.slice A n c) (.bool d)
  fr : w.frozen? ⟨b, 1, none⟩ = false
  len : n = xs.length
  st : Strs w w.heap.size A xs
  cap : n ≤ c ∧ c ≤ maxLen
theorem Pth.keep {w w' : World} {b : Nat} {A : Option Addr} {n c : Nat} {d : Bool} {xs : List Bs} (h : Pth w b A n c d xs) (hb : Below w.heap.size w w') : Pth w' b A n c d xs :=
  ⟨h.box.keep hb, (hb.frozen (p := ⟨b, 1, none⟩) h.box.lt).trans h.fr, h.len, h.st.up hb, h.cap⟩
theorem Pth.new {w : World} {A : Option Addr} {n c : Nat} {xs : List Bs} (d : Bool) (hn : n = xs.length) (hs : Strs w w.heap.size A xs) (hc : n ≤ c ∧ c ≤ maxLen) :
    Pth (w.alloc (.cells #[.slice A n c, .bool d] 25)) w.heap.size A n c d xs :=
  ⟨Box.new w _ _ 25, by simp, hn, hs.up (below_alloc w _), hc⟩
theorem Pth.own {w : World} {B : Nat} {A : Option Addr} {c : Nat} {xs : List Bs} (d : Bool) (h : Own w B A c xs) :
    Pth (w.alloc (.cells #[.slice A xs.length c, .bool d] 25)) w.heap.size A xs.length c d xs := Pth.new d rfl h.strs (cap_le h)

/-- 'Join' of two paths in their boxes. -/
theorem Pth.join {w : World} {b b' : Nat} {A A' : Option Addr} {n c n' c' : Nat} {d d' : Bool} {xs ys zs : List Bs} (h : Pth w b A n c d xs) (h' : Pth w b' A' n' c' d' ys) (hs : n + n' ≤ 40) (hz : xs ++ ys = zs) :
    Calls Try.prog 21 #[Pv A n c d, Pv A' n' c' d'] w fun e w' => ∃ A2 c2, e = .returned (.tuple #[Pv A2 zs.length c2 (joinDir ys d d'), .int .i64 0]) ∧
      Pth (w'.alloc (.cells #[.slice A2 zs.length c2, .bool (joinDir ys d d')] 25)) w'.heap.size A2 zs.length c2 (joinDir ys d d') zs ∧ w.heap.size ≤ w'.heap.size ∧ Below w.heap.size w (w'.alloc (.cells #[.slice A2 zs.length c2, .bool (joinDir ys d d')] 25)) := by
  subst hz
  exact (join_yes A A' n c n' c' w.heap.size d d' xs ys w hs h.len h'.len (Nat.le_refl _) h.st h'.st).mono fun _ _ ⟨A2, c2, he, ho, hb⟩ => ⟨A2, c2, he, Pth.own _ ho, hb.size, hb.trans ((below_alloc _ _).mono hb.size)⟩
theorem Pth.large {w : World} {b : Nat} {A : Option Addr} {n c : Nat} {d : Bool} {xs : List Bs} (h : Pth w b A n c d xs) : Calls Try.prog 18 #[Pv A n c d] w (LargeE w xs) :=
  large_any A n c w.heap.size d xs w h.len h.cap.1 h.cap.2 (Nat.le_refl _) h.st
theorem Pth.same {w : World} {b b' : Nat} {A A' : Option Addr} {n c n' c' : Nat} {d d' : Bool} {xs ys : List Bs} (h : Pth w b A n c d xs) (h' : Pth w b' A' n' c' d' ys) (hn : n ≤ 65536) : Calls Try.prog 15 #[Pv A n c d, Pv A' n' c' d'] w (SameE w xs ys d d') :=
  same_any A A' n c n' c' w.heap.size d d' xs ys w h.len h'.len hn (Nat.le_refl _) h.st h'.st

/-- 'Join' with a path of no names. -/
theorem Pth.join0 {w : World} {b : Nat} {A : Option Addr} {n c : Nat} {d : Bool} {xs : List Bs} (h : Pth w b A n c d xs) (hs : n ≤ 40) :
    Calls Try.prog 21 #[Pv A n c d, Pv none 0 0 false] w fun e w' => ∃ A2 c2, e = .returned (.tuple #[Pv A2 n c2 d, .int .i64 0]) ∧
      Pth (w'.alloc (.cells #[.slice A2 n c2, .bool d] 25)) w'.heap.size A2 n c2 d xs ∧ w.heap.size ≤ w'.heap.size ∧ Below w.heap.size w (w'.alloc (.cells #[.slice A2 n c2, .bool d] 25)) := by
  refine (join_yes A none n c 0 0 w.heap.size d false xs [] w (by omega) h.len rfl (Nat.le_refl _) h.st (Strs.nil _ _ _)).mono ?_
  rintro e w' ⟨A2, c2, he, ho, hb⟩
  rw [List.append_nil] at he ho
  have hn := h.len
  subst hn
  exact ⟨A2, c2, he, Pth.own _ ho, hb.size, hb.trans ((below_alloc _ _).mono hb.size)⟩

theorem Strs.set {w : World} {B : Nat} {A : Option Addr} {xs : List Bs} (h : Strs w B A xs) {p : Addr} {d : Bool} (hc : w.cell? p = some (.bool d)) (u : Value) : Strs (w.setCell p u) B A xs := fun hn => by
  obtain ⟨ad, e, hb, hcell⟩ := h hn
  refine ⟨ad, e, hb, fun j x hx => ?_⟩
  have := hcell j x hx
  rw [World.cell?_setCell_other _ _ _ _ (fun e => by rw [← e, hc] at this; cases this)]
  exact this
/-- The mark of a path in a box, written. -/
theorem Pth.set {w : World} {b : Nat} {A : Option Addr} {n c : Nat} {d : Bool} {xs : List Bs} (h : Pth w b A n c d xs) (d' : Bool) : Pth (w.setCell ⟨b, 1, none⟩ (.bool d')) b A n c d' xs := by
  refine ⟨⟨?_, ?_, ?_⟩, ?_, h.len, ?_, h.cap⟩
  · rw [World.cell?_setCell_other _ _ _ _ (fun e => by have := congrArg Addr.off e; simp at this)]; exact h.box.c0
  · exact World.cell?_setCell_same _ _ _ h.box.c1
  · have := h.box.lt; simpa [World.setCell] using this
  · simpa using h.fr
  · have := h.st.set h.box.c1 (.bool d')
    simpa [World.setCell] using this
theorem Pth.setOther {w : World} {b b' : Nat} {A : Option Addr} {n c : Nat} {d e : Bool} {xs : List Bs} (h : Pth w b A n c d xs) (hne : b ≠ b') (hc : w.cell? ⟨b', 1, none⟩ = some (.bool e)) (u : Value) : Pth (w.setCell ⟨b', 1, none⟩ u) b A n c d xs := by
  have hn : ∀ i, (⟨b', 1, none⟩ : Addr) ≠ ⟨b, i, none⟩ := fun i e => hne (congrArg Addr.block e).symm
  refine ⟨⟨?_, ?_, ?_⟩, ?_, h.len, ?_, h.cap⟩
  · rw [World.cell?_setCell_other _ _ _ _ (hn 0)]; exact h.box.c0
  · rw [World.cell?_setCell_other _ _ _ _ (hn 1)]; exact h.box.c1
  · have := h.box.lt; simpa [World.setCell] using this
  · simpa using h.fr
  · have := h.st.set hc u
    simpa [World.setCell] using this

/-- Three boxes, one behind the other. -/
theorem pth3 {w : World} {A1 A2 A3 : Option Addr} {n1 n2 n3 c1 c2 c3 : Nat} {xs ys zs : List Bs} (d1 d2 d3 : Bool) (e1 : n1 = xs.length) (e2 : n2 = ys.length) (e3 : n3 = zs.length)
    (hx : Strs w w.heap.size A1 xs) (hy : Strs w w.heap.size A2 ys) (hz : Strs w w.heap.size A3 zs) (k1 : n1 ≤ c1 ∧ c1 ≤ maxLen) (k2 : n2 ≤ c2 ∧ c2 ≤ maxLen) (k3 : n3 ≤ c3 ∧ c3 ≤ maxLen) :
    Pth (((w.alloc (.cells #[.slice A1 n1 c1, .bool d1] 25)).alloc (.cells #[.slice A2 n2 c2, .bool d2] 25)).alloc (.cells #[.slice A3 n3 c3, .bool d3] 25)) w.heap.size A1 n1 c1 d1 xs ∧
    Pth (((w.alloc (.cells #[.slice A1 n1 c1, .bool d1] 25)).alloc (.cells #[.slice A2 n2 c2, .bool d2] 25)).alloc (.cells #[.slice A3 n3 c3, .bool d3] 25)) (w.heap.size + 1) A2 n2 c2 d2 ys ∧
    Pth (((w.alloc (.cells #[.slice A1 n1 c1, .bool d1] 25)).alloc (.cells #[.slice A2 n2 c2, .bool d2] 25)).alloc (.cells #[.slice A3 n3 c3, .bool d3] 25)) (w.heap.size + 1 + 1) A3 n3 c3 d3 zs ∧
    Below w.heap.size w (((w.alloc (.cells #[.slice A1 n1 c1, .bool d1] 25)).alloc (.cells #[.slice A2 n2 c2, .bool d2] 25)).alloc (.cells #[.slice A3 n3 c3, .bool d3] 25)) := by
  have a1 := below_alloc w (.cells #[.slice A1 n1 c1, .bool d1] 25)
  have a2 := below_alloc (w.alloc (.cells #[.slice A1 n1 c1, .bool d1] 25)) (.cells #[.slice A2 n2 c2, .bool d2] 25)
  have a3 := below_alloc ((w.alloc (.cells #[.slice A1 n1 c1, .bool d1] 25)).alloc (.cells #[.slice A2 n2 c2, .bool d2] 25)) (.cells #[.slice A3 n3 c3, .bool d3] 25)
  have p1 := ((Pth.new d1 e1 hx k1).keep a2).keep a3
  have p2 := (Pth.new d2 e2 (hy.up a1) k2).keep a3
  have p3 := Pth.new d3 e3 ((hz.up a1).up a2) k3
  simp only [World.size_alloc] at p2 p3
  exact ⟨p1, p2, p3, below_step (below_step a1 a2) a3⟩
end Go.Proofs.Ytlaceeiodlpmdaa
