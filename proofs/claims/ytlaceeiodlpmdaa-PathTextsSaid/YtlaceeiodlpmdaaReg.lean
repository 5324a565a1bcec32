/- Ends of a region that makes a path of its own: the path in its box. -/
import Derived.Test.YtlaceeiodlpmdaaPth
namespace Go.Proofs.Ytlaceeiodlpmdaa
open Go.RowKit

theorem Strs.setNS {w : World} {B : Nat} {A : Option Addr} {xs : List Bs} (h : Strs w B A xs) {p : Addr} {v : Value} (hc : w.cell? p = some v) (hv : ∀ x, v ≠ Sv x) (u : Value) : Strs (w.setCell p u) B A xs := fun hn => by
  obtain ⟨ad, e, hb, hcell⟩ := h hn
  refine ⟨ad, e, hb, fun j x hx => ?_⟩
  have := hcell j x hx
  rw [World.cell?_setCell_other _ _ _ _ (fun e => by rw [← e, hc] at this; injection this with this; exact hv x this)]
  exact this

def Reg5 (wl : World) (n : Nat) (d : Bool) (xs : List Bs) (v9 : Value) (wx : World) : Prop :=
  ∃ bx A4 c4, v9 = .pointer (some ⟨bx, 0, none⟩) ∧ Pth wx bx A4 n c4 d xs ∧ Below wl.heap.size wl wx

theorem reg_a {wl w3 : World} {base gg cap n : Nat} {d : Bool} {xs : List Bs} (hn : n = xs.length) (hown : w3.ownsRow base 9 1 (.slice (some ⟨gg, 0, none⟩) (0 + n) cap) (0 + n) ([] ++ xs.map Sv)) (hb : Below wl.heap.size wl w3) :
    Reg5 wl n d xs (.pointer (some ⟨w3.heap.size, 0, none⟩)) (w3.alloc (.cells #[.slice (some ⟨gg, 0, none⟩) n cap, .bool d] 25)) := by
  subst hn
  rw [Nat.zero_add, List.nil_append] at hown
  exact ⟨_, _, _, rfl, Pth.own d hown, below_step hb (below_alloc _ _)⟩

theorem reg_b {wl w3 : World} {base gg cap n B : Nat} {d d0 : Bool} {xs : List Bs} (hn : n = xs.length) (hown : w3.ownsRow base 9 1 (.slice (some ⟨gg, 0, none⟩) (0 + n) cap) (0 + n) ([] ++ xs.map Sv)) (hb : Below wl.heap.size wl w3)
    (m0 : w3.cell? ⟨B, 0, none⟩ = some (.slice none 0 0)) (m1 : w3.cell? ⟨B, 1, none⟩ = some (.bool d0)) (g1 : w3.frozen? ⟨B, 1, none⟩ = false) (hB : B < w3.heap.size) (hlo : wl.heap.size ≤ B) :
    Reg5 wl n d xs (.pointer (some ⟨B, 0, none⟩)) ((w3.setCell ⟨B, 0, none⟩ (.slice (some ⟨gg, 0, none⟩) n cap)).setCell ⟨B, 1, none⟩ (.bool d)) := by
  subst hn
  rw [Nat.zero_add, List.nil_append] at hown
  have hc := cap_le hown
  have hs := (Own.strs hown).setNS m0 (fun x h => by cases h) (.slice (some ⟨gg, 0, none⟩) xs.length cap)
  have n01 : (⟨B, 1, none⟩ : Addr) ≠ ⟨B, 0, none⟩ := fun e => by have := congrArg Addr.off e; simp at this
  have m1' : (w3.setCell ⟨B, 0, none⟩ (.slice (some ⟨gg, 0, none⟩) xs.length cap)).cell? ⟨B, 1, none⟩ = some (.bool d0) := by
    rw [World.cell?_setCell_other _ _ _ _ (Ne.symm n01)]; exact m1
  have hs2 := hs.setNS m1' (fun x h => by cases h) (.bool d)
  have q0 : ((w3.setCell ⟨B, 0, none⟩ (.slice (some ⟨gg, 0, none⟩) xs.length cap)).setCell ⟨B, 1, none⟩ (.bool d)).cell? ⟨B, 0, none⟩ = some (.slice (some ⟨gg, 0, none⟩) xs.length cap) := by
    rw [World.cell?_setCell_other _ _ _ _ n01]; exact World.cell?_setCell_same _ _ _ m0
  have q1 : ((w3.setCell ⟨B, 0, none⟩ (.slice (some ⟨gg, 0, none⟩) xs.length cap)).setCell ⟨B, 1, none⟩ (.bool d)).cell? ⟨B, 1, none⟩ = some (.bool d) := World.cell?_setCell_same _ _ _ m1'
  have hz : ((w3.setCell ⟨B, 0, none⟩ (.slice (some ⟨gg, 0, none⟩) xs.length cap)).setCell ⟨B, 1, none⟩ (.bool d)).heap.size = w3.heap.size := by simp [World.setCell]
  have hb2 : Below wl.heap.size wl ((w3.setCell ⟨B, 0, none⟩ (.slice (some ⟨gg, 0, none⟩) xs.length cap)).setCell ⟨B, 1, none⟩ (.bool d)) := (hb.setCell (p := ⟨B, 0, none⟩) hlo _).setCell (p := ⟨B, 1, none⟩) hlo _
  exact ⟨B, some ⟨gg, 0, none⟩, cap, rfl, ⟨⟨q0, q1, by rw [hz]; exact hB⟩, by simpa using g1, rfl, by rw [hz]; exact hs2, hc⟩, hb2⟩

theorem reg_0 {wl wx : World} {B c : Nat} {A : Option Addr} {d : Bool} (c0 : wx.cell? ⟨B, 0, none⟩ = some (.slice A 0 c)) (c1 : wx.cell? ⟨B, 1, none⟩ = some (.bool d)) (f1 : wx.frozen? ⟨B, 1, none⟩ = false) (hB : B < wx.heap.size) (hc : c ≤ maxLen)
    (hb : Below wl.heap.size wl wx) : Reg5 wl 0 d [] (.pointer (some ⟨B, 0, none⟩)) wx :=
  ⟨_, _, _, rfl, ⟨⟨c0, c1, hB⟩, f1, rfl, Strs.nil _ _ _, ⟨Nat.zero_le _, hc⟩⟩, hb⟩
theorem setCells_nil (w : World) (b o : Nat) : w.setCells b o [] = w := rfl
theorem reg_01 (wl : World) (d : Bool) (A : Option Addr) : Reg5 wl 0 d [] (.pointer (some ⟨wl.heap.size + 1, 0, none⟩)) ((wl.alloc (.cells #[] 9)).alloc (.cells #[.slice A 0 0, .bool d] 25)).drew := by
  have b := Box.new (wl.alloc (.cells #[] 9)) (.slice A 0 0) (.bool d) 25
  have f1 : ((wl.alloc (.cells #[] 9)).alloc (.cells #[.slice A 0 0, .bool d] 25)).frozen? ⟨(wl.alloc (.cells #[] 9)).heap.size, 1, none⟩ = false := by simp
  have c0 := b.c0
  have c1 := b.c1
  have hl := b.lt
  simp only [World.size_alloc] at c0 c1 hl f1
  refine reg_0 c0 c1 f1 ?_ (by unfold maxLen; omega) ((below_alloc wl _).trans ((below_alloc _ _).mono (by simp))).drew
  show _ < (World.alloc _ _).heap.size
  simp only [World.size_alloc]
  omega
theorem reg_02 (wl : World) (d : Bool) (A : Option Addr) : Reg5 wl 0 d [] (.pointer (some ⟨wl.heap.size, 0, none⟩)) ((wl.alloc (.cells #[.slice A 0 0, .bool d] 25)).alloc (.cells #[] 9)).drew := by
  have b := Box.new wl (.slice A 0 0) (.bool d) 25
  have h := (below_alloc (wl.alloc (.cells #[.slice A 0 0, .bool d] 25)) (.cells #[] 9)).drew
  have f1 : (wl.alloc (.cells #[.slice A 0 0, .bool d] 25)).frozen? ⟨wl.heap.size, 1, none⟩ = false := by simp
  have hl := b.lt
  exact reg_0 ((h.cell (p := ⟨wl.heap.size, 0, none⟩) hl).trans b.c0) ((h.cell (p := ⟨wl.heap.size, 1, none⟩) hl).trans b.c1) ((h.frozen (p := ⟨wl.heap.size, 1, none⟩) hl).trans f1) (Nat.lt_of_lt_of_le hl h.size) (by unfold maxLen; omega) ((below_alloc wl _).trans ((below_alloc _ _).mono (by simp))).drew
theorem grown_b1 {wl w3 : World} {o : Obj} {r : Option Nat} (h : ((wl.alloc o).drew).grownBy w3 r) (hr : ∀ j, r = some j → wl.heap.size ≤ j) : Below wl.heap.size wl w3 :=
  ((below_alloc wl o).drew).grown h (by show _ ≤ (wl.alloc o).heap.size; simp) hr
theorem grown_b2 {wl w3 : World} {o o' : Obj} {r : Option Nat} (h : (((wl.alloc o).alloc o').drew).grownBy w3 r) (hr : ∀ j, r = some j → wl.heap.size ≤ j) : Below wl.heap.size wl w3 :=
  ((below_step (below_alloc wl o) (below_alloc _ o')).drew).grown h (by show _ ≤ ((wl.alloc o).alloc o').heap.size; simp; omega) hr
theorem grown_z2 {wl w3 : World} {o o' : Obj} {r : Option Nat} (h : (((wl.alloc o).alloc o').drew).grownBy w3 r) : wl.heap.size + 1 < w3.heap.size := by
  have := h.size
  have e : (((wl.alloc o).alloc o').drew).heap.size = wl.heap.size + 2 := by show ((wl.alloc o).alloc o').heap.size = _; simp
  omega
end Go.Proofs.Ytlaceeiodlpmdaa
