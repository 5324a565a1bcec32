/- A call's bytes: the code's function and the document's. -/
import Derived.Test.YtoomdgjppfmdlaaCa
import Derived.IntWalk
import Derived.Laws.Shifts
import Derived.Deep.RegionWith
import Derived.Deep.RegionHeld3
import Derived.StillTailTactics
import Derived.Deep.DeepCutAuto
namespace Go.Proofs.Ytoomdgjppfmdlaa
open Go.RowKit
set_option linter.unusedVariables false
set_option linter.unusedSimpArgs false

/-- What a call hands back that has appended to a row of the caller's own. -/
def GrowE (w : World) (B n : Nat) (l : Bs) (e : Ending) (w' : World) : Prop := ∃ A c, e = .returned (.slice A n c) ∧ Bo w' B A n c l ∧ Below B w w'
theorem lit_of (a : Int) (h0 : 0 ≤ a) (h : a < 256) : Value.int .u8 a = .int .u8 ((by_ a).toNat : Nat) := by rw [by_to h0 h]
theorem news1 (w : World) (a z : Int) (ha : a = z) (h0 : 0 ≤ z) (h : z < 256) : Byt (w.alloc (.cells #[.int .u8 a] 5)) (w.heap.size + 1) (some ⟨w.heap.size, 0, none⟩) [by_ z] := by
  intro i x hx
  subst ha
  refine ⟨w.heap.size, 0, rfl, by omega, ?_⟩
  rw [cell_row (heap_alloc_new w _)]
  match i, hx with
  | 0, hx => injection hx with hx; subst hx; rw [← lit_of _ h0 h]; rfl
theorem news2 (w : World) (a b x : Int) (ha : a = (x + 256) / 256) (hb : b = (x + 256) % 256) (h : Num x) : Byt (w.alloc (.cells #[.int .u8 a, .int .u8 b] 5)) (w.heap.size + 1) (some ⟨w.heap.size, 0, none⟩) (two x) := by
  intro i y hy
  unfold Num at h
  subst ha; subst hb
  refine ⟨w.heap.size, 0, rfl, by omega, ?_⟩
  rw [cell_row (heap_alloc_new w _)]
  unfold two at hy
  match i, hy with
  | 0, hy => injection hy with hy; subst hy; rw [← lit_of _ (by omega) (by omega)]; rfl
  | 1, hy => injection hy with hy; subst hy; rw [← lit_of _ (by omega) (by omega)]; rfl

set_option maxHeartbeats 1000000 in
theorem wnum_any {B n c : Nat} {A : Option Addr} {l : Bs} (x : Int) (w : World) (h : Bo w B A n c l) (hx : Num x) (hn : n ≤ 1000) (hB : B ≤ w.heap.size) :
    Calls Try.prog 24 #[.slice A n c, .int .i64 x] w (GrowE w B (n + 2) (l ++ two x)) := by
  have HN := Lib.hid hx
  have HO := Lib.hid (fun ob => h.keep (below_alloc w ob))
  obtain ⟨h1, h2⟩ := hx
  clear h
  go_enter Try.func24, Try.ntmps24
  go_wp2_with (at_builtin; refine wpList_app _ rfl (.tmp 7) (.tmp 13) rfl B (w.heap.size + 1) n 2 c 2 A (some ⟨w.heap.size, 0, none⟩) l (two x) (by rfl) (by rfl) (HO.out _) rfl (by exact news2 _ _ _ _ (by first | rfl | omega) (by first | rfl | omega) HN.out) (by omega) (by simp; omega) ?_; intro A' c' w' hown hb)
  go_ret
  exact ⟨_, _, rfl, hown, ((Below.refl _ _).alloc hB _).trans hb⟩
set_option maxHeartbeats 1000000 in
theorem wtext_any {B n c : Nat} {A : Option Addr} {l : Bs} (x : Bs) (w : World) (h : Bo w B A n c l) (hx : x.length ≤ 63) (hn : n ≤ 1000) (hB : B ≤ w.heap.size) :
    Calls Try.prog 25 #[.slice A n c, Sv x] w (GrowE w B (n + 1 + x.length) (l ++ by_ x.length :: x)) := by
  have HO := Lib.hid (fun ob => h.keep (below_alloc w ob))
  have HE := Lib.hid (show (l ++ [by_ x.length]) ++ x = l ++ by_ x.length :: x by simp)
  have hx63 : x.length ≤ 9223372036854775807 := by omega
  clear h
  go_enter Try.func25, Try.ntmps25
  go_upto_region 2 with (at_builtin; refine wpList_app _ rfl (.tmp 5) (.tmp 9) rfl B (w.heap.size + 1) n 1 c 1 A (some ⟨w.heap.size, 0, none⟩) l [by_ x.length] (by rfl) (by rfl) (HO.out _) rfl (by exact news1 _ _ _ (by first | rfl | omega) (by omega) (by omega)) (by omega) (by simp; omega) ?_; intro A' c' w' hown hb)
  have hs := hb.size
  rw [World.size_alloc] at hs
  go_wp2_with (at_builtin; refine wpList_apps _ rfl (.tmp 11) (.tmp 12) rfl B (n + 1) c' A' (l ++ [by_ x.length]) x (by rfl) (by rfl) hown (by omega) (by omega) ?_; intro A2 c2 w2 hown2 hb2)
  go_ret
  rw [HE.out] at hown2
  exact ⟨_, _, rfl, hown2, (((Below.refl _ _).alloc hB _).trans hb).trans hb2⟩
/-- Bytes that a call has just made. -/
theorem two_any (x : Int) (w : World) (hx : Num x) : Calls Try.prog 26 #[.int .i64 x] w fun e w' => e = .returned (.slice (some ⟨w.heap.size, 0, none⟩) 2 2) ∧ Byt w' (w.heap.size + 1) (some ⟨w.heap.size, 0, none⟩) (two x) ∧ Below w.heap.size w w' := by
  have HN := Lib.hid hx
  obtain ⟨h1, h2⟩ := hx
  go_enter Try.func26, Try.ntmps26
  go_wp2_with fail
  go_ret
  exact ⟨rfl, by exact news2 _ _ _ _ (by first | rfl | omega) (by first | rfl | omega) HN.out, below_alloc _ _⟩
end Go.Proofs.Ytoomdgjppfmdlaa
