/- 'awake': it returns true. -/
import Derived.Test.YtadkhnenklkbmaaList
namespace Go.Proofs.Ytadkhnenklkbmaa
open Go.RowKit
set_option linter.unusedVariables false

def AwakeE (w : World) (e : Ending) (w' : World) : Prop := e = .returned (.bool true) ∧ Below w.heap.size w w'
theorem Fr.belowOf {w w1 w' : World} {Q B : Nat} {o : Option Nat} (h : Below B w w1) (hf : Fr w1 w' Q o) (hB : B ≤ w1.heap.size) (hQ : B ≤ Q) (ho : ∀ G, o = some G → B ≤ G) : Below B w w' :=
  h.trans ⟨hf.os, hf.tape, hf.output, hf.size, fun k hk => hf.block k (by omega) (by omega) (fun e => by have := ho k e; omega)⟩
theorem QL.lo_ {w : World} {Q lo T : Nat} {o : Option Nat} {L : List KN} (h : QL w Q lo o L T) : ∀ G, o = some G → lo ≤ G := fun G e => (h.old G e).2.1

set_option maxHeartbeats 4000000 in
theorem awake_any (w : World) : Calls Try.prog 8 #[] w (AwakeE w) := by
  go_enter Try.func8, Try.ntmps8
  go_wp2_with fail
  refine (lnew w w.heap.size (Nat.le_refl _)).mono ?_
  rintro e w1 ⟨rfl, h1, hb1⟩
  have hz1 := hb1.size
  go_wp2_with fail
  refine (lpush w.heap.size w.heap.size 0 none [] 2 7 w1 hz1 (by omega) h1).mono ?_
  rintro e w2 ⟨rfl, o2, h2, -, hf2⟩
  have hb2 := hf2.belowOf hb1 hz1 (Nat.le_refl _) h1.lo_
  have hz2 := hb2.size
  clear h1 hf2 hb1 hz1
  go_wp2_with fail
  refine (lpush w.heap.size w.heap.size 1 o2 _ 1 8 w2 hz2 (by omega) h2).mono ?_
  rintro e w3 ⟨rfl, o3, h3, -, hf3⟩
  have hb3 := hf3.belowOf hb2 hz2 (Nat.le_refl _) h2.lo_
  have hz3 := hb3.size
  clear h2 hf3 hb2 hz2
  go_wp2_with fail
  refine (lpush w.heap.size w.heap.size 2 o3 _ 2 9 w3 hz3 (by omega) h3).mono ?_
  rintro e w4 ⟨rfl, o4, h4, -, hf4⟩
  have hb4 := hf4.belowOf hb3 hz3 (Nat.le_refl _) h3.lo_
  have hz4 := hb4.size
  clear h3 hf4 hb3 hz3
  have e4 : ins (2, 9) (ins (1, 8) (ins (2, 7) [])) = [(1, 8), (2, 7), (2, 9)] := by decide
  rw [e4] at h4
  clear e4
  go_wp2_with fail
  refine (lpop w.heap.size w.heap.size 3 o4 _ w4 (by omega) h4).mono ?_
  rintro e w5 ⟨rfl, o5, h5, -, hf5⟩
  have hb5 := hf5.belowOf hb4 hz4 (Nat.le_refl _) h4.lo_
  have hz5 := hb5.size
  clear h4 hf5 hb4 hz4
  have e5 : popV [(1, 8), (2, 7), (2, 9)] = .tuple #[.int .i64 1, .int .i64 8, .bool true] := rfl
  rw [e5]
  clear e5
  go_wp2_with fail
  refine (ldrop w.heap.size w.heap.size 3 o5 _ 7 w5 (by omega) h5).mono ?_
  rintro e w6 ⟨rfl, o6, h6, -, hf6⟩
  have hb6 := hf6.belowOf hb5 hz5 (Nat.le_refl _) h5.lo_
  have hz6 := hb6.size
  clear h5 hf6 hb5 hz5
  have e6 : [((1 : Int), (8 : Int)), (2, 7), (2, 9)].tail.filter (keepN 7) = [(2, 9)] := by decide
  rw [e6] at h6 ⊢
  clear e6
  go_wp2_with fail
  refine (lpeek w.heap.size w.heap.size 3 o6 _ w6 (by omega) h6).mono ?_
  rintro e w7 ⟨rfl, hb7⟩
  have h7 := h6.below hb7
  replace hb7 := below_step hb6 hb7
  have hz7 := hb7.size
  have e7 : popV [(2, 9)] = .tuple #[.int .i64 2, .int .i64 9, .bool true] := rfl
  rw [e7]
  clear e7 h6 hb6 hz6
  go_wp2_with fail
  refine (llen w.heap.size w.heap.size 3 o6 _ w7 h7).mono ?_
  rintro e w8 ⟨rfl, rfl⟩
  go_wp2_with fail
  refine (lhas w.heap.size w.heap.size 3 o6 _ 9 w7 (by omega) h7).mono ?_
  rintro e w8 ⟨rfl, hb8⟩
  have h8 := h7.below hb8
  replace hb8 := below_step hb7 hb8
  have e8 : [((2 : Int), (9 : Int))].any (fun x => x.2 == 9) = true := by decide
  rw [e8]
  clear e8 h7 hb7 hz7
  go_wp2_with fail
  refine (lhas w.heap.size w.heap.size 3 o6 _ 7 w8 (by omega) h8).mono ?_
  rintro e w9 ⟨rfl, hb9⟩
  replace hb9 := below_step hb8 hb9
  have e9 : [((2 : Int), (9 : Int))].any (fun x => x.2 == 7) = false := by decide
  rw [e9]
  clear e9 h8 hb8
  go_wp2_with fail
  go_ret
  exact ⟨rfl, hb9⟩
end Go.Proofs.Ytadkhnenklkbmaa
