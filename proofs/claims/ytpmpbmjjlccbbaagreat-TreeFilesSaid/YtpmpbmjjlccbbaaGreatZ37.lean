/- Part 37 of what is known of the program's functions and of the document's words: contracts, and the mathematics beneath them. -/
import Derived.Test.YtpmpbmjjlccbbaaGreatProg
import Derived.Test.YtpmpbmjjlccbbaaGreatZ31
set_option linter.unusedVariables false
set_option linter.unusedSimpArgs false
set_option maxRecDepth 100000
set_option maxHeartbeats 8000000
namespace Go.Proofs.YtpmpbmjjlccbbaaGreat.tr
open Go.RowKit
open pa (index_no index_yes)
def targetE (a : ByteArray) : Int := if a.size = 0 then 2 else if 400 < a.size then 36 else if (0 : UInt8) ∈ a.data.toList then 22 else 0
def IntE (w : World) (x : Int) (e : Ending) (w' : World) : Prop := e = .returned (.int .i64 x) ∧ w' = w
theorem target_any (a : ByteArray) (w : World) (hm : a.size ≤ 9223372036854775807) : Calls Tryz.prog 135 #[.string a] w (IntE w (targetE a)) := by
 by_cases h0 : a.size = 0
 ·have HF := Lib.hid (show targetE a = 2 by unfold targetE; rw [if_pos h0])
  have e : a.toList = [] := by
   have : a.data.toList.length = 0 := by simpa using h0
   rw [Lib.toList_data]; exact List.length_eq_zero_iff.1 this
  clear h0
  go_enter Tryz.func135, Tryz.ntmps135
  go_wp2_with fail
  go_ret
  exact ⟨by rw [HF.out]; rfl, rfl⟩
 have hne : a.toList ≠ [] := by
  intro e
  rw [Lib.toList_data] at e
  exact h0 (by have := congrArg List.length e; simpa using this)
 have q0 : a.toList.isEmpty = false := by cases hq : a.toList with | nil => exact absurd hq hne | cons => rfl
 by_cases h1 : 400 < a.size
 ·have HF := Lib.hid (show targetE a = 36 by unfold targetE; rw [if_neg h0, if_pos h1])
  clear h0
  go_enter Tryz.func135, Tryz.ntmps135
  go_wp2_with fail
  go_ret
  exact ⟨by rw [HF.out]; rfl, rfl⟩
 have h1' : a.size ≤ 400 := by omega
 by_cases h2 : (0 : UInt8) ∈ a.data.toList
 ·have HF := Lib.hid (show targetE a = 22 by unfold targetE; rw [if_neg h0, if_neg h1, if_pos h2])
  have hx := index_yes _ _ h2
  have HC := Lib.hid (Tryz.strings_IndexByte a 0)
  rw [show (Int.toNat 0).toUInt8 = 0 from rfl] at HC
  generalize Lib.indexByte a.data.toList 0 = x at *
  clear h0 h1 h2
  go_enter Tryz.func135, Tryz.ntmps135
  go_wp2_with (go_at_call 178; refine (HC.out _).mono ?_; rintro _ w2 ⟨rfl, rfl⟩)
  go_ret
  exact ⟨by rw [HF.out]; rfl, rfl⟩
 ·have HF := Lib.hid (show targetE a = 0 by unfold targetE; rw [if_neg h0, if_neg h1, if_neg h2])
  have hx := index_no _ _ h2
  have HC := Lib.hid (Tryz.strings_IndexByte a 0)
  rw [show (Int.toNat 0).toUInt8 = 0 from rfl, hx] at HC
  clear h0 h1 h2 hx
  go_enter Tryz.func135, Tryz.ntmps135
  go_wp2_with (go_at_call 178; refine (HC.out _).mono ?_; rintro _ w2 ⟨rfl, rfl⟩)
  go_ret
  exact ⟨by rw [HF.out]; rfl, rfl⟩
def EF (P : Nat) : Array Value := #[Value.nilFunc, .func (.func 60) #[.pointer (some ⟨P, 0, none⟩)] #[], .func (.func 61) #[.pointer (some ⟨P, 0, none⟩)] #[], .func (.func 62) #[.pointer (some ⟨P, 0, none⟩)] #[], .func (.func 63) #[.pointer (some ⟨P, 0, none⟩)] #[], .func (.func 64) #[.pointer (some ⟨P, 0, none⟩)] #[], .func (.func 65) #[.pointer (some ⟨P, 0, none⟩)] #[], .func (.func 66) #[.pointer (some ⟨P, 0, none⟩)] #[], .func (.func 67) #[.pointer (some ⟨P, 0, none⟩)] #[], .func (.func 68) #[.pointer (some ⟨P, 0, none⟩)] #[], .func (.func 69) #[.pointer (some ⟨P, 0, none⟩)] #[], .func (.func 70) #[.pointer (some ⟨P, 0, none⟩)] #[], .func (.func 71) #[.pointer (some ⟨P, 0, none⟩)] #[], .func (.func 72) #[.pointer (some ⟨P, 0, none⟩)] #[], .func (.func 73) #[.pointer (some ⟨P, 0, none⟩)] #[], .func (.func 74) #[.pointer (some ⟨P, 0, none⟩)] #[], .func (.func 75) #[.pointer (some ⟨P, 0, none⟩)] #[], .func (.func 76) #[.pointer (some ⟨P, 0, none⟩)] #[], .func (.func 77) #[.pointer (some ⟨P, 0, none⟩)] #[], .func (.func 78) #[.pointer (some ⟨P, 0, none⟩)] #[], .func (.func 79) #[.pointer (some ⟨P, 0, none⟩)] #[]]
def FunE (w : World) (P : Nat) (k : Nat) (e : Ending) (w' : World) : Prop := e = .returned (.func (.func (59 + k)) #[.pointer (some ⟨P, 0, none⟩)] #[]) ∧ w' = w
theorem effect_any (P k : Nat) (w : World) (h1 : 1 ≤ k) (h2 : k ≤ 20) : Calls Tryz.prog 31 #[.pointer (some ⟨P, 0, none⟩), .int .i64 (k : Int)] w (FunE w P k) := by
 have hmf : ∀ (fn : Fn) (first cap : Array Value) (W : World), (Instr.makeFunc fn first cap).run Tryz.prog W = .ok (.func fn first cap) W := fun _ _ _ _ => rfl
 have hk : k = 1 ∨ k = 2 ∨ k = 3 ∨ k = 4 ∨ k = 5 ∨ k = 6 ∨ k = 7 ∨ k = 8 ∨ k = 9 ∨ k = 10 ∨ k = 11 ∨ k = 12 ∨ k = 13 ∨ k = 14 ∨ k = 15 ∨ k = 16 ∨ k = 17 ∨ k = 18 ∨ k = 19 ∨ k = 20 := by omega
 clear h1 h2
 rcases hk with rfl | rfl | rfl | rfl | rfl | rfl | rfl | rfl | rfl | rfl | rfl | rfl | rfl | rfl | rfl | rfl | rfl | rfl | rfl | rfl
 ·have hix : (Instr.index 137 (.agg (EF P)) (.int .i64 1)).run Tryz.prog w = .ok (.func (.func 60) #[.pointer (some ⟨P, 0, none⟩)] #[]) w := by kernel_rfl
  unfold EF at hix
  go_enter Tryz.func31, Tryz.ntmps31
  go_wp2_with fail
  go_ret
  exact ⟨rfl, rfl⟩
 ·have hix : (Instr.index 137 (.agg (EF P)) (.int .i64 2)).run Tryz.prog w = .ok (.func (.func 61) #[.pointer (some ⟨P, 0, none⟩)] #[]) w := by kernel_rfl
  unfold EF at hix
  go_enter Tryz.func31, Tryz.ntmps31
  go_wp2_with fail
  go_ret
  exact ⟨rfl, rfl⟩
 ·have hix : (Instr.index 137 (.agg (EF P)) (.int .i64 3)).run Tryz.prog w = .ok (.func (.func 62) #[.pointer (some ⟨P, 0, none⟩)] #[]) w := by kernel_rfl
  unfold EF at hix
  go_enter Tryz.func31, Tryz.ntmps31
  go_wp2_with fail
  go_ret
  exact ⟨rfl, rfl⟩
 ·have hix : (Instr.index 137 (.agg (EF P)) (.int .i64 4)).run Tryz.prog w = .ok (.func (.func 63) #[.pointer (some ⟨P, 0, none⟩)] #[]) w := by kernel_rfl
  unfold EF at hix
  go_enter Tryz.func31, Tryz.ntmps31
  go_wp2_with fail
  go_ret
  exact ⟨rfl, rfl⟩
 ·have hix : (Instr.index 137 (.agg (EF P)) (.int .i64 5)).run Tryz.prog w = .ok (.func (.func 64) #[.pointer (some ⟨P, 0, none⟩)] #[]) w := by kernel_rfl
  unfold EF at hix
  go_enter Tryz.func31, Tryz.ntmps31
  go_wp2_with fail
  go_ret
  exact ⟨rfl, rfl⟩
 ·have hix : (Instr.index 137 (.agg (EF P)) (.int .i64 6)).run Tryz.prog w = .ok (.func (.func 65) #[.pointer (some ⟨P, 0, none⟩)] #[]) w := by kernel_rfl
  unfold EF at hix
  go_enter Tryz.func31, Tryz.ntmps31
  go_wp2_with fail
  go_ret
  exact ⟨rfl, rfl⟩
 ·have hix : (Instr.index 137 (.agg (EF P)) (.int .i64 7)).run Tryz.prog w = .ok (.func (.func 66) #[.pointer (some ⟨P, 0, none⟩)] #[]) w := by kernel_rfl
  unfold EF at hix
  go_enter Tryz.func31, Tryz.ntmps31
  go_wp2_with fail
  go_ret
  exact ⟨rfl, rfl⟩
 ·have hix : (Instr.index 137 (.agg (EF P)) (.int .i64 8)).run Tryz.prog w = .ok (.func (.func 67) #[.pointer (some ⟨P, 0, none⟩)] #[]) w := by kernel_rfl
  unfold EF at hix
  go_enter Tryz.func31, Tryz.ntmps31
  go_wp2_with fail
  go_ret
  exact ⟨rfl, rfl⟩
 ·have hix : (Instr.index 137 (.agg (EF P)) (.int .i64 9)).run Tryz.prog w = .ok (.func (.func 68) #[.pointer (some ⟨P, 0, none⟩)] #[]) w := by kernel_rfl
  unfold EF at hix
  go_enter Tryz.func31, Tryz.ntmps31
  go_wp2_with fail
  go_ret
  exact ⟨rfl, rfl⟩
 ·have hix : (Instr.index 137 (.agg (EF P)) (.int .i64 10)).run Tryz.prog w = .ok (.func (.func 69) #[.pointer (some ⟨P, 0, none⟩)] #[]) w := by kernel_rfl
  unfold EF at hix
  go_enter Tryz.func31, Tryz.ntmps31
  go_wp2_with fail
  go_ret
  exact ⟨rfl, rfl⟩
 ·have hix : (Instr.index 137 (.agg (EF P)) (.int .i64 11)).run Tryz.prog w = .ok (.func (.func 70) #[.pointer (some ⟨P, 0, none⟩)] #[]) w := by kernel_rfl
  unfold EF at hix
  go_enter Tryz.func31, Tryz.ntmps31
  go_wp2_with fail
  go_ret
  exact ⟨rfl, rfl⟩
 ·have hix : (Instr.index 137 (.agg (EF P)) (.int .i64 12)).run Tryz.prog w = .ok (.func (.func 71) #[.pointer (some ⟨P, 0, none⟩)] #[]) w := by kernel_rfl
  unfold EF at hix
  go_enter Tryz.func31, Tryz.ntmps31
  go_wp2_with fail
  go_ret
  exact ⟨rfl, rfl⟩
 ·have hix : (Instr.index 137 (.agg (EF P)) (.int .i64 13)).run Tryz.prog w = .ok (.func (.func 72) #[.pointer (some ⟨P, 0, none⟩)] #[]) w := by kernel_rfl
  unfold EF at hix
  go_enter Tryz.func31, Tryz.ntmps31
  go_wp2_with fail
  go_ret
  exact ⟨rfl, rfl⟩
 ·have hix : (Instr.index 137 (.agg (EF P)) (.int .i64 14)).run Tryz.prog w = .ok (.func (.func 73) #[.pointer (some ⟨P, 0, none⟩)] #[]) w := by kernel_rfl
  unfold EF at hix
  go_enter Tryz.func31, Tryz.ntmps31
  go_wp2_with fail
  go_ret
  exact ⟨rfl, rfl⟩
 ·have hix : (Instr.index 137 (.agg (EF P)) (.int .i64 15)).run Tryz.prog w = .ok (.func (.func 74) #[.pointer (some ⟨P, 0, none⟩)] #[]) w := by kernel_rfl
  unfold EF at hix
  go_enter Tryz.func31, Tryz.ntmps31
  go_wp2_with fail
  go_ret
  exact ⟨rfl, rfl⟩
 ·have hix : (Instr.index 137 (.agg (EF P)) (.int .i64 16)).run Tryz.prog w = .ok (.func (.func 75) #[.pointer (some ⟨P, 0, none⟩)] #[]) w := by kernel_rfl
  unfold EF at hix
  go_enter Tryz.func31, Tryz.ntmps31
  go_wp2_with fail
  go_ret
  exact ⟨rfl, rfl⟩
 ·have hix : (Instr.index 137 (.agg (EF P)) (.int .i64 17)).run Tryz.prog w = .ok (.func (.func 76) #[.pointer (some ⟨P, 0, none⟩)] #[]) w := by kernel_rfl
  unfold EF at hix
  go_enter Tryz.func31, Tryz.ntmps31
  go_wp2_with fail
  go_ret
  exact ⟨rfl, rfl⟩
 ·have hix : (Instr.index 137 (.agg (EF P)) (.int .i64 18)).run Tryz.prog w = .ok (.func (.func 77) #[.pointer (some ⟨P, 0, none⟩)] #[]) w := by kernel_rfl
  unfold EF at hix
  go_enter Tryz.func31, Tryz.ntmps31
  go_wp2_with fail
  go_ret
  exact ⟨rfl, rfl⟩
 ·have hix : (Instr.index 137 (.agg (EF P)) (.int .i64 19)).run Tryz.prog w = .ok (.func (.func 78) #[.pointer (some ⟨P, 0, none⟩)] #[]) w := by kernel_rfl
  unfold EF at hix
  go_enter Tryz.func31, Tryz.ntmps31
  go_wp2_with fail
  go_ret
  exact ⟨rfl, rfl⟩
 ·have hix : (Instr.index 137 (.agg (EF P)) (.int .i64 20)).run Tryz.prog w = .ok (.func (.func 79) #[.pointer (some ⟨P, 0, none⟩)] #[]) w := by kernel_rfl
  unfold EF at hix
  go_enter Tryz.func31, Tryz.ntmps31
  go_wp2_with fail
  go_ret
  exact ⟨rfl, rfl⟩
end Go.Proofs.YtpmpbmjjlccbbaaGreat.tr
