/- The small functions of the package, and those that tell. -/
import Derived.Test.YtpnnonphagddgaaProv
import Derived.OwnWalk
import Derived.LaidEqlPtr
import Derived.Laws.AppendOwn
namespace Go.Proofs.Ytpnnonphagddgaa
open Go.RowKit
set_option linter.unusedVariables false
set_option linter.unusedSimpArgs false

theorem ret_int {a b : Int} (h : a = b) : Ending.returned (.int .i64 a) = .returned (.int .i64 b) := by rw [h]
theorem chunksTo_any (n : Nat) (w : World) (hn : n ≤ 1000000) : Calls Try.prog 37 #[.int .i64 (n : Int)] w (fun e w' => e = .returned (.int .i64 (((n + 15) / 16 : Nat) : Int)) ∧ w = w') := by
  go_enter Try.func37, Try.ntmps37
  go_wp2
  go_ret
  exact ⟨ret_int (show ((n : Int) + 16 - 1) / 16 = _ by omega), rfl⟩
theorem eq_ptr (S : Nat) (w : World) : (binOp .eql 24 (Pq S) (Pq S)).run Try.prog w = .ok (.bool true) w := by
  have h : (Try.prog.info? 65).isSome = true := by kernel_rfl
  obtain ⟨j, hj⟩ := Option.isSome_iff_exists.1 h
  exact run_eql_ptr_same w ⟨S, 0, none⟩ Try.underlying24 hj
theorem owns_any (S B M n : Nat) (w : World) (hb : BodC w S B M n) : Calls Try.prog 31 #[Pq S, Pq B] w (fun e w' => e = .returned (.bool true) ∧ w = w') := by
  have h0 := hb.c0
  have he := eq_ptr S w
  go_enter Try.func31, Try.ntmps31
  go_wp2
  go_ret
  exact ⟨rfl, rfl⟩
theorem used_any (S room used : Nat) (w : World) (hs : StoC w S room used) : Calls Try.prog 22 #[Pq S] w (fun e w' => e = .returned (.int .i64 (used : Int)) ∧ w = w') := by
  have h0 := hs.c1
  go_enter Try.func22, Try.ntmps22
  go_wp2
  go_ret
  exact ⟨rfl, rfl⟩
theorem room_any (S room used : Nat) (w : World) (hs : StoC w S room used) : Calls Try.prog 23 #[Pq S] w (fun e w' => e = .returned (.int .i64 (room : Int)) ∧ w = w') := by
  have h0 := hs.c0
  go_enter Try.func23, Try.ntmps23
  go_wp2
  go_ret
  exact ⟨rfl, rfl⟩
theorem size_any (S B M n : Nat) (w : World) (hb : BodC w S B M n) : Calls Try.prog 24 #[Pq B] w (fun e w' => e = .returned (.int .i64 (n : Int)) ∧ w = w') := by
  have h0 := hb.c1
  go_enter Try.func24, Try.ntmps24
  go_wp2
  go_ret
  exact ⟨rfl, rfl⟩
theorem chunks_any (S B M n N : Nat) (th : Nat → Bool) (dat : Nat → UInt8) (w : World) (hb : BodC w S B M n) (hM : MapAt w M th dat N) : Calls Try.prog 25 #[Pq B] w (fun e w' => e = .returned (.int .i64 (N : Int)) ∧ w = w') := by
  have h0 := hb.c2
  have hl := hM.len 3
  go_enter Try.func25, Try.ntmps25
  go_wp2
  go_ret
  exact ⟨rfl, rfl⟩
theorem body_any (S : Nat) (w : World) : Calls Try.prog 13 #[Pq S] w (fun e w' => e = .returned (Pq (w.heap.size + 1)) ∧ w' = (w.alloc (.map #[] 0)).alloc (.cells #[Pq S, .int .i64 0, .map (some w.heap.size)] 68)) := by
  have hm := run_makeMap (P := Try.prog) 66 w
  go_enter Try.func13, Try.ntmps13
  go_wp2
  go_ret
  exact ⟨by simp, rfl⟩
theorem new_yes (room : Nat) (w : World) (hr : room ≤ 65536) : Calls Try.prog 11 #[.int .i64 (room : Int)] w (fun e w' => e = .returned (Pq w.heap.size) ∧ w' = w.alloc (.cells #[.int .i64 (room : Int), .int .i64 0] 65)) := by
  have h1 : ¬ ((65536 : Int) < (room : Int)) := by omega
  have h0 : ¬ ((room : Int) < 0) := by omega
  go_enter Try.func11, Try.ntmps11
  go_wp2
  go_ret
  exact ⟨rfl, rfl⟩
theorem new_no (room : Int) (w : World) (hr : room < 0 ∨ 65536 < room) : Calls Try.prog 11 #[.int .i64 room] w (fun e w' => e = .returned (.pointer none) ∧ w = w') := by
  by_cases h : room < 0
  · go_enter Try.func11, Try.ntmps11
    go_wp2
    go_ret
    exact ⟨rfl, rfl⟩
  · have h2 : 65536 < room := by omega
    go_enter Try.func11, Try.ntmps11
    go_wp2
    go_ret
    exact ⟨rfl, rfl⟩
end Go.Proofs.Ytpnnonphagddgaa
