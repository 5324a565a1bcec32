/- 'Kind', 'writesFile': the code's and the document's. -/
import Derived.Test.YtlplbpilpkmoaaaQk
namespace Go.Proofs.Ytlplbpilpkmoaaa.pl
open Go.RowKit
set_option linter.unusedVariables false
set_option linter.unusedSimpArgs false

/-- A call. -/
structure Cx where
  op : Int
  fd : Int
  fl : Int
  n : Int
  off : Int
  a : ByteArray
  b : ByteArray
abbrev Cx.v (c : Cx) : Value := .agg #[.int .i64 c.op, .int .i64 c.fd, .int .i64 c.fl, .int .i64 c.n, .int .i64 c.off, .string c.a, .string c.b]
def Cx.kind (c : Cx) : Int := if c.op = 11 ∨ c.op = 12 ∨ c.op = 13 ∨ c.op = 14 ∨ c.op = 15 ∨ c.op = 17 then 2 else if c.op = 1 then (if bitU c.fl 2 then 2 else 1) else if c.op = 8 ∨ c.op = 9 ∨ c.op = 10 ∨ c.op = 16 ∨ c.op = 18 ∨ c.op = 20 then 1 else 0
def Cx.wf (c : Cx) : Bool := if c.op = 4 ∨ c.op = 6 ∨ c.op = 8 ∨ c.op = 13 ∨ c.op = 14 ∨ c.op = 17 then true else if c.op = 1 then bitU c.fl 1 else false
def IntE (w : World) (k : Int) (e : Ending) (w' : World) : Prop := e = .returned (.int .i64 k) ∧ Below w.heap.size w w'
theorem and4 (fl : Int) : bits .and .i64 fl 4 = if bitU fl 2 then 4 else 0 := bits_bit fl 2 (.inr rfl)
theorem and2 (fl : Int) : bits .and .i64 fl 2 = if bitU fl 1 then 2 else 0 := bits_bit fl 1 (.inl rfl)
set_option maxHeartbeats 4000000 in
theorem kind_any (c : Cx) (w : World) : Calls Try.prog 16 #[c.v] w (IntE w c.kind) := by
  have HB := Lib.hid (show ∀ o : Obj, Below w.heap.size w (w.alloc o) from fun o => hp.below_alloc w o)
  unfold IntE
  obtain ⟨op, fd, fl, n, off, a, b⟩ := c
  dsimp only [Cx.v]
  by_cases e11 : op = 11
  · subst e11
    have HV := Lib.hid (show Cx.kind ⟨11, fd, fl, n, off, a, b⟩ = 2 from by simp [Cx.kind])
    rw [HV.out]
    go_enter Try.func16, Try.ntmps16
    go_wp2_with fail
    go_ret
    exact ⟨rfl, HB.out _⟩
  by_cases e12 : op = 12
  · subst e12
    have HV := Lib.hid (show Cx.kind ⟨12, fd, fl, n, off, a, b⟩ = 2 from by simp [Cx.kind])
    rw [HV.out]
    go_enter Try.func16, Try.ntmps16
    go_wp2_with fail
    go_ret
    exact ⟨rfl, HB.out _⟩
  by_cases e13 : op = 13
  · subst e13
    have HV := Lib.hid (show Cx.kind ⟨13, fd, fl, n, off, a, b⟩ = 2 from by simp [Cx.kind])
    rw [HV.out]
    go_enter Try.func16, Try.ntmps16
    go_wp2_with fail
    go_ret
    exact ⟨rfl, HB.out _⟩
  by_cases e14 : op = 14
  · subst e14
    have HV := Lib.hid (show Cx.kind ⟨14, fd, fl, n, off, a, b⟩ = 2 from by simp [Cx.kind])
    rw [HV.out]
    go_enter Try.func16, Try.ntmps16
    go_wp2_with fail
    go_ret
    exact ⟨rfl, HB.out _⟩
  by_cases e15 : op = 15
  · subst e15
    have HV := Lib.hid (show Cx.kind ⟨15, fd, fl, n, off, a, b⟩ = 2 from by simp [Cx.kind])
    rw [HV.out]
    go_enter Try.func16, Try.ntmps16
    go_wp2_with fail
    go_ret
    exact ⟨rfl, HB.out _⟩
  by_cases e17 : op = 17
  · subst e17
    have HV := Lib.hid (show Cx.kind ⟨17, fd, fl, n, off, a, b⟩ = 2 from by simp [Cx.kind])
    rw [HV.out]
    go_enter Try.func16, Try.ntmps16
    go_wp2_with fail
    go_ret
    exact ⟨rfl, HB.out _⟩
  by_cases e8 : op = 8
  · subst e8
    have HV := Lib.hid (show Cx.kind ⟨8, fd, fl, n, off, a, b⟩ = 1 from by simp [Cx.kind])
    rw [HV.out]
    go_enter Try.func16, Try.ntmps16
    go_wp2_with fail
    go_ret
    exact ⟨rfl, HB.out _⟩
  by_cases e9 : op = 9
  · subst e9
    have HV := Lib.hid (show Cx.kind ⟨9, fd, fl, n, off, a, b⟩ = 1 from by simp [Cx.kind])
    rw [HV.out]
    go_enter Try.func16, Try.ntmps16
    go_wp2_with fail
    go_ret
    exact ⟨rfl, HB.out _⟩
  by_cases e10 : op = 10
  · subst e10
    have HV := Lib.hid (show Cx.kind ⟨10, fd, fl, n, off, a, b⟩ = 1 from by simp [Cx.kind])
    rw [HV.out]
    go_enter Try.func16, Try.ntmps16
    go_wp2_with fail
    go_ret
    exact ⟨rfl, HB.out _⟩
  by_cases e16 : op = 16
  · subst e16
    have HV := Lib.hid (show Cx.kind ⟨16, fd, fl, n, off, a, b⟩ = 1 from by simp [Cx.kind])
    rw [HV.out]
    go_enter Try.func16, Try.ntmps16
    go_wp2_with fail
    go_ret
    exact ⟨rfl, HB.out _⟩
  by_cases e18 : op = 18
  · subst e18
    have HV := Lib.hid (show Cx.kind ⟨18, fd, fl, n, off, a, b⟩ = 1 from by simp [Cx.kind])
    rw [HV.out]
    go_enter Try.func16, Try.ntmps16
    go_wp2_with fail
    go_ret
    exact ⟨rfl, HB.out _⟩
  by_cases e20 : op = 20
  · subst e20
    have HV := Lib.hid (show Cx.kind ⟨20, fd, fl, n, off, a, b⟩ = 1 from by simp [Cx.kind])
    rw [HV.out]
    go_enter Try.func16, Try.ntmps16
    go_wp2_with fail
    go_ret
    exact ⟨rfl, HB.out _⟩
  by_cases e1 : op = 1
  · subst e1
    by_cases hb : bitU fl 2 = true
    · have HV := Lib.hid (show Cx.kind ⟨1, fd, fl, n, off, a, b⟩ = 2 from by simp [Cx.kind, hb])
      rw [HV.out]
      have hbt : bits .and .i64 fl 4 = 4 := by rw [and4]; simp [hb]
      clear hb
      go_enter Try.func16, Try.ntmps16
      go_wp2_with fail
      go_ret
      exact ⟨rfl, HB.out _⟩
    · have HV := Lib.hid (show Cx.kind ⟨1, fd, fl, n, off, a, b⟩ = 1 from by simp [Cx.kind, hb])
      rw [HV.out]
      have hbt : bits .and .i64 fl 4 = 0 := by rw [and4]; simp [hb]
      clear hb
      go_enter Try.func16, Try.ntmps16
      go_wp2_with fail
      go_ret
      exact ⟨rfl, HB.out _⟩
  have HV := Lib.hid (show Cx.kind ⟨op, fd, fl, n, off, a, b⟩ = 0 from by simp [Cx.kind, e11, e12, e13, e14, e15, e17, e8, e9, e10, e16, e18, e20, e1])
  rw [HV.out]
  have q11 : (op == 11) = false := by simpa using e11
  have q12 : (op == 12) = false := by simpa using e12
  have q13 : (op == 13) = false := by simpa using e13
  have q14 : (op == 14) = false := by simpa using e14
  have q15 : (op == 15) = false := by simpa using e15
  have q17 : (op == 17) = false := by simpa using e17
  have q8 : (op == 8) = false := by simpa using e8
  have q9 : (op == 9) = false := by simpa using e9
  have q10 : (op == 10) = false := by simpa using e10
  have q16 : (op == 16) = false := by simpa using e16
  have q18 : (op == 18) = false := by simpa using e18
  have q20 : (op == 20) = false := by simpa using e20
  have q1 : (op == 1) = false := by simpa using e1
  clear e11 e12 e13 e14 e15 e17 e8 e9 e10 e16 e18 e20 e1
  go_enter Try.func16, Try.ntmps16
  go_wp2_with fail
  go_ret
  exact ⟨rfl, HB.out _⟩
set_option maxHeartbeats 4000000 in
theorem wf_any (c : Cx) (w : World) : Calls Try.prog 31 #[c.v] w (RetB w c.wf) := by
  have HB := Lib.hid (show ∀ o : Obj, Below w.heap.size w (w.alloc o) from fun o => hp.below_alloc w o)
  unfold RetB
  obtain ⟨op, fd, fl, n, off, a, b⟩ := c
  dsimp only [Cx.v]
  by_cases e4 : op = 4
  · subst e4
    have HV := Lib.hid (show Cx.wf ⟨4, fd, fl, n, off, a, b⟩ = true from by simp [Cx.wf])
    rw [HV.out]
    go_enter Try.func31, Try.ntmps31
    go_wp2_with fail
    go_ret
    exact ⟨rfl, HB.out _⟩
  by_cases e6 : op = 6
  · subst e6
    have HV := Lib.hid (show Cx.wf ⟨6, fd, fl, n, off, a, b⟩ = true from by simp [Cx.wf])
    rw [HV.out]
    go_enter Try.func31, Try.ntmps31
    go_wp2_with fail
    go_ret
    exact ⟨rfl, HB.out _⟩
  by_cases e8 : op = 8
  · subst e8
    have HV := Lib.hid (show Cx.wf ⟨8, fd, fl, n, off, a, b⟩ = true from by simp [Cx.wf])
    rw [HV.out]
    go_enter Try.func31, Try.ntmps31
    go_wp2_with fail
    go_ret
    exact ⟨rfl, HB.out _⟩
  by_cases e13 : op = 13
  · subst e13
    have HV := Lib.hid (show Cx.wf ⟨13, fd, fl, n, off, a, b⟩ = true from by simp [Cx.wf])
    rw [HV.out]
    go_enter Try.func31, Try.ntmps31
    go_wp2_with fail
    go_ret
    exact ⟨rfl, HB.out _⟩
  by_cases e14 : op = 14
  · subst e14
    have HV := Lib.hid (show Cx.wf ⟨14, fd, fl, n, off, a, b⟩ = true from by simp [Cx.wf])
    rw [HV.out]
    go_enter Try.func31, Try.ntmps31
    go_wp2_with fail
    go_ret
    exact ⟨rfl, HB.out _⟩
  by_cases e17 : op = 17
  · subst e17
    have HV := Lib.hid (show Cx.wf ⟨17, fd, fl, n, off, a, b⟩ = true from by simp [Cx.wf])
    rw [HV.out]
    go_enter Try.func31, Try.ntmps31
    go_wp2_with fail
    go_ret
    exact ⟨rfl, HB.out _⟩
  by_cases e1 : op = 1
  · subst e1
    by_cases hb : bitU fl 1 = true
    · have HV := Lib.hid (show Cx.wf ⟨1, fd, fl, n, off, a, b⟩ = true from by simp [Cx.wf, hb])
      rw [HV.out]
      have hbt : bits .and .i64 fl 2 = 2 := by rw [and2]; simp [hb]
      clear hb
      go_enter Try.func31, Try.ntmps31
      go_wp2_with fail
      go_ret
      exact ⟨rfl, HB.out _⟩
    · have HV := Lib.hid (show Cx.wf ⟨1, fd, fl, n, off, a, b⟩ = false from by simp [Cx.wf, hb])
      rw [HV.out]
      have hbt : bits .and .i64 fl 2 = 0 := by rw [and2]; simp [hb]
      clear hb
      go_enter Try.func31, Try.ntmps31
      go_wp2_with fail
      go_ret
      exact ⟨rfl, HB.out _⟩
  have HV := Lib.hid (show Cx.wf ⟨op, fd, fl, n, off, a, b⟩ = false from by simp [Cx.wf, e4, e6, e8, e13, e14, e17, e1])
  rw [HV.out]
  have q4 : (op == 4) = false := by simpa using e4
  have q6 : (op == 6) = false := by simpa using e6
  have q8 : (op == 8) = false := by simpa using e8
  have q13 : (op == 13) = false := by simpa using e13
  have q14 : (op == 14) = false := by simpa using e14
  have q17 : (op == 17) = false := by simpa using e17
  have q1 : (op == 1) = false := by simpa using e1
  clear e4 e6 e8 e13 e14 e17 e1
  go_enter Try.func31, Try.ntmps31
  go_wp2_with fail
  go_ret
  exact ⟨rfl, HB.out _⟩
set_option maxHeartbeats 4000000 in
theorem rkind_any (c : Cx) (w : World) : Calls Try.prog 17 #[c.v] w (IntE w c.kind) := by
  have HB := Lib.hid (show ∀ o : Obj, Below w.heap.size w (w.alloc o) from fun o => hp.below_alloc w o)
  unfold IntE
  obtain ⟨op, fd, fl, n, off, a, b⟩ := c
  dsimp only [Cx.v]
  by_cases e11 : op = 11
  · subst e11
    have HV := Lib.hid (show Cx.kind ⟨11, fd, fl, n, off, a, b⟩ = 2 from by simp [Cx.kind])
    rw [HV.out]
    go_enter Try.func17, Try.ntmps17
    go_wp2_with fail
    go_ret
    exact ⟨rfl, HB.out _⟩
  by_cases e12 : op = 12
  · subst e12
    have HV := Lib.hid (show Cx.kind ⟨12, fd, fl, n, off, a, b⟩ = 2 from by simp [Cx.kind])
    rw [HV.out]
    go_enter Try.func17, Try.ntmps17
    go_wp2_with fail
    go_ret
    exact ⟨rfl, HB.out _⟩
  by_cases e13 : op = 13
  · subst e13
    have HV := Lib.hid (show Cx.kind ⟨13, fd, fl, n, off, a, b⟩ = 2 from by simp [Cx.kind])
    rw [HV.out]
    go_enter Try.func17, Try.ntmps17
    go_wp2_with fail
    go_ret
    exact ⟨rfl, HB.out _⟩
  by_cases e14 : op = 14
  · subst e14
    have HV := Lib.hid (show Cx.kind ⟨14, fd, fl, n, off, a, b⟩ = 2 from by simp [Cx.kind])
    rw [HV.out]
    go_enter Try.func17, Try.ntmps17
    go_wp2_with fail
    go_ret
    exact ⟨rfl, HB.out _⟩
  by_cases e15 : op = 15
  · subst e15
    have HV := Lib.hid (show Cx.kind ⟨15, fd, fl, n, off, a, b⟩ = 2 from by simp [Cx.kind])
    rw [HV.out]
    go_enter Try.func17, Try.ntmps17
    go_wp2_with fail
    go_ret
    exact ⟨rfl, HB.out _⟩
  by_cases e17 : op = 17
  · subst e17
    have HV := Lib.hid (show Cx.kind ⟨17, fd, fl, n, off, a, b⟩ = 2 from by simp [Cx.kind])
    rw [HV.out]
    go_enter Try.func17, Try.ntmps17
    go_wp2_with fail
    go_ret
    exact ⟨rfl, HB.out _⟩
  by_cases e8 : op = 8
  · subst e8
    have HV := Lib.hid (show Cx.kind ⟨8, fd, fl, n, off, a, b⟩ = 1 from by simp [Cx.kind])
    rw [HV.out]
    go_enter Try.func17, Try.ntmps17
    go_wp2_with fail
    go_ret
    exact ⟨rfl, HB.out _⟩
  by_cases e9 : op = 9
  · subst e9
    have HV := Lib.hid (show Cx.kind ⟨9, fd, fl, n, off, a, b⟩ = 1 from by simp [Cx.kind])
    rw [HV.out]
    go_enter Try.func17, Try.ntmps17
    go_wp2_with fail
    go_ret
    exact ⟨rfl, HB.out _⟩
  by_cases e10 : op = 10
  · subst e10
    have HV := Lib.hid (show Cx.kind ⟨10, fd, fl, n, off, a, b⟩ = 1 from by simp [Cx.kind])
    rw [HV.out]
    go_enter Try.func17, Try.ntmps17
    go_wp2_with fail
    go_ret
    exact ⟨rfl, HB.out _⟩
  by_cases e16 : op = 16
  · subst e16
    have HV := Lib.hid (show Cx.kind ⟨16, fd, fl, n, off, a, b⟩ = 1 from by simp [Cx.kind])
    rw [HV.out]
    go_enter Try.func17, Try.ntmps17
    go_wp2_with fail
    go_ret
    exact ⟨rfl, HB.out _⟩
  by_cases e18 : op = 18
  · subst e18
    have HV := Lib.hid (show Cx.kind ⟨18, fd, fl, n, off, a, b⟩ = 1 from by simp [Cx.kind])
    rw [HV.out]
    go_enter Try.func17, Try.ntmps17
    go_wp2_with fail
    go_ret
    exact ⟨rfl, HB.out _⟩
  by_cases e20 : op = 20
  · subst e20
    have HV := Lib.hid (show Cx.kind ⟨20, fd, fl, n, off, a, b⟩ = 1 from by simp [Cx.kind])
    rw [HV.out]
    go_enter Try.func17, Try.ntmps17
    go_wp2_with fail
    go_ret
    exact ⟨rfl, HB.out _⟩
  by_cases e1 : op = 1
  · subst e1
    have HC := Lib.hid (fun W => bit_any fl 2 (by decide) W)
    unfold RetB at HC
    by_cases hb : bitU fl 2 = true
    · have HV := Lib.hid (show Cx.kind ⟨1, fd, fl, n, off, a, b⟩ = 2 from by simp [Cx.kind, hb])
      rw [HV.out]
      go_enter Try.func17, Try.ntmps17
      go_wp2_with fail
      refine (HC.out _).mono ?_
      rintro _ w2 ⟨rfl, hb2⟩
      have HB2 := Lib.hid (hp.below_step (HB.out _) hb2)
      have k0 := (hb2.cell (p := ⟨w.heap.size, 0, none⟩) (by simp)).trans (World.cell?_alloc_new _ _ _ _)
      simp only [List.getElem?_toArray, List.getElem?_cons_zero] at k0
      rw [hb]
      clear hb2 HC
      go_wp2_with fail
      go_ret
      exact ⟨rfl, HB2.out⟩
    · have HV := Lib.hid (show Cx.kind ⟨1, fd, fl, n, off, a, b⟩ = 1 from by simp [Cx.kind, hb])
      rw [HV.out]
      go_enter Try.func17, Try.ntmps17
      go_wp2_with fail
      refine (HC.out _).mono ?_
      rintro _ w2 ⟨rfl, hb2⟩
      have HB2 := Lib.hid (hp.below_step (HB.out _) hb2)
      have k0 := (hb2.cell (p := ⟨w.heap.size, 0, none⟩) (by simp)).trans (World.cell?_alloc_new _ _ _ _)
      simp only [List.getElem?_toArray, List.getElem?_cons_zero] at k0
      rw [Bool.eq_false_iff.2 hb]
      clear hb2 HC
      go_wp2_with fail
      go_ret
      exact ⟨rfl, HB2.out⟩
  have HV := Lib.hid (show Cx.kind ⟨op, fd, fl, n, off, a, b⟩ = 0 from by simp [Cx.kind, e11, e12, e13, e14, e15, e17, e8, e9, e10, e16, e18, e20, e1])
  rw [HV.out]
  have q11 : (op == 11) = false := by simpa using e11
  have q12 : (op == 12) = false := by simpa using e12
  have q13 : (op == 13) = false := by simpa using e13
  have q14 : (op == 14) = false := by simpa using e14
  have q15 : (op == 15) = false := by simpa using e15
  have q17 : (op == 17) = false := by simpa using e17
  have q8 : (op == 8) = false := by simpa using e8
  have q9 : (op == 9) = false := by simpa using e9
  have q10 : (op == 10) = false := by simpa using e10
  have q16 : (op == 16) = false := by simpa using e16
  have q18 : (op == 18) = false := by simpa using e18
  have q20 : (op == 20) = false := by simpa using e20
  have q1 : (op == 1) = false := by simpa using e1
  by_cases g11 : 11 ≤ op
  · have g15 : ¬ op ≤ 15 := by omega
    have g8 : 8 ≤ op := by omega
    have g10 : ¬ op ≤ 10 := by omega
    clear e11 e12 e13 e14 e15 e17 e8 e9 e10 e16 e18 e20 e1
    go_enter Try.func17, Try.ntmps17
    go_wp2_with fail
    go_ret
    exact ⟨rfl, HB.out _⟩
  · have g8 : ¬ 8 ≤ op := by omega
    clear e11 e12 e13 e14 e15 e17 e8 e9 e10 e16 e18 e20 e1
    go_enter Try.func17, Try.ntmps17
    go_wp2_with fail
    go_ret
    exact ⟨rfl, HB.out _⟩
end Go.Proofs.Ytlplbpilpkmoaaa.pl
