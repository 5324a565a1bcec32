/- A call that came in by value, with a bound on its texts. -/
import Derived.Test.YtoomdgjppfmdlaaCq
import Derived.SizedLaws
namespace Go.Proofs.Ytoomdgjppfmdlaa
open Go.ChangeShapes Go.WideShapes Go.ChangeAt Go.RowKit
set_option linter.unusedVariables false
set_option linter.unusedSimpArgs false
theorem open_call2 {H : Type} {enc : TypeId × Value → H} {W : World} {r : Reach} {b0 : Nat} {sp : Nat → Bool} {held : Bool} {v : Value} {d : DataW H} {p : List MemPlace}
    (hv : Value.okWide Try.prog W r b0 32 v) (h : DataW.Trod enc Try.prog W 0 sp held 32 v d p) (hz : ∀ n ∈ d.weights Try.prog 32, n ≤ reachBytes) :
    ∃ x : C, v = CV x ∧ x.a.length ≤ 140737488351232 ∧ x.b.length ≤ 140737488351232 := by
  obtain ⟨cs, rfl, hsz⟩ := okWide_struct Try.underlying32 hv
  obtain ⟨c0, c1, c2, c3, c4, c5, c6, rfl⟩ := array7 (hsz.trans cells32)
  obtain ⟨fuel, hf⟩ := h
  obtain ⟨xs, n, _, hx, hl, hlen, hfs⟩ := DataW.trod_struct Try.underlying32 hf
  have hlen7 : xs.length = 7 := hlen
  match xs, hlen7 with
  | [y0, y1, y2, y3, y4, y5, y6], _ =>
    have t0 := hfs 0 _ rfl
    have t1 := hfs 1 _ rfl
    have t2 := hfs 2 _ rfl
    have t3 := hfs 3 _ rfl
    have t4 := hfs 4 _ rfl
    have t5 := hfs 5 _ rfl
    have t6 := hfs 6 _ rfl
    obtain ⟨z0, e0, _⟩ := DataW.trod_int Try.underlying3 t0
    obtain ⟨z1, e1, _⟩ := DataW.trod_int Try.underlying3 t1
    obtain ⟨z2, e2, _⟩ := DataW.trod_int Try.underlying3 t2
    obtain ⟨z3, e3, _⟩ := DataW.trod_int Try.underlying2 t3
    obtain ⟨z4, e4, _⟩ := DataW.trod_int Try.underlying2 t4
    obtain ⟨z5, e5, u5, hz5⟩ := DataW.trod_string Try.underlying9 t5
    obtain ⟨z6, e6, u6, hz6⟩ := DataW.trod_string Try.underlying9 t6
    have f0 : c0 = .int .i64 z0 := by injection e0 with e _
    have f1 : c1 = .int .i64 z1 := by injection e1 with e _
    have f2 : c2 = .int .i64 z2 := by injection e2 with e _
    have f3 : c3 = .int .i64 z3 := by injection e3 with e _
    have f4 : c4 = .int .i64 z4 := by injection e4 with e _
    have f5 : c5 = .string z5 := by injection e5 with e _
    have f6 : c6 = .string z6 := by injection e6 with e _
    subst f0 f1 f2 f3 f4 f5 f6
    have hd : d = .agg [y0.1, y1.1, y2.1, y3.1, y4.1, y5.1, y6.1] := by injection hx with h1 h2
    have q5 : y5.1 = .lit (.string z5.data.toList) := by rw [u5]
    have q6 : y6.1 = .lit (.string z6.data.toList) := by rw [u6]
    have m5 : z5.data.toList.length ∈ d.weights Try.prog 32 := by
      rw [hd, DataW.weights, Try.underlying32, q5, q6]
      simp [DataW.weightsEach, DataW.weights]
    have m6 : z6.data.toList.length ∈ d.weights Try.prog 32 := by
      rw [hd, DataW.weights, Try.underlying32, q5, q6]
      simp [DataW.weightsEach, DataW.weights]
    have n5 := hz _ m5
    have n6 := hz _ m6
    unfold reachBytes at n5 n6
    exact ⟨⟨z0, z1, z2, z3, z4, z5.data.toList, z6.data.toList⟩, by simp only [CV, Sv_of], by dsimp only; omega, by dsimp only; omega⟩
end Go.Proofs.Ytoomdgjppfmdlaa
