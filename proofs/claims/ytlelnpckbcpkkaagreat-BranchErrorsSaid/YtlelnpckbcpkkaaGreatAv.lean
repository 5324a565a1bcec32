/- An act that came in by value, opened; it reads as it did. -/
import Derived.Test.YtlelnpckbcpkkaaGreatZn
namespace Go.Proofs.YtlelnpckbcpkkaaGreat.cb
open Go.ChangeShapes Go.WideShapes Go.ChangeAt Go.RowKit
set_option linter.unusedVariables false
set_option linter.unusedSimpArgs false

theorem cells29 : Tryz.prog.cellsOf 29 = 7 := by kernel_rfl
theorem array7 {α : Type} {cs : Array α} (h : cs.size = 7) : ∃ c0 c1 c2 c3 c4 c5 c6, cs = #[c0, c1, c2, c3, c4, c5, c6] := by
  obtain ⟨l⟩ := cs
  match l, h with
  | [c0, c1, c2, c3, c4, c5, c6], _ => exact ⟨c0, c1, c2, c3, c4, c5, c6, rfl⟩
set_option maxRecDepth 100000 in
theorem open_act {H : Type} {enc : TypeId × Value → H} {W : World} {r : Reach} {b0 : Nat} {sp : Nat → Bool} {held : Bool} {v : Value} {d : DataW H} {p : List MemPlace}
    (hv : Value.okWide Tryz.prog W r b0 29 v) (h : DataW.Trod enc Tryz.prog W 0 sp held 29 v d p) :
    ∃ x : Act7, v = ActV x ∧ x.a.size ≤ maxLen ∧ x.b.size ≤ maxLen := by
  obtain ⟨cs, rfl, hsz⟩ := okWide_struct Tryz.underlying29 hv
  obtain ⟨c0, c1, c2, c3, c4, c5, c6, rfl⟩ := array7 (hsz.trans cells29)
  obtain ⟨fuel, hf⟩ := h
  obtain ⟨xs, n, _, hx, hl, hlen, hfs⟩ := DataW.trod_struct Tryz.underlying29 hf
  have hlen7 : xs.length = 7 := hlen
  match xs, hlen7 with
  | [y0, y1, y2, y3, y4, y5, y6], _ =>
    have t0 := hfs 0 _ rfl
    have t1 := hfs 1 _ rfl
    have t2 := hfs 2 _ rfl
    have t3 := hfs 3 _ rfl
    have t4 := hfs 4 _ rfl
    have t5 := hfs 5 _ rfl
    have t6 := hfs 6 _ rfl
    obtain ⟨z0, e0, _⟩ := DataW.trod_int Tryz.underlying3 t0
    obtain ⟨z1, e1, _⟩ := DataW.trod_int Tryz.underlying3 t1
    obtain ⟨z2, e2, _⟩ := DataW.trod_int Tryz.underlying3 t2
    obtain ⟨z3, e3, _⟩ := DataW.trod_int Tryz.underlying3 t3
    obtain ⟨z4, e4, _, hz4⟩ := DataW.trod_string Tryz.underlying9 t4
    obtain ⟨z5, e5, _, hz5⟩ := DataW.trod_string Tryz.underlying9 t5
    obtain ⟨z6, e6, _⟩ := DataW.trod_int Tryz.underlying2 t6
    have f0 : c0 = .int .i64 z0 := by injection e0 with e _
    have f1 : c1 = .int .i64 z1 := by injection e1 with e _
    have f2 : c2 = .int .i64 z2 := by injection e2 with e _
    have f3 : c3 = .int .i64 z3 := by injection e3 with e _
    have f4 : c4 = .string z4 := by injection e4 with e _
    have f5 : c5 = .string z5 := by injection e5 with e _
    have f6 : c6 = .int .i64 z6 := by injection e6 with e _
    subst f0 f1 f2 f3 f4 f5 f6
    exact ⟨⟨z0, z1, z2, z3, z4, z5, z6⟩, rfl, hz4, hz5⟩
/-- An act by value reads as it did. -/
theorem act_stays {H : Type} {enc : TypeId × Value → H} {W W' : World} {v : Value} {d : DataW H} {ps before : List MemPlace} {sp : Nat → Bool}
    (h : DataW.Trod enc Tryz.prog W 0 (fun _ => true) true 29 v d ps) (hb : Below W.heap.size W W') (hsub : ∀ x ∈ ps, x ∈ before) (hlt : ∀ x ∈ before, x.block < W.heap.size) (hsp : ∀ x ∈ before, sp x.block = true) (hlaid : laidOutB Tryz.prog = true) :
    DataW.Trod enc Tryz.prog W' 0 sp true 29 v d ps :=
  WideElems.Trod_stays hlaid (by kernel_rfl) (of_decide_eq_true (by kernel_rfl)) h (fun x hx => hb.same (hlt x (hsub x hx))) (fun x hx => hsp x (hsub x hx))
theorem Acts.upto {w : World} {B B' n : Nat} {A : Option Addr} {F : Nat → Act7} (h : Acts w B A n F) (hb : B ≤ B') : Acts w B' A n F := fun i hi => by
  obtain ⟨b, off, e, hB, hr⟩ := h i hi
  exact ⟨b, off, e, Nat.lt_of_lt_of_le hB hb, hr⟩
end Go.Proofs.YtlelnpckbcpkkaaGreat.cb
