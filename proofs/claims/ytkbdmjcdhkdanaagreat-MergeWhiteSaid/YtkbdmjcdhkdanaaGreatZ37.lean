/- A node that came in; what two rows of names have. -/
import Derived.Test.YtkbdmjcdhkdanaaGreatZ36
section
namespace Go.Proofs.YtkbdmjcdhkdanaaGreat.mg
open Go.ChangeShapes Go.WideShapes Go.ChangeAt Go.RowKit
open Go.Proofs.YtkbdmjcdhkdanaaGreat.bl (Pq)
set_option linter.unusedVariables false
set_option linter.unusedSimpArgs false
set_option maxRecDepth 100000

theorem cells24 : Tryz.prog.cellsOf 24 = 2 := by kernel_rfl
theorem array2 {α : Type} {cs : Array α} (h : cs.size = 2) : ∃ c0 c1, cs = #[c0, c1] := by
  obtain ⟨l⟩ := cs
  match l, h with
  | [c0, c1], _ => exact ⟨c0, c1, rfl⟩
theorem open_node {H : Type} {enc : TypeId × Value → H} {W : World} {r : Reach} {b0 : Nat} {sp : Nat → Bool} {held : Bool} {v : Value} {d : DataW H} {p : List MemPlace}
    (hv : Value.okWide Tryz.prog W r b0 24 v) (h : DataW.Trod enc Tryz.prog W 0 sp held 24 v d p) : ∃ n : Nd, v = Nv n := by
  obtain ⟨cs, rfl, hsz⟩ := okWide_struct Tryz.underlying24 hv
  obtain ⟨c0, c1, rfl⟩ := array2 (hsz.trans cells24)
  obtain ⟨fuel, hf⟩ := h
  obtain ⟨xs, n, _, hx, hl, hlen, hfs⟩ := DataW.trod_struct Tryz.underlying24 hf
  have hlen2 : xs.length = 2 := hlen
  match xs, hlen2 with
  | [y0, y1], _ =>
    have t0 := hfs 0 _ rfl
    have t1 := hfs 1 _ rfl
    obtain ⟨z0, e0, _⟩ := DataW.trod_int Tryz.underlying3 t0
    obtain ⟨z1, e1, _⟩ := DataW.trod_int Tryz.underlying3 t1
    have f0 : c0 = .int .i64 z0 := by injection e0 with e _
    have f1 : c1 = .int .i64 z1 := by injection e1 with e _
    subst f0 f1
    exact ⟨(z0, z1), rfl⟩
theorem node_stays {H : Type} {enc : TypeId × Value → H} {W W' : World} {v : Value} {d : DataW H} {ps before : List MemPlace} {sp : Nat → Bool}
    (h : DataW.Trod enc Tryz.prog W 0 (fun _ => true) true 24 v d ps) (hb : Below W.heap.size W W') (hsub : ∀ x ∈ ps, x ∈ before) (hlt : ∀ x ∈ before, x.block < W.heap.size) (hsp : ∀ x ∈ before, sp x.block = true) (hlaid : laidOutB Tryz.prog = true) :
    DataW.Trod enc Tryz.prog W' 0 sp true 24 v d ps :=
  WideElems.Trod_stays hlaid (by kernel_rfl) (of_decide_eq_true (by kernel_rfl)) h (fun x hx => hb.same (hlt x (hsub x hx))) (fun x hx => hsp x (hsub x hx))
theorem acts_up {w : World} {B B' n : Nat} {A : Option Addr} {F : Nat → cb.Act7} (h : cb.Acts w B A n F) (hB : B ≤ B') : cb.Acts w B' A n F := fun i hi => by
  obtain ⟨b, off, e, h1, r⟩ := h i hi
  exact ⟨b, off, e, Nat.lt_of_lt_of_le h1 hB, r⟩
/-- Names that are read. -/
def NS (w : World) (A : Option Addr) (l : List ByteArray) : Prop := ∀ k x, l[k]? = some x → ∃ G, A = some ⟨G, 0, none⟩ ∧ w.cell? ⟨G, k, none⟩ = some (.string x)
theorem NR.ns {w : World} {lo : Nat} {A : Option Addr} {l : List ByteArray} (h : NR w lo A l) : NS w A l := fun k x hx => by
  obtain ⟨G, e, _, _, h3, _⟩ := h k x hx
  exact ⟨G, e, h3⟩
theorem NS.below {w w' : World} {A : Option Addr} {l : List ByteArray} (h : NS w A l) (hb : Below w.heap.size w w') : NS w' A l := fun k x hx => by
  obtain ⟨G, e, h3⟩ := h k x hx
  exact ⟨G, e, (hb.cell (p := ⟨G, k, none⟩) (World.block_lt_of_cell? _ _ h3)).trans h3⟩
theorem beq_str (a b : ByteArray) : (a.toList != b.toList) = !decide (a = b) := by rw [bne, dn.beq_names]
set_option maxHeartbeats 2000000 in
theorem same_any {w : World} {A B : Option Addr} {l k : List ByteArray} {c d : Nat} (hA : NS w A l) (hB : NS w B k) (h1 : l.length ≤ c) (h2 : c ≤ maxLen) (h3 : k.length ≤ d) (h4 : d ≤ maxLen) :
    Calls Tryz.prog 24 #[.slice A l.length c, .slice B k.length d] w (fun e w' => e = .returned (.bool (decide (l = k))) ∧ Below w.heap.size w w') := by
  have HA := Lib.hid (fun W (hb : Below w.heap.size w W) => hA.below hb)
  have HB := Lib.hid (fun W (hb : Below w.heap.size w W) => hB.below hb)
  obtain ⟨r, hr⟩ : ∃ r, decide (l = k) = r := ⟨_, rfl⟩
  rw [hr]
  have HR := Lib.hid hr
  have hlc : (l.length : Int) ≤ 9223372036854775807 := by unfold maxLen at h2; omega
  have hkc : (k.length : Int) ≤ 9223372036854775807 := by unfold maxLen at h4; omega
  by_cases hl : l.length = k.length
  case neg =>
    have hq : (((l.length : Nat) : Int) != ((k.length : Nat) : Int)) = true := by simp; omega
    have HN := Lib.hid (show l ≠ k from fun e => hl (by rw [e]))
    generalize l.length = a at *
    generalize k.length = b at *
    clear hA hB hr hl
    go_enter Tryz.func24, Tryz.ntmps24
    go_wp2_with fail
    go_ret
    exact ⟨by rw [← HR.out, decide_eq_false HN.out]; rfl, Below.refl _ _⟩
  have HK := Lib.hid (show (∀ i, i < l.length → l[i]? = k[i]?) → l = k from fun h => List.ext_getElem? fun i => by
    by_cases hi : i < l.length
    · exact h i hi
    · rw [List.getElem?_eq_none (by omega), List.getElem?_eq_none (by omega)])
  have HGL := Lib.hid (fun i (hi : i < l.length) => (⟨l[i], List.getElem?_eq_getElem hi⟩ : ∃ x, l[i]? = some x))
  have HGK := Lib.hid (fun i (hi : i < l.length) => (⟨k[i]'(by omega), List.getElem?_eq_getElem (by omega)⟩ : ∃ x, k[i]? = some x))
  rw [← hl] at h3 hkc ⊢
  generalize l.length = n at *
  clear hA hB hr hl
  go_enter Tryz.func24, Tryz.ntmps24
  go_wp2_with fail
  go_loopg [13] n (fun g s13 wr => ∃ j : Nat, g + j = n ∧ s13 = .int .i64 j ∧ Hid (∀ i, i < j → l[i]? = k[i]?) ∧ Hid (Below w.heap.size w wr))
  case atStart => exact ⟨0, by omega, rfl, Lib.hid (fun i hi => absurd hi (Nat.not_lt_zero _)), Lib.hid (Below.refl _ _)⟩
  case round =>
    obtain ⟨j, hgj, rfl, HE, HW⟩ := hrel
    by_cases hj : j < n
    · obtain ⟨x, hx⟩ := HGL.out j hj
      obtain ⟨y, hy⟩ := HGK.out j hj
      obtain ⟨G, rfl, f1⟩ := HA.out _ HW.out j x hx
      obtain ⟨K, rfl, f2⟩ := HB.out _ HW.out j y hy
      have HX := Lib.hid (And.intro hx hy)
      clear hx hy
      by_cases hxy : x = y
      · have hq : (x.toList == y.toList) = true := by rw [dn.beq_names, decide_eq_true hxy]
        have HE2 := Lib.hid (show ∀ i, i < j + 1 → l[i]? = k[i]? from fun i hi => by
          by_cases h : i < j
          · exact HE.out i h
          · obtain rfl : i = j := by omega
            rw [HX.out.1, HX.out.2, hxy])
        clear hxy
        go_wp2_with fail
        go_quiet (fail)
        go_wp2_with fail
        go_roundg (gk - 1)
        case measure => omega
        case rel => exact ⟨j + 1, by omega, by go_num, HE2, Lib.hid (dn.below_drewN HW.out _)⟩
      · have hq : (x.toList == y.toList) = false := by rw [dn.beq_names, decide_eq_false hxy]
        have HN := Lib.hid (show l ≠ k from fun e => hxy (by have := HX.out; rw [e] at this; have h5 := this.1.symm.trans this.2; injection h5))
        clear hxy
        go_wp2_with fail
        go_quiet (fail)
        go_wp2_with fail
        go_ret
        exact ⟨by rw [← HR.out, decide_eq_false HN.out]; rfl, dn.below_drewN HW.out _⟩
    · have HE2 := Lib.hid (HK.out fun i hi => HE.out i (by omega))
      clear HE
      go_wp2_with fail
      go_ret
      exact ⟨by rw [← HR.out, decide_eq_true HE2.out]; rfl, HW.out⟩
theorem getV_none {U L : br.BS} {n : Nd} {s : ByteArray} (h : (getV U L n s).2 ≠ 0) : (getV U L n s).1 = (0, 0) := by
  unfold getV at h ⊢
  split
  · rfl
  · rename_i h1
    rw [if_neg h1] at h
    split
    · rfl
    · rename_i h2; rw [if_neg h2] at h; exact absurd rfl h
theorem Bt.getU {w0 w : World} {G : Nat} {p : cb.Pt} {U L : br.BS} (h : cb.Bt w0 w G p U L) (i : Int) (s : ByteArray) : Calls Tryz.prog 31 #[Pq p.P1, .int .i64 i, .string s] w (fun e w' => e = .returned (.tuple #[.int .i64 (U.get i s).1, .int .i64 (U.get i s).2]) ∧ Below w.heap.size w w') := cb.x_get h.q.brx1 i s
theorem Bt.getL {w0 w : World} {G : Nat} {p : cb.Pt} {U L : br.BS} (h : cb.Bt w0 w G p U L) (i : Int) (s : ByteArray) : Calls Tryz.prog 31 #[Pq p.P2, .int .i64 i, .string s] w (fun e w' => e = .returned (.tuple #[.int .i64 (L.get i s).1, .int .i64 (L.get i s).2]) ∧ Below w.heap.size w w') := cb.x_get h.q.brx2 i s
theorem Bt.kindU {w0 w : World} {G : Nat} {p : cb.Pt} {U L : br.BS} (h : cb.Bt w0 w G p U L) (i : Int) : Calls Tryz.prog 32 #[Pq p.P1, .int .i64 i] w (fun e w' => e = .returned (.int .i64 (U.kindOf i)) ∧ Below w.heap.size w w') := cb.x_kind h.q.brx1 i
theorem Bt.kindL {w0 w : World} {G : Nat} {p : cb.Pt} {U L : br.BS} (h : cb.Bt w0 w G p U L) (i : Int) : Calls Tryz.prog 32 #[Pq p.P2, .int .i64 i] w (fun e w' => e = .returned (.int .i64 (L.kindOf i)) ∧ Below w.heap.size w w') := cb.x_kind h.q.brx2 i
theorem Bt.marksU {w0 w : World} {G : Nat} {p : cb.Pt} {U L : br.BS} (h : cb.Bt w0 w G p U L) (i : Int) : Calls Tryz.prog 33 #[Pq p.P1, .int .i64 i] w (fun e w' => e = .returned (.int .i64 (U.marksOf i)) ∧ Below w.heap.size w w') := cb.x_marks h.q.brx1 i
theorem Bt.inoU {w0 w : World} {G : Nat} {p : cb.Pt} {U L : br.BS} (h : cb.Bt w0 w G p U L) : Calls Tryz.prog 37 #[Pq p.P1] w (fun e w' => e = .returned (.int .i64 (U.count 200 : Int)) ∧ w' = w) := cb.x_inodes h.q.brx1
theorem Bt.inoL {w0 w : World} {G : Nat} {p : cb.Pt} {U L : br.BS} (h : cb.Bt w0 w G p U L) : Calls Tryz.prog 37 #[Pq p.P2] w (fun e w' => e = .returned (.int .i64 (L.count 200 : Int)) ∧ w' = w) := cb.x_inodes h.q.brx2
end Go.Proofs.YtkbdmjcdhkdanaaGreat.mg
end
