/- Bytes and calls that came in, opened; the row's last step. -/
import Derived.Test.YtoomdgjppfmdlaaCl
import Derived.ProofKit
import Derived.ChangeSlices
import Derived.SliceStrings
import Derived.Deep.Slices
import Derived.Deep.Fields
import Derived.Lib.SmallJoins
import Derived.OpenShut
import Derived.ChangeSame
namespace Go.Proofs.Ytoomdgjppfmdlaa
open Go.ChangeShapes Go.WideShapes Go.ChangeAt Go.RowKit
set_option linter.unusedVariables false
set_option linter.unusedSimpArgs false

section
open Go.Deep
variable {H : Type} {enc : TypeId × Value → H} {P : Program} {w : World} {base : Nat} {spare : Nat → Bool} {held : Bool}
theorem open_slice_fields {t e : TypeId} {fs : Array Field} {fuel : Nat} {cs : List Value} {x : DataW H × List MemPlace} (ht : P.underlying t = some (.slice e)) (he : P.underlying e = some (.struct fs))
    (hone : oneCellFields P fs = true) (hC : P.cellsOf e = fs.size) (h : DataW.trod enc P w base spare held fuel t cs = some x) :
    (cs = [.slice none 0 0]) ∨
    ∃ (a : Addr) (len cap m : Nat), cs = [.slice (some a) len cap] ∧ len ≤ cap ∧ cap ≤ maxLen ∧ len ≤ m ∧
      ∀ i, i < m → ∃ (n : Nat), ∀ (j : Nat) (f : Field), fs[j]? = some f → ∃ (v : Value) (y : DataW H × List MemPlace), w.cell? (a.add (i * fs.size + j)) = some v ∧ DataW.trod enc P w base spare held n f.type [v] = some y := by
  rcases open_slice ht h with h0 | ⟨a, len, cap, m, n, D, Pl, hcs, hb, hl, hm, hmm, hx, hi⟩
  · exact .inl h0.1
  · refine .inr ⟨a, len, cap, m, hcs, hl, hm, by rw [hmm]; split <;> omega, fun i him => ?_⟩
    obtain ⟨cs', hc, ht'⟩ := hi i him
    rw [hC] at hc
    obtain ⟨ys, n', hn', hy, hlen, hyl, hf⟩ := DataW.trod_struct he ht'
    obtain ⟨_, hcl, hat⟩ := World.cells?_some hc
    refine ⟨n', fun j f hj => ?_⟩
    obtain ⟨ho, hk⟩ := hone_of hone j f hj
    have hjl : j < fs.size := (Array.getElem?_eq_some_iff.1 hj).1
    have hcell := hat j hjl
    have hv : cs'[j]? = some (cs'[j]'(by omega)) := List.getElem?_eq_getElem (by omega)
    have h1 := hf j f hj
    rw [ho, hk] at h1
    have hone' : (cs'.drop j).take 1 = [cs'[j]'(by omega)] := by
      rw [List.drop_eq_getElem_cons (by omega)]
      rfl
    rw [hone'] at h1
    have hys : ys[j]? = some (ys[j]'(by omega)) := List.getElem?_eq_getElem (by omega)
    refine ⟨_, _, ?_, h1.trans hys⟩
    rw [← Go.Deep.add_add, hcell, hv]
end

theorem spot_none {w : World} {a : Addr} {v : Value} (h : w.cell? (a.add 0) = some v) : ∃ b off, a = ⟨b, off, none⟩ ∧ b < w.heap.size := by
  obtain ⟨b, off, spot⟩ := a
  have hs : spot = none := by simpa [Addr.add] using World.cell?_spot h
  subst hs
  exact ⟨b, off, rfl, World.block_lt_of_cell? w _ h⟩
theorem cells5 : Try.prog.cellsOf 5 = 1 := by kernel_rfl
theorem cells32 : Try.prog.cellsOf 32 = 7 := by kernel_rfl
theorem byte_of {z : Int} (h : (Lit.int .u8 z).wf = true) : Value.int .u8 z = .int .u8 ((UInt8.ofNat z.toNat).toNat : Nat) := by
  simp only [Lit.wf, Bool.and_eq_true, decide_eq_true_eq] at h
  have h1 : 0 ≤ z := h.1
  have h2 : z ≤ 255 := h.2
  congr 1
  rw [UInt8.toNat_ofNat']
  omega
theorem open_bytes {H : Type} {enc : TypeId × Value → H} {W : World} {r : Reach} {b0 : Nat} {sp : Nat → Bool} {held : Bool} {v : Value} {d : DataW H} {p : List MemPlace}
    (hv : Value.okWide Try.prog W r b0 22 v) (h : DataW.Trod enc Try.prog W 0 sp held 22 v d p) : ∃ A n c l, v = .slice A n c ∧ n = List.length l ∧ (n ≤ c ∧ c ≤ maxLen) ∧ Byt W W.heap.size A l := by
  obtain ⟨fuel, hf⟩ := h
  have hcells : v.cells.toList = [v] := by
    obtain ⟨A, n, c, rfl⟩ := okWide_slice Try.underlying22 hv
    rfl
  rw [hcells] at hf
  rcases open_ints Try.underlying22 Try.underlying5 cells5 hf with ⟨e, _⟩ | ⟨a, len, cap, zs, e, _, hl, hm, hz, _, hc, hwf⟩
  · injection e with e
    subst e
    exact ⟨none, 0, 0, [], rfl, rfl, ⟨Nat.le_refl _, by unfold maxLen; omega⟩, Byt.nil _ _ _⟩
  · injection e with e
    subst e
    have hlz : len ≤ zs.length := by rw [hz]; split <;> omega
    refine ⟨some a, len, cap, (List.range len).map fun i => UInt8.ofNat (zs.getD i 0).toNat, rfl, by simp, ⟨hl, hm⟩, fun i x hx => ?_⟩
    have hi : i < len := by have := (List.getElem?_eq_some_iff.1 hx).1; simpa using this
    rw [List.getElem?_map, List.getElem?_range hi] at hx
    injection hx with hx
    subst hx
    obtain ⟨b, off, rfl, hb⟩ := spot_none (hc 0 (by omega))
    have := hc i (by omega)
    rw [Go.WideShapes.add_plain] at this
    refine ⟨b, off, rfl, hb, ?_⟩
    rw [this, byte_of (hwf _ (by rw [List.getD_eq_getElem?_getD, List.getElem?_eq_getElem (by omega)]; exact List.getElem_mem _))]
theorem open_calls {H : Type} {enc : TypeId × Value → H} {W : World} {r : Reach} {b0 : Nat} {sp : Nat → Bool} {held : Bool} {v : Value} {d : DataW H} {p : List MemPlace}
    (hv : Value.okWide Try.prog W r b0 24 v) (h : DataW.Trod enc Try.prog W 0 sp held 24 v d p) :
    ∃ A n c L, v = .slice A n c ∧ n = List.length L ∧ (n ≤ c ∧ c ≤ maxLen) ∧ Cls W W.heap.size A L ∧ Lens L := by
  obtain ⟨fuel, hf⟩ := h
  have hcells : v.cells.toList = [v] := by
    obtain ⟨A, n, c, rfl⟩ := okWide_slice Try.underlying24 hv
    rfl
  rw [hcells] at hf
  rcases open_slice_fields Try.underlying24 Try.underlying32 (by kernel_rfl) (by kernel_rfl) hf with e | ⟨a, len, cap, m, e, hl, hm, hlm, hi⟩
  · injection e with e
    subst e
    exact ⟨none, 0, 0, [], rfl, rfl, ⟨Nat.le_refl _, by unfold maxLen; omega⟩, Cls.nil _ _ _, fun c hc => by cases hc⟩
  · injection e with e
    subst e
    have hall : ∀ i, ∃ x : C, i < len → (x.a.length ≤ maxLen ∧ x.b.length ≤ maxLen) ∧ ∃ b off, (some a : Option Addr) = some ⟨b, off, none⟩ ∧ b < W.heap.size ∧ ∀ j v, (CL x)[j]? = some v → W.cell? ⟨b, off + i * 7 + j, none⟩ = some v := by
      intro i
      by_cases hil : i < len
      · obtain ⟨n0, hj0⟩ := hi 0 (by omega)
        obtain ⟨_, _, c00, _⟩ := hj0 0 _ rfl
        obtain ⟨b, off, rfl, hb⟩ := spot_none (by simpa using c00)
        obtain ⟨n, hj⟩ := hi i (by omega)
        obtain ⟨v0, y0, c0, t0⟩ := hj 0 _ rfl
        obtain ⟨v1, y1, c1, t1⟩ := hj 1 _ rfl
        obtain ⟨v2, y2, c2, t2⟩ := hj 2 _ rfl
        obtain ⟨v3, y3, c3, t3⟩ := hj 3 _ rfl
        obtain ⟨v4, y4, c4, t4⟩ := hj 4 _ rfl
        obtain ⟨v5, y5, c5, t5⟩ := hj 5 _ rfl
        obtain ⟨v6, y6, c6, t6⟩ := hj 6 _ rfl
        obtain ⟨z0, e0, _⟩ := DataW.trod_int Try.underlying3 t0
        obtain ⟨z1, e1, _⟩ := DataW.trod_int Try.underlying3 t1
        obtain ⟨z2, e2, _⟩ := DataW.trod_int Try.underlying3 t2
        obtain ⟨z3, e3, _⟩ := DataW.trod_int Try.underlying2 t3
        obtain ⟨z4, e4, _⟩ := DataW.trod_int Try.underlying2 t4
        obtain ⟨z5, e5, _, hz5⟩ := DataW.trod_string Try.underlying9 t5
        obtain ⟨z6, e6, _, hz6⟩ := DataW.trod_string Try.underlying9 t6
        injection e0 with e0
        subst e0
        injection e1 with e1
        subst e1
        injection e2 with e2
        subst e2
        injection e3 with e3
        subst e3
        injection e4 with e4
        subst e4
        injection e5 with e5
        subst e5
        injection e6 with e6
        subst e6
        rw [Go.WideShapes.add_plain] at c0 c1 c2 c3 c4 c5 c6
        have hlen : ∀ s : ByteArray, s.data.toList.length = s.size := fun s => Array.length_toList
        refine ⟨⟨z0, z1, z2, z3, z4, z5.data.toList, z6.data.toList⟩, fun _ => ⟨⟨by rw [hlen]; exact hz5, by rw [hlen]; exact hz6⟩, b, off, rfl, hb, fun j v hv => ?_⟩⟩
        match j, hv with
        | 0, hv => injection hv with hv; subst hv; simpa [Nat.add_assoc] using c0
        | 1, hv => injection hv with hv; subst hv; simpa [Nat.add_assoc] using c1
        | 2, hv => injection hv with hv; subst hv; simpa [Nat.add_assoc] using c2
        | 3, hv => injection hv with hv; subst hv; simpa [Nat.add_assoc] using c3
        | 4, hv => injection hv with hv; subst hv; simpa [Nat.add_assoc] using c4
        | 5, hv => injection hv with hv; subst hv; rw [Sv_of]; simpa [Nat.add_assoc] using c5
        | 6, hv => injection hv with hv; subst hv; rw [Sv_of]; simpa [Nat.add_assoc] using c6
        | j + 7, hv => simp [CL] at hv
      · exact ⟨⟨0, 0, 0, 0, 0, [], []⟩, fun h => absurd h hil⟩
    obtain ⟨F, hF⟩ := Classical.axiomOfChoice hall
    refine ⟨some a, len, cap, (List.range len).map F, rfl, by simp, ⟨hl, hm⟩, fun i x hx => ?_, fun c hc => ?_⟩
    · have hi : i < len := by have := (List.getElem?_eq_some_iff.1 hx).1; simpa using this
      rw [List.getElem?_map, List.getElem?_range hi] at hx
      injection hx with hx
      subst hx
      exact (hF i hi).2
    · rw [List.mem_map] at hc
      obtain ⟨i, hi, rfl⟩ := hc
      exact (hF i (List.mem_range.1 hi)).1
theorem array7 {α : Type} {cs : Array α} (h : cs.size = 7) : ∃ c0 c1 c2 c3 c4 c5 c6, cs = #[c0, c1, c2, c3, c4, c5, c6] := by
  obtain ⟨l⟩ := cs
  match l, h with
  | [c0, c1, c2, c3, c4, c5, c6], _ => exact ⟨c0, c1, c2, c3, c4, c5, c6, rfl⟩
theorem open_call {H : Type} {enc : TypeId × Value → H} {W : World} {r : Reach} {b0 : Nat} {sp : Nat → Bool} {held : Bool} {v : Value} {d : DataW H} {p : List MemPlace}
    (hv : Value.okWide Try.prog W r b0 32 v) (h : DataW.Trod enc Try.prog W 0 sp held 32 v d p) :
    ∃ x : C, v = CV x ∧ x.a.length ≤ maxLen ∧ x.b.length ≤ maxLen := by
  obtain ⟨cs, rfl, hsz⟩ := okWide_struct Try.underlying32 hv
  obtain ⟨c0, c1, c2, c3, c4, c5, c6, rfl⟩ := array7 (hsz.trans cells32)
  obtain ⟨fuel, hf⟩ := h
  obtain ⟨xs, n, _, hx, hl, hlen, hfs⟩ := DataW.trod_struct Try.underlying32 hf
  have hlen7 : xs.length = 7 := hlen
  match xs, hlen7 with
  | [y0, y1, y2, y3, y4, y5, y6], _ =>
    have t0 := hfs 0 _ rfl
    have t1 := hfs 1 _ rfl
    have t2 := hfs 2 _ rfl
    have t3 := hfs 3 _ rfl
    have t4 := hfs 4 _ rfl
    have t5 := hfs 5 _ rfl
    have t6 := hfs 6 _ rfl
    obtain ⟨z0, e0, _⟩ := DataW.trod_int Try.underlying3 t0
    obtain ⟨z1, e1, _⟩ := DataW.trod_int Try.underlying3 t1
    obtain ⟨z2, e2, _⟩ := DataW.trod_int Try.underlying3 t2
    obtain ⟨z3, e3, _⟩ := DataW.trod_int Try.underlying2 t3
    obtain ⟨z4, e4, _⟩ := DataW.trod_int Try.underlying2 t4
    obtain ⟨z5, e5, _, hz5⟩ := DataW.trod_string Try.underlying9 t5
    obtain ⟨z6, e6, _, hz6⟩ := DataW.trod_string Try.underlying9 t6
    have f0 : c0 = .int .i64 z0 := by injection e0 with e _
    have f1 : c1 = .int .i64 z1 := by injection e1 with e _
    have f2 : c2 = .int .i64 z2 := by injection e2 with e _
    have f3 : c3 = .int .i64 z3 := by injection e3 with e _
    have f4 : c4 = .int .i64 z4 := by injection e4 with e _
    have f5 : c5 = .string z5 := by injection e5 with e _
    have f6 : c6 = .string z6 := by injection e6 with e _
    subst f0 f1 f2 f3 f4 f5 f6
    have hlen : ∀ s : ByteArray, s.data.toList.length = s.size := fun s => Array.length_toList
    exact ⟨⟨z0, z1, z2, z3, z4, z5.data.toList, z6.data.toList⟩, by simp only [CV, Sv_of], by rw [hlen]; exact hz5, by rw [hlen]; exact hz6⟩

/-- The row's last step: the results read, the arguments read as they did, and below the heap's first end nothing has turned. -/
theorem law_post {H : Type} {enc : TypeId × Value → H} {P : Program} {f : Func} {s : ChangeSpec} {apart fresh handsOn : Bool} {W W' : World} {args : Array Value} {v : Value} {ds gs : List (DataW H)} {before pa pv : List MemPlace}
    (hW : DataW.Whole enc P f.params.toList s.vars apart W args.toList ds gs before)
    (hres : ∀ (b : Nat) (sp : Nat → Bool) (hd : Bool), DataW.TrodAll enc P W' b sp hd f.resultTypes.toList (v.resultList f.resultTypes.size) (s.fn H (ds ++ gs)).results [])
    (hargs : ∀ sp : Nat → Bool, (∀ p ∈ before, sp p.block = true) → DataW.TrodAll enc P W' 0 sp true f.params.toList args.toList (s.fn H (ds ++ gs)).args pa)
    (hvars : ∀ sp : Nat → Bool, (∀ p ∈ before, sp p.block = true) → DataW.TrodVars enc P W' sp s.vars (s.fn H (ds ++ gs)).vars pv)
    (hps : before = pa ++ pv) (hb : Below W.heap.size W W')
    (_hok : ∀ (j : Nat) (t : TypeId) (r : Value), f.resultTypes[j]? = some t → (v.resultList f.resultTypes.size)[j]? = some r → Value.okWide P W' .any 0 t r) :
    s.post enc P f apart fresh handsOn false W args v W' := by
  have hlt : ∀ p ∈ before, p.block < W.heap.size := fun p hp => hW.lt p hp
  have hold : ∀ p ∈ before, (fun b => decide (b < W.heap.size)) p.block = true := fun p hp => by simpa using hlt p hp
  refine ⟨ds, gs, before, [], pa, pv, hW, hres _ _ _, hargs _ hold, hvars _ hold, World.keptBut_mono (fun p hp => ⟨hp, ?_⟩) (hb.frame (· ∈ before)), fun h => by cases h⟩
  rw [hps, List.mem_append] at hp
  exact Or.inr hp

/-- An argument reads as it did, in any later world that is the same below the heap's first end. -/
theorem arg_stays {H : Type} {enc : TypeId × Value → H} {W W' : World} {t : TypeId} {v : Value} {d : DataW H} {ps before : List MemPlace} {sp : Nat → Bool} (ht : t = 22 ∨ t = 24 ∨ t = 32)
    (h : DataW.Trod enc Try.prog W 0 (fun _ => true) true t v d ps) (hb : Below W.heap.size W W') (hsub : ∀ x ∈ ps, x ∈ before) (hlt : ∀ x ∈ before, x.block < W.heap.size) (hsp : ∀ x ∈ before, sp x.block = true) (hlaid : laidOutB Try.prog = true) :
    DataW.Trod enc Try.prog W' 0 sp true t v d ps := by
  rcases ht with rfl | rfl | rfl
  · exact WideElems.Trod_stays hlaid (by kernel_rfl) (of_decide_eq_true (by kernel_rfl)) h (fun x hx => hb.same (hlt x (hsub x hx))) (fun x hx => hsp x (hsub x hx))
  · exact WideElems.Trod_stays hlaid (by kernel_rfl) (of_decide_eq_true (by kernel_rfl)) h (fun x hx => hb.same (hlt x (hsub x hx))) (fun x hx => hsp x (hsub x hx))
  · exact WideElems.Trod_stays hlaid (by kernel_rfl) (of_decide_eq_true (by kernel_rfl)) h (fun x hx => hb.same (hlt x (hsub x hx))) (fun x hx => hsp x (hsub x hx))
end Go.Proofs.Ytoomdgjppfmdlaa
