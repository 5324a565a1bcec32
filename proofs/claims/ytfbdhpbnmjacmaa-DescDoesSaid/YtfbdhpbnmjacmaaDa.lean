/- A table with what it may not touch; acts that came in, opened; the row's last step. -/
import Derived.Test.YtfbdhpbnmjacmaaDh
import Derived.ProofKit
import Derived.ChangeSlices
import Derived.SliceStrings
import Derived.Deep.Slices
import Derived.Deep.Fields
import Derived.Lib.SmallJoins
import Derived.OpenShut
import Derived.ChangeSame
namespace Go.Proofs.Ytfbdhpbnmjacmaa.ds
open Go.ChangeShapes Go.WideShapes Go.ChangeAt Go.RowKit
open Go.Proofs.Ytfbdhpbnmjacmaa.pa (Bs Sv Strs Own own_form info9 own_base)
set_option linter.unusedVariables false
set_option linter.unusedSimpArgs false

abbrev No : Nat → Prop := fun _ => False
def Same (X : Nat → Prop) (w w' : World) : Prop := ∀ b, X b → w'.heap[b]? = w.heap[b]?
/-- A table that the call made behind w0; the blocks X are not its. -/
def TY (w0 w : World) (P : Nat) (X : Nat → Prop) (T : Tb) : Prop := ∃ tg, TbX w0 w P tg T ∧ ∀ b, X b → b < w.heap.size ∧ tg b = 0
section
variable {w0 w w' : World} {P : Nat} {X Y : Nat → Prop} {T : Tb}
theorem TY.bel (h : TY w0 w P X T) : Below w0.heap.size w0 w := by obtain ⟨_, h, _⟩ := h; exact h.bel
theorem TY.weaken (h : TY w0 w P X T) (hY : ∀ b, Y b → X b) : TY w0 w P Y T := by obtain ⟨tg, h, hx⟩ := h; exact ⟨tg, h, fun b hb => hx b (hY b hb)⟩
theorem TY.forget (h : TY w0 w P X T) : TY w0 w P No T := h.weaken fun _ h => h.elim
theorem TY.over (h : TY w0 w P X T) (hb : Below w.heap.size w w') : TY w0 w' P (fun b => X b ∨ (w.heap.size ≤ b ∧ b < w'.heap.size)) T := by
  obtain ⟨tg, h, hx⟩ := h
  refine ⟨tg, h.below hb, fun b hb2 => ?_⟩
  rcases hb2 with h1 | ⟨h1, h2⟩
  · exact ⟨Nat.lt_of_lt_of_le (hx b h1).1 hb.size, (hx b h1).2⟩
  · refine ⟨h2, Classical.byContradiction fun e => ?_⟩
    have := (h.own b e).2
    omega
theorem TY.below (h : TY w0 w P X T) (hb : Below w.heap.size w w') : TY w0 w' P X T := (h.over hb).weaken fun _ h => .inl h
/-- What is protected may be turned by others. -/
theorem TY.turn (h : TY w0 w P X T) {F : Nat → Prop} (ho : Only F w w') (hF : ∀ b, F b → X b ∧ w0.heap.size ≤ b) : TY w0 w' P X T := by
  obtain ⟨tg, h, hx⟩ := h
  exact ⟨tg, h.apart ho fun b hb => ⟨(hF b hb).2, (hx b (hF b hb).1).2⟩, fun b hb => ⟨Nat.lt_of_lt_of_le (hx b hb).1 ho.size, (hx b hb).2⟩⟩
theorem TY.step {tg tg' : Nat → Nat} {K : Tb} (h : TbX w0 w P tg T) (hx : ∀ b, X b → b < w.heap.size ∧ tg b = 0) (h' : TbX w0 w' P tg' K) (hk : Kp tg tg' w w') : TY w0 w' P X K ∧ Same X w w' :=
  ⟨⟨tg', h', fun b hb => ⟨Nat.lt_of_lt_of_le (hx b hb).1 hk.only.size, Classical.byContradiction fun e => hk.tag b (hx b hb).1 e (hx b hb).2⟩⟩, fun b hb => hk.only.block b (hx b hb).1 (by rw [(hx b hb).2]; simp)⟩
end
/-- A descriptor that is handed in. -/
structure DA (w : World) (A : Option Addr) (n c : Nat) (d : De) : Prop where
  len : n = d.ns.length
  cap : n ≤ c ∧ c ≤ maxLen
  st : Strs w w.heap.size A d.ns
theorem DA.below {w w' : World} {A : Option Addr} {n c : Nat} {d : De} (h : DA w A n c d) (hb : Below w.heap.size w w') : DA w' A n c d :=
  ⟨h.len, h.cap, fun hn => by
    obtain ⟨ad, e, h1, h2⟩ := h.st hn
    exact ⟨ad, e, Nat.lt_of_lt_of_le h1 hb.size, fun j x hx => (hb.cell (p := ad.add j) (by rw [pa.addr_block]; exact h1)).trans (h2 j x hx)⟩⟩
theorem da_own {w : World} {lo c : Nat} {A : Option Addr} {d : De} (h : Own w lo A c d.ns) : DA w A d.ns.length c d := ⟨rfl, own_cap h, h.strs⟩
section
variable {w0 w : World} {P n c : Nat} {A : Option Addr} {X : Nat → Prop} {T : Tb} {d : De}
theorem y_new (hb : Below w0.heap.size w0 w) : Calls Try.prog 9 #[] w (fun e w' => e = .returned (Pq w.heap.size) ∧ TY w0 w' w.heap.size (fun b => b < w.heap.size) em ∧ Below w.heap.size w w') :=
  (new_any w).mono fun _ _ ⟨tg, he, h1, h2, h3⟩ => ⟨he, ⟨tg, h1 w0 hb, fun b hb2 => ⟨Nat.lt_of_lt_of_le hb2 h2.size, Classical.byContradiction fun e => by have := h3 b e; omega⟩⟩, h2⟩
theorem y_open (h : TY w0 w P X T) (hd : DA w A n c d) (hm : n ≤ 1000) : Calls Try.prog 11 #[Pq P, DV A n c d] w (fun e w' => e = .returned (.tuple #[.int .i64 (lowV T).1, .int .i64 (lowV T).2]) ∧ TY w0 w' P X (openT T d) ∧ Same X w w') := by
  obtain ⟨tg, h, hx⟩ := h
  exact (open_any h hd.len hm (Nat.le_refl _) hd.st).mono fun _ _ ⟨tg', he, h1, h2⟩ => ⟨he, TY.step h hx h1 h2⟩
theorem y_set (h : TY w0 w P X T) (hd : DA w A n c d) (hm : n ≤ 1000) (fd : Int) : Calls Try.prog 16 #[Pq P, .int .i64 fd, DV A n c d] w (fun e w' => e = .returned (.int .i64 (errV T fd)) ∧ TY w0 w' P X (setT T fd d) ∧ Same X w w') := by
  obtain ⟨tg, h, hx⟩ := h
  exact (set_any h fd hd.len hm (Nat.le_refl _) hd.st).mono fun _ _ ⟨tg', he, h1, h2⟩ => ⟨he, TY.step h hx h1 h2⟩
theorem y_close (h : TY w0 w P X T) (fd : Int) : Calls Try.prog 13 #[Pq P, .int .i64 fd] w (fun e w' => ∃ A c, e = .returned (.tuple #[DV A (getV T fd).1.ns.length c (getV T fd).1, .int .i64 (getV T fd).2]) ∧ Own w' w.heap.size A c (getV T fd).1.ns ∧ TY w0 w' P (fun b => X b ∨ (w.heap.size ≤ b ∧ b < w'.heap.size)) (closeT T fd) ∧ Same X w w') := by
  obtain ⟨tg, h, hx⟩ := h
  exact (close_any h fd).mono fun _ _ ⟨A, c, he, h1, h2, h3⟩ => by
    obtain ⟨⟨tg', a, b⟩, s⟩ := TY.step h hx h2 h3
    refine ⟨A, c, he, h1, ⟨tg, h2, fun q hq => ?_⟩, s⟩
    rcases hq with hq | ⟨q1, q2⟩
    · exact ⟨Nat.lt_of_lt_of_le (hx q hq).1 h3.only.size, (hx q hq).2⟩
    · exact ⟨q2, Classical.byContradiction fun e => by have := (h.own q e).2; omega⟩
theorem y_get (h : TY w0 w P X T) (fd : Int) : Calls Try.prog 18 #[Pq P, .int .i64 fd] w (GetE w (getV T fd)) := by obtain ⟨tg, h, _⟩ := h; exact get_any h fd
theorem y_full (h : TY w0 w P X T) : Calls Try.prog 23 #[Pq P] w (StE w (.bool (full T))) := by obtain ⟨tg, h, _⟩ := h; exact full_any h
theorem y_all (h : TY w0 w P X T) : Calls Try.prog 21 #[Pq P] w (IntsE w (allT T 32)) := by obtain ⟨tg, h, _⟩ := h; exact all_any h
end

/-! ### acts that came in -/
theorem cells9 : Try.prog.cellsOf 9 = 1 := by kernel_rfl
theorem cells30 : Try.prog.cellsOf 30 = 6 := by kernel_rfl
theorem cells35 : Try.prog.cellsOf 35 = 8 := by kernel_rfl
theorem open_ns {H : Type} {enc : TypeId × Value → H} {W : World} {base : Nat} {sp : Nat → Bool} {held : Bool} {fuel : Nat} {v : Value} {x : DataW H × List MemPlace}
    (h : DataW.trod enc Try.prog W base sp held fuel 28 [v] = some x) : ∃ A n c xs, v = .slice A n c ∧ n = List.length xs ∧ (n ≤ c ∧ c ≤ maxLen) ∧ Strs W W.heap.size A xs := by
  rcases open_strings Try.underlying28 Try.underlying9 cells9 h with ⟨e0, _⟩ | ⟨a, len, cap, ss, e0, _, hl, hm, hz, _, hcell, _⟩
  · injection e0 with e0
    subst e0
    exact ⟨none, 0, 0, [], rfl, rfl, ⟨Nat.le_refl _, by unfold maxLen; omega⟩, Strs.nil _ _ _⟩
  · injection e0 with e0
    subst e0
    have hlen : len ≤ ss.length := by rw [hz]; split <;> omega
    refine ⟨some a, len, cap, (ss.take len).map (·.data.toList), rfl, by rw [List.length_map, List.length_take]; omega, ⟨hl, hm⟩, ?_⟩
    intro hn
    have hcc : ∀ (j : Nat) x, ((ss.take len).map (·.data.toList))[j]? = some x → W.cell? (a.add j) = some (Sv x) := by
      intro j x hx
      rw [List.getElem?_map, Option.map_eq_some_iff] at hx
      obtain ⟨s, hs, rfl⟩ := hx
      have hj := (List.getElem?_eq_some_iff.1 hs).1
      rw [List.length_take] at hj
      rw [List.getElem?_take_of_lt (by omega)] at hs
      rw [hcell j (by omega), List.getD_eq_getElem?_getD, hs]
      simp
    have h00 := hcc 0 _ (List.getElem?_eq_getElem hn)
    refine ⟨a, rfl, ?_, hcc⟩
    have := World.block_lt_of_cell? W _ h00
    rw [pa.addr_block] at this
    exact this
theorem list6 {α : Type} {l : List α} (h : l.length = 6) : ∃ a b c d e f, l = [a, b, c, d, e, f] := by
  match l, h with
  | [a, b, c, d, e, f], _ => exact ⟨a, b, c, d, e, f, rfl⟩
theorem list8 {α : Type} {l : List α} (h : l.length = 8) : ∃ a b c d e f g i, l = [a, b, c, d, e, f, g, i] := by
  match l, h with
  | [a, b, c, d, e, f, g, i], _ => exact ⟨a, b, c, d, e, f, g, i, rfl⟩
theorem get_some {α : Type} {l : List α} {n i : Nat} (h : l.length = n) (hi : i < n) : ∃ y, l[i]? = some y := ⟨_, List.getElem?_eq_getElem (by omega)⟩
/-- A descriptor's cells, opened. -/
theorem open_desc {H : Type} {enc : TypeId × Value → H} {W : World} {base : Nat} {sp : Nat → Bool} {held : Bool} {fuel : Nat} {cs : List Value} {x : DataW H × List MemPlace}
    (h : DataW.trod enc Try.prog W base sp held fuel 30 cs = some x) : ∃ A n c d, cs = DL A n c d ∧ DA W A n c d := by
  obtain ⟨ys, m, _, _, hl, hyl, hf⟩ := DataW.trod_struct Try.underlying30 h
  rw [cells30] at hl
  obtain ⟨v0, v1, v2, v3, v4, v5, rfl⟩ := list6 hl
  obtain ⟨y0, g0⟩ := get_some hyl (i := 0) (by decide)
  obtain ⟨y1, g1⟩ := get_some hyl (i := 1) (by decide)
  obtain ⟨y2, g2⟩ := get_some hyl (i := 2) (by decide)
  obtain ⟨y3, g3⟩ := get_some hyl (i := 3) (by decide)
  obtain ⟨y4, g4⟩ := get_some hyl (i := 4) (by decide)
  obtain ⟨y5, g5⟩ := get_some hyl (i := 5) (by decide)
  have t0 : DataW.trod enc Try.prog W base sp held m 3 [v0] = some y0 := by have := hf 0 _ rfl; rw [g0] at this; exact this
  have t1 : DataW.trod enc Try.prog W base sp held m 3 [v1] = some y1 := by have := hf 1 _ rfl; rw [g1] at this; exact this
  have t2 : DataW.trod enc Try.prog W base sp held m 2 [v2] = some y2 := by have := hf 2 _ rfl; rw [g2] at this; exact this
  have t3 : DataW.trod enc Try.prog W base sp held m 4 [v3] = some y3 := by have := hf 3 _ rfl; rw [g3] at this; exact this
  have t4 : DataW.trod enc Try.prog W base sp held m 28 [v4] = some y4 := by have := hf 4 _ rfl; rw [g4] at this; exact this
  have t5 : DataW.trod enc Try.prog W base sp held m 3 [v5] = some y5 := by have := hf 5 _ rfl; rw [g5] at this; exact this
  obtain ⟨z0, e0, _⟩ := DataW.trod_int Try.underlying3 t0
  obtain ⟨z1, e1, _⟩ := DataW.trod_int Try.underlying3 t1
  obtain ⟨z2, e2, _⟩ := DataW.trod_int Try.underlying2 t2
  obtain ⟨z3, e3, _⟩ := DataW.trod_bool Try.underlying4 t3
  obtain ⟨A, n, c, xs, e4, h1, h2, h3⟩ := open_ns t4
  obtain ⟨z5, e5, _⟩ := DataW.trod_int Try.underlying3 t5
  injection e0 with e0
  injection e1 with e1
  injection e2 with e2
  injection e3 with e3
  injection e5 with e5
  subst e0 e1 e2 e3 e4 e5
  exact ⟨A, n, c, ⟨z0, z1, z2, z3, xs, z5⟩, rfl, h1, h2, h3⟩
structure Act7 where
  kind : Int
  fd : Int
  A : Option Addr
  n : Nat
  c : Nat
  d : De
instance : Inhabited Act7 := ⟨⟨0, 0, none, 0, 0, dz⟩⟩
/-- In w the slice of n acts at A reads as F. -/
def Acts (w : World) (B : Nat) (A : Option Addr) (n : Nat) (F : Nat → Act7) : Prop := ∀ i, i < n → ∃ b off, A = some ⟨b, off, none⟩ ∧ b < B ∧
  w.cell? ⟨b, off + i * 8, none⟩ = some (.int .i64 (F i).kind) ∧ w.cell? ⟨b, off + i * 8 + 1, none⟩ = some (.int .i64 (F i).fd) ∧
  w.cell? ⟨b, off + i * 8 + 2, none⟩ = some (.int .i64 (F i).d.ino) ∧ w.cell? ⟨b, off + i * 8 + 3, none⟩ = some (.int .i64 (F i).d.flag) ∧ w.cell? ⟨b, off + i * 8 + 4, none⟩ = some (.int .i64 (F i).d.off) ∧
  w.cell? ⟨b, off + i * 8 + 5, none⟩ = some (.bool (F i).d.isd) ∧ w.cell? ⟨b, off + i * 8 + 6, none⟩ = some (.slice (F i).A (F i).n (F i).c) ∧ w.cell? ⟨b, off + i * 8 + 7, none⟩ = some (.int .i64 (F i).d.pos)
/-- The names that they bear. -/
def Ads (w : World) (n : Nat) (F : Nat → Act7) : Prop := ∀ i, i < n → DA w (F i).A (F i).n (F i).c (F i).d
theorem Acts.below {w w' : World} {B n : Nat} {A : Option Addr} {F : Nat → Act7} (h : Acts w B A n F) (hb : Below B w w') : Acts w' B A n F := fun i hi => by
  obtain ⟨b, off, e, hB, h0, h1, h2, h3, h4, h5, h6, h7⟩ := h i hi
  exact ⟨b, off, e, hB, (hb.cell (p := ⟨b, off + i * 8, none⟩) hB).trans h0, (hb.cell (p := ⟨b, off + i * 8 + 1, none⟩) hB).trans h1, (hb.cell (p := ⟨b, off + i * 8 + 2, none⟩) hB).trans h2, (hb.cell (p := ⟨b, off + i * 8 + 3, none⟩) hB).trans h3, (hb.cell (p := ⟨b, off + i * 8 + 4, none⟩) hB).trans h4, (hb.cell (p := ⟨b, off + i * 8 + 5, none⟩) hB).trans h5, (hb.cell (p := ⟨b, off + i * 8 + 6, none⟩) hB).trans h6, (hb.cell (p := ⟨b, off + i * 8 + 7, none⟩) hB).trans h7⟩
theorem Ads.below {w w' : World} {n : Nat} {F : Nat → Act7} (h : Ads w n F) (hb : Below w.heap.size w w') : Ads w' n F := fun i hi => (h i hi).below hb
theorem spot_none {w : World} {a : Addr} {v : Value} (h : w.cell? (a.add 0) = some v) : ∃ b off, a = ⟨b, off, none⟩ ∧ b < w.heap.size := by
  obtain ⟨b, off, sp⟩ := a
  have hs : sp = none := by simpa [Addr.add] using World.cell?_spot h
  subst hs
  exact ⟨b, off, rfl, World.block_lt_of_cell? w _ h⟩
set_option maxHeartbeats 1000000 in
theorem open_acts {H : Type} {enc : TypeId × Value → H} {W : World} {r : Reach} {b0 : Nat} {sp : Nat → Bool} {held : Bool} {v : Value} {d : DataW H} {p : List MemPlace}
    (hv : Value.okWide Try.prog W r b0 22 v) (h : DataW.Trod enc Try.prog W 0 sp held 22 v d p) :
    ∃ A n c F, v = .slice A n c ∧ (n ≤ c ∧ c ≤ maxLen) ∧ (Acts W W.heap.size A n F ∧ Ads W n F) := by
  obtain ⟨fuel, hf⟩ := h
  have hcells : v.cells.toList = [v] := by
    obtain ⟨A, n, c, rfl⟩ := okWide_slice Try.underlying22 hv
    rfl
  rw [hcells] at hf
  rcases Go.Deep.open_slice Try.underlying22 hf with ⟨e, _⟩ | ⟨a, len, cap, m, nn, D, Pl, e, hb, hl, hm, hmm, hx, hi⟩
  · injection e with e
    subst e
    exact ⟨none, 0, 0, fun _ => default, rfl, ⟨Nat.le_refl _, by unfold maxLen; omega⟩, fun i hi => absurd hi (Nat.not_lt_zero _), fun i hi => absurd hi (Nat.not_lt_zero _)⟩
  · injection e with e
    subst e
    have hlm : len ≤ m := by rw [hmm]; split <;> omega
    have hall : ∀ i, ∃ x : Act7, i < len → (∃ b off, (some a : Option Addr) = some ⟨b, off, none⟩ ∧ b < W.heap.size ∧
        W.cell? ⟨b, off + i * 8, none⟩ = some (.int .i64 x.kind) ∧ W.cell? ⟨b, off + i * 8 + 1, none⟩ = some (.int .i64 x.fd) ∧
        W.cell? ⟨b, off + i * 8 + 2, none⟩ = some (.int .i64 x.d.ino) ∧ W.cell? ⟨b, off + i * 8 + 3, none⟩ = some (.int .i64 x.d.flag) ∧ W.cell? ⟨b, off + i * 8 + 4, none⟩ = some (.int .i64 x.d.off) ∧
        W.cell? ⟨b, off + i * 8 + 5, none⟩ = some (.bool x.d.isd) ∧ W.cell? ⟨b, off + i * 8 + 6, none⟩ = some (.slice x.A x.n x.c) ∧ W.cell? ⟨b, off + i * 8 + 7, none⟩ = some (.int .i64 x.d.pos)) ∧ DA W x.A x.n x.c x.d := by
      intro i
      by_cases hil : i < len
      · obtain ⟨cs0, hc0, _⟩ := hi 0 (by omega)
        obtain ⟨cs', hc, ht⟩ := hi i (by omega)
        rw [cells35] at hc hc0
        obtain ⟨_, hcl0, hat0⟩ := World.cells?_some hc0
        obtain ⟨_, hcl, hat⟩ := World.cells?_some hc
        obtain ⟨b, off, rfl, hbw⟩ : ∃ b off, a = ⟨b, off, none⟩ ∧ b < W.heap.size := by
          have := hat0 0 (by decide)
          rw [show (a.add (0 * 8)).add 0 = a.add 0 from by rw [pa.addr_add]] at this
          exact spot_none (this.trans (List.getElem?_eq_getElem (by omega)))
        obtain ⟨v0, v1, v2, v3, v4, v5, v6, v7, rfl⟩ := list8 hcl
        obtain ⟨ys, m2, _, _, _, hyl, hf2⟩ := DataW.trod_struct Try.underlying35 ht
        obtain ⟨y0, g0⟩ := get_some hyl (i := 0) (by decide)
        obtain ⟨y1, g1⟩ := get_some hyl (i := 1) (by decide)
        obtain ⟨y2, g2⟩ := get_some hyl (i := 2) (by decide)
        have t0 : DataW.trod enc Try.prog W 0 sp held m2 3 [v0] = some y0 := by have := hf2 0 _ rfl; rw [g0] at this; exact this
        have t1 : DataW.trod enc Try.prog W 0 sp held m2 3 [v1] = some y1 := by have := hf2 1 _ rfl; rw [g1] at this; exact this
        have t2 : DataW.trod enc Try.prog W 0 sp held m2 30 [v2, v3, v4, v5, v6, v7] = some y2 := by have := hf2 2 _ rfl; rw [g2] at this; exact this
        obtain ⟨z0, e0, _⟩ := DataW.trod_int Try.underlying3 t0
        obtain ⟨z1, e1, _⟩ := DataW.trod_int Try.underlying3 t1
        injection e0 with e0
        injection e1 with e1
        subst e0 e1
        obtain ⟨A', n', c', d', ed, hda⟩ := open_desc t2
        unfold DL at ed
        injection ed with e2 ed
        injection ed with e3 ed
        injection ed with e4 ed
        injection ed with e5 ed
        injection ed with e6 ed
        injection ed with e7 ed
        subst e2 e3 e4 e5 e6 e7
        have hcc : ∀ j v, [Value.int .i64 z0, Value.int .i64 z1, Value.int .i64 d'.ino, Value.int .i64 d'.flag, Value.int .i64 d'.off, Value.bool d'.isd, Value.slice A' n' c', Value.int .i64 d'.pos][j]? = some v → W.cell? ⟨b, off + i * 8 + j, none⟩ = some v := fun j v hv => by
          have hj := (List.getElem?_eq_some_iff.1 hv).1
          have := hat j hj
          rw [pa.addr_add, Go.WideShapes.add_plain] at this
          rw [Nat.add_assoc, this]; exact hv
        exact ⟨⟨z0, z1, A', n', c', d'⟩, fun _ => ⟨⟨b, off, rfl, hbw, by simpa using hcc 0 _ rfl, hcc 1 _ rfl, hcc 2 _ rfl, hcc 3 _ rfl, hcc 4 _ rfl, hcc 5 _ rfl, hcc 6 _ rfl, hcc 7 _ rfl⟩, hda⟩⟩
      · exact ⟨default, fun h => absurd h hil⟩
    obtain ⟨F, hF⟩ := Classical.axiomOfChoice hall
    exact ⟨some a, len, cap, F, rfl, ⟨hl, hm⟩, fun i hi => (hF i hi).1, fun i hi => (hF i hi).2⟩
/-- A descriptor that came in by value, opened. -/
theorem open_dv {H : Type} {enc : TypeId × Value → H} {W : World} {r : Reach} {b0 : Nat} {sp : Nat → Bool} {held : Bool} {v : Value} {d : DataW H} {p : List MemPlace}
    (hv : Value.okWide Try.prog W r b0 30 v) (h : DataW.Trod enc Try.prog W 0 sp held 30 v d p) : ∃ A n c d, v = DV A n c d ∧ DA W A n c d := by
  obtain ⟨cs, rfl, hsz⟩ := okWide_struct Try.underlying30 hv
  obtain ⟨fuel, hf⟩ := h
  obtain ⟨A, n, c, d, e, hd⟩ := open_desc hf
  refine ⟨A, n, c, d, ?_, hd⟩
  have : cs.toList = DL A n c d := e
  unfold DV
  rw [show cs = cs.toList.toArray from by simp, this]
  rfl

/-- The row's last step: the results read, the arguments read as they did, and below the heap's first end nothing has turned. -/
theorem law_post {H : Type} {enc : TypeId × Value → H} {P : Program} {f : Func} {s : ChangeSpec} {apart fresh handsOn : Bool} {W W' : World} {args : Array Value} {v : Value} {ds gs : List (DataW H)} {before pa pv : List MemPlace}
    (hW : DataW.Whole enc P f.params.toList s.vars apart W args.toList ds gs before)
    (hres : ∀ (b : Nat) (sp : Nat → Bool) (hd : Bool), DataW.TrodAll enc P W' b sp hd f.resultTypes.toList (v.resultList f.resultTypes.size) (s.fn H (ds ++ gs)).results [])
    (hargs : ∀ sp : Nat → Bool, (∀ p ∈ before, sp p.block = true) → DataW.TrodAll enc P W' 0 sp true f.params.toList args.toList (s.fn H (ds ++ gs)).args pa)
    (hvars : ∀ sp : Nat → Bool, (∀ p ∈ before, sp p.block = true) → DataW.TrodVars enc P W' sp s.vars (s.fn H (ds ++ gs)).vars pv)
    (hps : before = pa ++ pv) (hb : Below W.heap.size W W')
    (_hok : ∀ (j : Nat) (t : TypeId) (r : Value), f.resultTypes[j]? = some t → (v.resultList f.resultTypes.size)[j]? = some r → Value.okWide P W' .any 0 t r) :
    s.post enc P f apart fresh handsOn false W args v W' := by
  have hlt : ∀ p ∈ before, p.block < W.heap.size := fun p hp => hW.lt p hp
  have hold : ∀ p ∈ before, (fun b => decide (b < W.heap.size)) p.block = true := fun p hp => by simpa using hlt p hp
  refine ⟨ds, gs, before, [], pa, pv, hW, hres _ _ _, hargs _ hold, hvars _ hold, World.keptBut_mono (fun p hp => ⟨hp, ?_⟩) (hb.frame (· ∈ before)), fun h => by cases h⟩
  rw [hps, List.mem_append] at hp
  exact Or.inr hp
/-- An argument reads as it did, in any later world that is the same below the heap's first end. -/
theorem arg_stays {H : Type} {enc : TypeId × Value → H} {W W' : World} {t : TypeId} {v : Value} {d : DataW H} {ps before : List MemPlace} {sp : Nat → Bool} (ht : t = 22 ∨ t = 30)
    (h : DataW.Trod enc Try.prog W 0 (fun _ => true) true t v d ps) (hb : Below W.heap.size W W') (hsub : ∀ x ∈ ps, x ∈ before) (hlt : ∀ x ∈ before, x.block < W.heap.size) (hsp : ∀ x ∈ before, sp x.block = true) (hlaid : laidOutB Try.prog = true) :
    DataW.Trod enc Try.prog W' 0 sp true t v d ps := by
  rcases ht with rfl | rfl
  all_goals exact WideElems.Trod_stays hlaid (by kernel_rfl) (of_decide_eq_true (by kernel_rfl)) h (fun x hx => hb.same (hlt x (hsub x hx))) (fun x hx => hsp x (hsub x hx))
end Go.Proofs.Ytfbdhpbnmjacmaa.ds
