/- A map of descriptors: what its elements are, and a range over it. -/
import Derived.Test.YtfbdhpbnmjacmaaDq
import Derived.Test.YtfbdhpbnmjacmaaDr
namespace Go.Proofs.Ytfbdhpbnmjacmaa.ds
open Go.RowKit
open Go.Proofs.Ytfbdhpbnmjacmaa.pa (Bs Sv Strs Own)
open Go.Maps (Keyed IsMap int_keyed keyOf_int_mk)
set_option linter.unusedVariables false
/-- A descriptor whose names lie behind block M. -/
structure DI (w : World) (M R : Nat) (A : Option Addr) (c : Nat) (d : De) : Prop where
  da : DA w A d.ns.length c d
  le : d.ns.length ≤ 1000
  hi : ∀ ad, A = some ad → 0 < d.ns.length → M < ad.block ∧ ad.block ≠ R
theorem DI.keep {w w' : World} {M R c : Nat} {A : Option Addr} {d : De} (h : DI w M R A c d) (hk : ∀ b, M < b → b ≠ R → b < w.heap.size → w'.heap[b]? = w.heap[b]?) : DI w' M R A c d :=
  ⟨⟨h.da.len, h.da.cap, fun hn => by
    obtain ⟨ad, e, h1, h2⟩ := h.da.st hn
    have hb := hk ad.block (h.hi ad e hn).1 (h.hi ad e hn).2 h1
    refine ⟨ad, e, ?_, fun j x hx => (World.cell?_of_block (a := ad.add j) (by rw [pa.addr_block]; exact hb)).trans (h2 j x hx)⟩
    rcases Nat.lt_or_ge ad.block w'.heap.size with h3 | h3
    · exact h3
    · rw [Array.getElem?_eq_none h3, Array.getElem?_eq_getElem h1] at hb; cases hb⟩, h.le, h.hi⟩
theorem DI.below {w w' : World} {M R c : Nat} {A : Option Addr} {d : De} (h : DI w M R A c d) (hb : Below w.heap.size w w') : DI w' M R A c d := h.keep (fun b _ _ h1 => hb.block b h1)
theorem DI.of_own {w : World} {lo M R c : Nat} {A : Option Addr} {d : De} (h : Own w lo A c d.ns) (hM : M < lo) (hR : R < lo) (hl : d.ns.length ≤ 1000) : DI w M R A c d :=
  ⟨da_own h, hl, fun ad e hn => by
    rcases h.2 with ⟨h1, h2⟩ | ⟨g, cap, cur, hv, hb, _⟩
    · omega
    · injection hv with hA; rw [hA] at e; injection e with e; rw [← e]; show M < g ∧ g ≠ R; omega⟩
theorem DI.at_ {w : World} {M R c : Nat} {A : Option Addr} {d : De} (h : DI w M R A c d) : DI w M w.heap.size A c d :=
  ⟨h.da, h.le, fun ad e hn => ⟨(h.hi ad e hn).1, by
    obtain ⟨ad', e', h1, _⟩ := h.da.st hn
    rw [e] at e'; injection e' with e'; rw [e']; omega⟩⟩
theorem TY.le1000 {w0 w : World} {P k : Nat} {X : Nat → Prop} {T : Tb} {d : De} (h : TY w0 w P X T) (hk : k < 32) (hd : T k = some d) : d.ns.length ≤ 1000 := by
  obtain ⟨tg, h1, _⟩ := h
  have := h1.slot k hk
  rw [hd] at this
  obtain ⟨b, _, _, h2, _⟩ := this
  exact h2
structure GoodM (w : World) (M R : Nat) (T : Tb) (f : Int → Option Value) (L : List Nat) : Prop where
  all : ∀ a v, f a = some v → ∃ (k : Nat) (A : Option Addr) (c : Nat) (d : De), k ∈ L ∧ a = (k : Int) ∧ T k = some d ∧ v = DV A d.ns.length c d ∧ DI w M R A c d
  has : ∀ k : Nat, k ∈ L → (f (k : Int)).isSome = true
theorem GoodM.none (w : World) (M R : Nat) (T : Tb) : GoodM w M R T (fun _ => .none) [] := ⟨fun a v h => (nomatch h), fun k h => (nomatch h)⟩
theorem GoodM.keep {w w' : World} {M R : Nat} {T : Tb} {f : Int → Option Value} {L : List Nat} (h : GoodM w M R T f L) (hk : ∀ b, M < b → b ≠ R → b < w.heap.size → w'.heap[b]? = w.heap[b]?) : GoodM w' M R T f L :=
  ⟨fun a v e => by obtain ⟨k, A, c, d, h1, h2, h3, h4, h5⟩ := h.all a v e; exact ⟨k, A, c, d, h1, h2, h3, h4, h5.keep hk⟩, h.has⟩
theorem GoodM.below {w w' : World} {M R : Nat} {T : Tb} {f : Int → Option Value} {L : List Nat} (h : GoodM w M R T f L) (hb : Below w.heap.size w w') : GoodM w' M R T f L := h.keep (fun b _ _ h1 => hb.block b h1)
theorem GoodM.put {w : World} {M R k c : Nat} {T : Tb} {f : Int → Option Value} {L : List Nat} {A : Option Addr} {d : De} (h : GoodM w M R T f L) (hT : T k = some d) (hd : DI w M R A c d) : GoodM w M R T (ups f k (DV A d.ns.length c d)) (L ++ [k]) := by
  refine ⟨fun a v e => ?_, fun j hj => ?_⟩
  · unfold ups at e
    by_cases h1 : a = (k : Int)
    · rw [if_pos h1] at e
      injection e with e
      exact ⟨k, A, c, d, by simp, h1, hT, e.symm, hd⟩
    · rw [if_neg h1] at e
      obtain ⟨k', A', c', d', g1, g2, g3, g4, g5⟩ := h.all a v e
      exact ⟨k', A', c', d', by simp [g1], g2, g3, g4, g5⟩
  · unfold ups
    by_cases h1 : (j : Int) = (k : Int)
    · rw [if_pos h1]; rfl
    · rw [if_neg h1]
      rcases List.mem_append.1 hj with h2 | h2
      · exact h.has j h2
      · simp at h2; exact absurd (by rw [h2]) h1
theorem GoodM.out {w : World} {M R k : Nat} {T : Tb} {f : Int → Option Value} {L : List Nat} (h : GoodM w M R T f L) (hk : k ∉ L) : f (k : Int) = .none := by
  cases e : f (k : Int) with
  | none => rfl
  | some v =>
    obtain ⟨j, _, _, _, h1, h2, _⟩ := h.all _ _ e
    exact absurd (by have : k = j := by omega
                     rw [this]; exact h1) hk
theorem GoodM.at_ {w : World} {M R : Nat} {T : Tb} {f : Int → Option Value} {L : List Nat} (h : GoodM w M R T f L) : GoodM w M w.heap.size T f L :=
  ⟨fun a v e => by obtain ⟨k, A, c, d, h1, h2, h3, h4, h5⟩ := h.all a v e; exact ⟨k, A, c, d, h1, h2, h3, h4, h5.at_⟩, h.has⟩
/-- Protected blocks may be turned; what is new is protected, too. -/
theorem TY.turn_over {w0 w w' : World} {P : Nat} {X F : Nat → Prop} {T : Tb} (h : TY w0 w P X T) (ho : Only F w w') (hF : ∀ b, F b → X b ∧ w0.heap.size ≤ b) : TY w0 w' P (fun b => X b ∨ (w.heap.size ≤ b ∧ b < w'.heap.size)) T := by
  obtain ⟨tg, h1, hx⟩ := h
  refine ⟨tg, h1.apart ho (fun b hb => ⟨(hF b hb).2, (hx b (hF b hb).1).2⟩), fun b hb2 => ?_⟩
  rcases hb2 with h3 | ⟨h3, h4⟩
  · exact ⟨Nat.lt_of_lt_of_le (hx b h3).1 ho.size, (hx b h3).2⟩
  · refine ⟨h4, Classical.byContradiction fun e => ?_⟩
    have := (h1.own b e).2
    omega
def MapR (w : World) (M r S : Nat) (f : Int → Option Value) (cnt : Nat) : Prop :=
  ∃ (D : DataW Value) (left : Lit → Bool), w.ranges Try.prog 3 RV M r S D left cnt ∧ (∀ a, left (.int .i64 a) = true → (f a).isSome = true) ∧ (∀ a v zd, f a = some v → D.atKey (.int .i64 a) zd = .held v)
theorem MapR.kept {w w' : World} {M r S cnt : Nat} {f : Int → Option Value} (h : MapR w M r S f cnt) (hb : Below w.heap.size w w') : MapR w' M r S f cnt := by
  obtain ⟨D, left, h1, h2, h3⟩ := h
  exact ⟨D, left, h1.kept (row := none) ⟨hb.os, hb.tape, hb.output, hb.size, fun k hk _ => hb.block k hk⟩ (by simp) (by simp), h2, h3⟩
theorem MapR.lt {w : World} {M r S cnt : Nat} {f : Int → Option Value} (h : MapR w M r S f cnt) : r < w.heap.size := by obtain ⟨D, left, h1, _⟩ := h; exact h1.lt
/-- Numbers in a row behind block M. -/
def IntsAt (w : World) (M : Nat) (A : Option Addr) (L : List Nat) : Prop := ∀ i k : Nat, L[i]? = some k → ∃ g, A = some ⟨g, 0, none⟩ ∧ M < g ∧ g < w.heap.size ∧ w.cell? ⟨g, i, none⟩ = some (.int .i64 (k : Int))
theorem IntsAt.keep {w w' : World} {M : Nat} {A : Option Addr} {L : List Nat} (h : IntsAt w M A L) (hs : w.heap.size ≤ w'.heap.size) (hk : ∀ b, M < b → b < w.heap.size → w'.heap[b]? = w.heap[b]?) : IntsAt w' M A L := fun i k e => by
  obtain ⟨g, h1, h2, h3, h4⟩ := h i k e
  exact ⟨g, h1, h2, by omega, (World.cell?_of_block (a := ⟨g, i, none⟩) (hk g h2 h3)).trans h4⟩
theorem own_ints {w : World} {lo n c : Nat} {A : Option Addr} {L : List Nat} (h : w.ownsRow lo 3 1 (.slice A n c) n (L.map Iv)) : ∀ i k : Nat, L[i]? = some k → ∃ g, A = some ⟨g, 0, none⟩ ∧ lo ≤ g ∧ g < w.heap.size ∧ w.cell? ⟨g, i, none⟩ = some (.int .i64 (k : Int)) := by
  intro i k hk
  rcases h.2 with ⟨h1, h2⟩ | ⟨g, cap, cur, h1, h3, h4, _⟩
  · have := h.1
    have hl := (List.getElem?_eq_some_iff.1 hk).1
    simp at this
    omega
  · injection h1 with h1
    subst h1
    refine ⟨g, rfl, h3, ?_, ?_⟩
    · rcases Nat.lt_or_ge g w.heap.size with h5 | h5
      · exact h5
      · rw [Array.getElem?_eq_none h5] at h4; cases h4
    · have := World.ownsRow.cells h (g := g) rfl i (.int .i64 (k : Int)) (by rw [List.getElem?_map, hk]; rfl)
      rw [Addr.add_mid, Nat.zero_add] at this
      exact this
theorem all_nodup (T : Tb) (n : Nat) : (allT T n).Pairwise (· ≠ ·) := List.Pairwise.filter _ (List.pairwise_lt_range.imp fun h => Nat.ne_of_lt h)
theorem not_ahead {L : List Nat} (h : L.Pairwise (· ≠ ·)) {i k : Nat} (hk : L[i]? = some k) : k ∉ L.take i := by
  intro hj
  obtain ⟨m, hm, hmk⟩ := List.mem_iff_getElem.1 hj
  rw [List.length_take] at hm
  rw [List.getElem_take] at hmk
  obtain ⟨hi, hik⟩ := List.getElem?_eq_some_iff.1 hk
  have := (List.pairwise_iff_getElem.1 h) m i (by omega) hi (by omega)
  exact this (by rw [hmk, hik])
theorem take_one {L : List Nat} {i k : Nat} (hk : L[i]? = some k) : L.take (i + 1) = L.take i ++ [k] := by
  obtain ⟨hi, hik⟩ := List.getElem?_eq_some_iff.1 hk
  rw [List.take_succ_eq_append_getElem hi, hik]
theorem row_lt {w : World} {B : Nat} {o : Obj} (h : w.heap[B]? = some o) : B < w.heap.size := by
  rcases Nat.lt_or_ge B w.heap.size with h1 | h1
  · exact h1
  · rw [Array.getElem?_eq_none h1] at h; cases h
theorem get_put {T : Tb} {k : Nat} {d : De} (h : T k = some d) (hk : k < 32) (d' : De) : setT T (k : Int) d' = put T k (some d') := by unfold setT; rw [spot_nat hk, h]; rfl
theorem getV_in {T : Tb} {k : Nat} {d : De} (h : T k = some d) (hk : k < 32) : getV T (k : Int) = (d, 0) := by unfold getV; rw [spot_nat hk, h]
theorem sets_end (T : Tb) (fd : Int) (d : De) : (errV T fd = 9 ∧ getV (setT T fd d) fd = (dz, 9) ∧ getV (closeT (setT T fd d) fd) fd = (dz, 9)) ∨ (errV T fd = 0 ∧ getV (setT T fd d) fd = (d, 0) ∧ getV (closeT (setT T fd d) fd) fd = (dz, 9)) := by
  cases hs : spot T fd with
  | none =>
    have e1 : setT T fd d = T := by unfold setT; rw [hs]
    have e2 : closeT T fd = T := by unfold closeT; rw [hs]
    have e3 : getV T fd = (dz, 9) := by unfold getV; rw [hs]
    left
    rw [e1, e2, e3]
    exact ⟨by unfold errV; rw [hs], rfl, rfl⟩
  | some x =>
    obtain ⟨k, rfl, hk, hT⟩ := spot_some hs
    right
    have e1 : setT T (k : Int) d = put T k (some d) := get_put hT hk d
    have e2 : spot (put T k (some d)) (k : Int) = some d := by rw [spot_nat hk, put_same]
    have e3 : closeT (put T k (some d)) (k : Int) = put (put T k (some d)) k none := by unfold closeT; rw [e2]; rfl
    rw [e1, e3]
    refine ⟨by unfold errV; rw [hs], by unfold getV; rw [e2], ?_⟩
    unfold getV
    rw [spot_nat hk, put_same]
theorem sets_other {T : Tb} {k : Nat} {dk : De} (hT : T k = some dk) (hk : k < 32) (fd : Int) (d : De) : getV (setT T fd d) (k : Int) = if (k : Int) = fd then (d, 0) else (dk, 0) := by
  cases hs : spot T fd with
  | none =>
    have e1 : setT T fd d = T := by unfold setT; rw [hs]
    have hne : ¬ (k : Int) = fd := by rintro rfl; rw [spot_nat hk, hT] at hs; cases hs
    rw [e1, if_neg hne]; exact getV_in hT hk
  | some x =>
    obtain ⟨j, rfl, hj, hTj⟩ := spot_some hs
    rw [get_put hTj hj]
    by_cases e : (k : Int) = (j : Int)
    · have : k = j := by omega
      subst this
      rw [if_pos rfl]; exact getV_in (put_same _ _ _) hk
    · rw [if_neg e]; exact getV_in (by rw [put_other _ _ (by omega)]; exact hT) hk
theorem look_form {w : World} {M R : Nat} {T : Tb} {f : Int → Option Value} {L : List Nat} (h : GoodM w M R T f L) (hm : ∀ q, q ∈ L ↔ q < 32 ∧ T q ≠ none) (fd : Int) :
    (∃ A n c d, (f fd).getD (DV none 0 0 dz) = DV A n c d) ∧ (f fd).isSome = (errV T fd == 0) := by
  cases hf : f fd with
  | none =>
    refine ⟨⟨none, 0, 0, dz, rfl⟩, ?_⟩
    cases hs : spot T fd with
    | none => unfold errV; rw [hs]; rfl
    | some x =>
      obtain ⟨k, rfl, hk, hT⟩ := spot_some hs
      have := h.has k ((hm k).2 ⟨hk, by rw [hT]; simp⟩)
      rw [hf] at this; cases this
  | some v =>
    obtain ⟨k, A, c, d, h1, rfl, hT, rfl, _⟩ := h.all _ _ hf
    refine ⟨⟨A, _, c, d, rfl⟩, ?_⟩
    unfold errV
    rw [spot_nat ((hm k).1 h1).1, hT]; rfl
theorem da_zero (w : World) : DA w none 0 0 dz := ⟨rfl, ⟨Nat.le_refl _, by unfold maxLen; omega⟩, pa.Strs.nil _ _ _⟩
section
variable {ops : Array Oper} {rest : List Oper} {o : Oper} {a : Act} {Q : Exit → Act → World → Prop}
theorem list_rangeR (w : World) (hg : o.guard = none) (m : Operand) (t e : TypeId) (hop : o.op = Op.range t m) (ht : Try.prog.underlying t = some (.map 3 e)) (M S : Nat) (f : Int → Option Value) (hm : a.eval m = .map (some M)) (r : Nat) (hr : w.heap.size = r) (h : MapV w M S f)
    (hK : ∀ w' cnt, MapR w' M r S f cnt → Below w.heap.size w w' → w'.heap.size = r + 1 → wpList Try.prog ops Q rest (a.put o.dst (.pointer (some ⟨r, 0, none⟩))) w') : wpList Try.prog ops Q (o :: rest) a w := by
  subst hr
  obtain ⟨D, h1, h2, h3, h4, h5⟩ := h
  refine wpList_range_own w hg m t hop 3 e (int_keyed k3) ht RV M S D hm h1 fun w' hr hg hs => hK w' _ ⟨D, _, hr, fun b hb => ?_, h4⟩ ⟨hg.os, hg.tape, hg.output, hg.size, fun k hk => hg.block k hk (by simp)⟩ hs
  rw [← h3]; exact hb
theorem list_nextR (w : World) (hg : o.guard = none) (it : Operand) (hop : o.op = Op.next it false) (M r S cnt : Nat) (f : Int → Option Value) (hit : a.eval it = .pointer (some ⟨r, 0, none⟩)) (h : MapR w M r S f cnt)
    (hDone : wpList Try.prog ops Q rest (a.put o.dst (.tuple #[.bool false])) w)
    (hMore : ∀ (x : Int) (v : Value) (w' : World) (cnt' : Nat), f x = some v → MapR w' M r S f cnt' → cnt' < cnt → w.grownBy w' (some r) → w'.heap.size = w.heap.size → (Instr.entry (.pointer (some ⟨r, 0, none⟩))).run Try.prog w' = .ok (.tuple #[.int .i64 x, v]) w' →
      wpList Try.prog ops Q rest (a.put o.dst (.tuple #[.bool true, .int .i64 x, v])) w') : wpList Try.prog ops Q (o :: rest) a w := by
  obtain ⟨D, left, h1, h2, h3⟩ := h
  refine wpList_next_ranges w hg it hop 3 (int_keyed k3) RV (Value.int .i64) (fun v : Value => v) (fun key kl hkey => by obtain ⟨x, rfl, _⟩ := Maps.keyOf_int_inv k3 hkey; exact ⟨x, rfl⟩) (fun v y _ => ⟨v, rfl⟩)
    M r S D left cnt hit h1 (fun _ _ => hDone) (fun x c kl y w' cnt' hkey hlk hv hat hrg hlt hgr hsz hen => ?_)
  obtain ⟨x', ex, rfl, _⟩ := Maps.keyOf_int_inv k3 hkey
  cases ex
  have hs := h2 x hlk
  cases hf : f x with
  | none => rw [hf] at hs; cases hs
  | some v =>
    have e1 := h3 x v (.held v) hf
    rw [hat] at e1
    unfold RV at hv
    injection hv with hv
    rw [← hv] at e1
    injection e1 with e1
    subst e1
    exact hMore x c w' cnt' hf ⟨D, _, hrg, fun b hb => h2 b (by simp only [Bool.and_eq_true] at hb; exact hb.1), h3⟩ hlt hgr hsz hen
end
end Go.Proofs.Ytfbdhpbnmjacmaa.ds
