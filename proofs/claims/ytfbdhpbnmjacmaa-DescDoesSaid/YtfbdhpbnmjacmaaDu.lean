/- The document's table, turned: a flag, a descriptor. -/
import Derived.Test.YtfbdhpbnmjacmaaDf
namespace Go.Proofs.Ytfbdhpbnmjacmaa.ds
open Go.RowKit
open Go.Proofs.Ytfbdhpbnmjacmaa.pa (Bs Sv Strs Own own_form info9 own_base)
set_option linter.unusedVariables false
set_option linter.unusedSimpArgs false

theorem only_setCells (B : Nat) : ∀ (vs : List Value) (o : Nat) (w : World), Only (fun k => k = B) w (w.setCells B o vs)
  | [], _, w => Only.refl _ _
  | v :: vs, o, w => (only_cell w ⟨B, o, none⟩ v).trans (only_setCells B vs (o + 1) (w.setCell ⟨B, o, none⟩ v))
section
variable {w0 w : World} {D : Nat} {N : Nat → Prop} {T : Tb}
theorem NmN.only {w' : World} {A : Option Addr} {xs : List Bs} (h : NmN w N A xs) (ho : Only (fun b => b = D) w w') (hN : ∀ b, N b → b ≠ D ∧ b < w.heap.size) : NmN w' N A xs :=
  h.keep (fun b hb => ho.block b (hN b hb).2 (hN b hb).1) fun _ h => h
theorem there_D (h : RT w0 w D N T) {k : Nat} (hk : k < 32) : w.there D (32 + k * 6) 6 := fun j hj => by
  obtain ⟨d, ⟨A, c, h1, _⟩, _⟩ := h.ds k hk
  exact ⟨by
    have : j < (DL A d.ns.length c d).length := by unfold DL; simpa using hj
    rw [h1 j _ (List.getElem?_eq_getElem this)]; rfl, h.fz _⟩
/-- A flag is set: what lay there lies there. -/
theorem RT.on (h : RT w0 w D N T) {k : Nat} (hk : k < 32) : ∃ d, RT w0 (w.setCell ⟨D, k, none⟩ (.bool true)) D N (put T k (some d)) := by
  obtain ⟨d, hd, _⟩ := h.ds k hk
  have ho := only_cell w ⟨D, k, none⟩ (.bool true)
  have hrd : ∀ j e, j < 32 → RD w D N j e → RD (w.setCell ⟨D, k, none⟩ (.bool true)) D N j e := fun j e hj ⟨A, c, h1, h2, h3, h4, h5⟩ =>
    ⟨A, c, fun i v hv => (set_oth w D k _ _ (by omega)).trans (h1 i v hv), h2, h3, h4, h5.only ho fun b hb => ⟨(h.nD b hb).1, (h.nD b hb).2.2⟩⟩
  refine ⟨d, ⟨h.lo.1, by rw [World.size_setCell]; exact h.lo.2⟩, fun b hb => by rw [World.size_setCell]; exact h.nD b hb, fun j => by rw [World.frozen?_setCell]; exact h.fz j, fun j hj => ?_, fun j hj => ?_⟩
  · by_cases e : j = k
    · subst e; rw [put_same]; exact World.cell?_setCell_same _ _ _ (h.is_ j hj)
    · rw [put_other T _ e, set_oth w D k j _ e]; exact h.is_ j hj
  · by_cases e : j = k
    · subst e; exact ⟨d, hrd j d hj hd, fun x hx => by rw [put_same] at hx; injection hx with hx; exact hx.symm⟩
    · obtain ⟨d2, h1, h2⟩ := h.ds j hj
      exact ⟨d2, hrd j d2 hj h1, fun x hx => by rw [put_other T _ e] at hx; exact h2 x hx⟩
/-- A flag is taken off. -/
theorem RT.off (h : RT w0 w D N T) {k : Nat} (hk : k < 32) : RT w0 (w.setCell ⟨D, k, none⟩ (.bool false)) D N (put T k none) := by
  have ho := only_cell w ⟨D, k, none⟩ (.bool false)
  have hrd : ∀ j e, j < 32 → RD w D N j e → RD (w.setCell ⟨D, k, none⟩ (.bool false)) D N j e := fun j e hj ⟨A, c, h1, h2, h3, h4, h5⟩ =>
    ⟨A, c, fun i v hv => (set_oth w D k _ _ (by omega)).trans (h1 i v hv), h2, h3, h4, h5.only ho fun b hb => ⟨(h.nD b hb).1, (h.nD b hb).2.2⟩⟩
  refine ⟨⟨h.lo.1, by rw [World.size_setCell]; exact h.lo.2⟩, fun b hb => by rw [World.size_setCell]; exact h.nD b hb, fun j => by rw [World.frozen?_setCell]; exact h.fz j, fun j hj => ?_, fun j hj => ?_⟩
  · by_cases e : j = k
    · subst e; rw [put_same]; exact World.cell?_setCell_same _ _ _ (h.is_ j hj)
    · rw [put_other T _ e, set_oth w D k j _ e]; exact h.is_ j hj
  · obtain ⟨d2, h1, h2⟩ := h.ds j hj
    refine ⟨d2, hrd j d2 hj h1, fun x hx => ?_⟩
    by_cases e : j = k
    · subst e; rw [put_same] at hx; cases hx
    · rw [put_other T _ e] at hx; exact h2 x hx
/-- A descriptor is laid. -/
theorem RT.lay (h : RT w0 w D N T) {k lo c : Nat} {A : Option Addr} {d : De} (hk : k < 32) (hT : (T k).isSome = true) (ho : Own w lo A c d.ns) (hlo : D < lo) (hl : d.ns.length ≤ 1000) (hw0 : w0.heap.size ≤ lo) :
    RT w0 (w.setCells D (32 + k * 6) (DL A d.ns.length c d)) D (fun b => N b ∨ (lo ≤ b ∧ b < w.heap.size)) (put T k (some d)) := by
  have hO := only_setCells D (DL A d.ns.length c d) (32 + k * 6) w
  have hsz : w.heap.size ≤ (w.setCells D (32 + k * 6) (DL A d.ns.length c d)).heap.size := hO.size
  have hL : (DL A d.ns.length c d).length = 6 := rfl
  have hNn : ∀ b, N b ∨ (lo ≤ b ∧ b < w.heap.size) → b ≠ D ∧ w0.heap.size ≤ b ∧ b < w.heap.size := fun b hb => by
    rcases hb with hb | ⟨h1, h2⟩
    · exact h.nD b hb
    · exact ⟨by omega, by omega, h2⟩
  refine ⟨⟨h.lo.1, Nat.lt_of_lt_of_le h.lo.2 hsz⟩, fun b hb => ⟨(hNn b hb).1, (hNn b hb).2.1, Nat.lt_of_lt_of_le (hNn b hb).2.2 hsz⟩, fun j => by rw [World.frozen?_setCells]; exact h.fz j, fun j hj => ?_, fun j hj => ?_⟩
  · rw [World.cell?_setCells_out D _ _ w ⟨D, j, none⟩ (fun _ _ => .inl (by show j < 32 + k * 6; omega))]
    by_cases e : j = k
    · subst e; rw [put_same, h.is_ j hj, hT]; rfl
    · rw [put_other T _ e]; exact h.is_ j hj
  · by_cases e : j = k
    · subst e
      refine ⟨d, ⟨A, c, World.rangeAt_setCells_same w D _ _ (by rw [hL]; exact there_D h hj), hl, (own_cap ho).1, (own_cap ho).2, ?_⟩, fun x hx => by rw [put_same] at hx; injection hx with hx; exact hx.symm⟩
      intro hn
      obtain ⟨ad, e1, h1, h2⟩ := ho.strs hn
      have hlb : lo ≤ ad.block := by
        rcases ho.2 with ⟨e2, h0⟩ | ⟨g, cap, cur, hv, hb, hg, _⟩
        · omega
        · injection hv with hA
          rw [e1] at hA
          injection hA with hA
          subst hA
          exact hb
      exact ⟨ad, e1, .inr ⟨hlb, h1⟩, fun i x hx => (World.cell?_of_block (by rw [pa.addr_block]; exact hO.block _ h1 (by show ad.block ≠ D; omega))).trans (h2 i x hx)⟩
    · obtain ⟨d2, ⟨A2, c2, h1, h2, h3, h4, h5⟩, h6⟩ := h.ds j hj
      refine ⟨d2, ⟨A2, c2, fun i v hv => ?_, h2, h3, h4, (h5.keep (fun b hb => hO.block b (h.nD b hb).2.2 (h.nD b hb).1) fun b hb => .inl hb)⟩, fun x hx => by rw [put_other T _ e] at hx; exact h6 x hx⟩
      have hi : i < 6 := by have := (List.getElem?_eq_some_iff.1 hv).1; simpa [DL] using this
      rw [World.cell?_setCells_out D _ _ w ⟨D, 32 + j * 6 + i, none⟩ (fun _ _ => by show 32 + j * 6 + i < 32 + k * 6 ∨ 32 + k * 6 + (DL A d.ns.length c d).length ≤ 32 + j * 6 + i; rw [hL]; omega)]
      exact h1 i v hv
theorem put_put (T : Tb) (k : Nat) (a b : Option De) : put (put T k a) k b = put T k b := by
  funext j
  unfold put
  split <;> rfl
end
/-- What a call hands back that has turned the document's table. -/
def RE (w0 w : World) (D : Nat) (N : Nat → Prop) (T : Tb) (v : Value) (e : Ending) (w' : World) : Prop := e = .returned v ∧ ∃ N', RT w0 w' D N' T ∧ (∀ b, N' b → N b ∨ w.heap.size ≤ b) ∧ Only (fun b => b = D) w w'
end Go.Proofs.Ytfbdhpbnmjacmaa.ds
