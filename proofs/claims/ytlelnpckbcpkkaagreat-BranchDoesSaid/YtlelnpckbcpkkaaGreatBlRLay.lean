/- The document's own body, turned: a mark is laid. -/
import Derived.Test.YtlelnpckbcpkkaaGreatBlRRead
import Derived.Deep.AppendLies
namespace Go.Proofs.YtlelnpckbcpkkaaGreat.bl
open Go.RowKit
set_option linter.unusedVariables false
set_option linter.unusedSimpArgs false


def RF (C : Nat) (vB vT : Value) (x : Nat) : Prop := x = C ∨ vB.ownBlock = some x ∨ vT.ownBlock = some x
/-- Behind a call that may have turned the body whose blocks were G. -/
structure RStep (w w' : World) (lo C : Nat) (G : Nat → Prop) (vB vT : Value) (b : AB) (T : Nat) : Prop where
  r : RB w' lo C vB vT b T
  o : Only G w w'
  f : ∀ x, RF C vB vT x → G x ∨ w.heap.size ≤ x
theorem RStep.refl {w : World} {lo C T : Nat} {vB vT : Value} {b : AB} (h : RB w lo C vB vT b T) : RStep w w lo C (RF C vB vT) vB vT b T := ⟨h, Only.refl _ _, fun x hx => Or.inl hx⟩
theorem RStep.trans {w w1 w2 : World} {lo C T T' : Nat} {G : Nat → Prop} {vB vT vB' vT' : Value} {b b' : AB} (h : RStep w w1 lo C G vB vT b T) (k : RStep w1 w2 lo C (RF C vB vT) vB' vT' b' T') : RStep w w2 lo C G vB' vT' b' T' := by
  refine ⟨k.r, ?_, fun x hx => ?_⟩
  · refine ⟨k.o.os.trans h.o.os, k.o.tape.trans h.o.tape, k.o.output.trans h.o.output, Nat.le_trans h.o.size k.o.size, fun x hx hg => ?_⟩
    exact (k.o.block x (Nat.lt_of_lt_of_le hx h.o.size) (fun hf => by rcases h.f x hf with h1 | h1; exact hg h1; omega)).trans (h.o.block x hx hg)
  · rcases k.f x hx with h1 | h1
    · exact h.f x h1
    · exact Or.inr (Nat.le_trans h.o.size h1)
theorem own_fro {w : World} {b e n c g : Nat} {L : List Value} (h : w.ownsRow b e 1 (.slice (some ⟨g, 0, none⟩) n c) n L) (i : Nat) : w.frozen? ⟨g, i, none⟩ = false := by
  rcases h.2 with ⟨h1, _⟩ | ⟨g', cap, cur, h1, _, h3, _⟩
  · injection h1 with h1; cases h1
  · injection h1 with h1
    injection h1 with h1
    injection h1 with h1 _
    subst h1
    simp [World.frozen?, h3]
theorem own_set {w : World} {b e n c g i : Nat} {L : List Value} {u : Value} (h : w.ownsRow b e 1 (.slice (some ⟨g, 0, none⟩) n c) n L) (hi : i < n) (hu : u.oneCell' = true) : (w.setCell ⟨g, i, none⟩ u).ownsRow b e 1 (.slice (some ⟨g, 0, none⟩) n c) n (L.set i u) := by
  refine ⟨by rw [List.length_set]; exact h.1, ?_⟩
  rcases h.2 with ⟨h1, _⟩ | ⟨g', cap, cur, h1, h2, h3, h4, h5, h6, h7⟩
  · injection h1 with h1; cases h1
  · injection h1 with h1 _ hc
    injection h1 with h1
    injection h1 with h1 _
    subst h1; subst hc
    refine Or.inr ⟨g, c, cur.setIfInBounds i u, rfl, h2, ?_, h4, h5, by simpa using h6, ?_⟩
    · rw [setCell_eq_setRow w g i cur e (0, 0) u h3]
      exact setRow_heap w g cur _ e _ h3
    · rw [Array.toList_setIfInBounds, List.take_set, h7]
theorem set_only' (w : World) (h i : Nat) (v : Value) : Only (fun x => x = h) w (w.setCell ⟨h, i, none⟩ v) := (Only.refl (fun x => x = h) w).setCell (p := ⟨h, i, none⟩) rfl v
theorem RB.only {w w' : World} {lo C T : Nat} {vB vT : Value} {b : AB} {F : Nat → Prop} (h : RB w lo C vB vT b T) (ho : Only F w w') (hF : ∀ x, RF C vB vT x → ¬ F x) : RB w' lo C vB vT b T := by
  have hC : C < w.heap.size := World.block_lt_of_cell? w _ h.c0
  have hb := ho.block C hC (hF C (Or.inl rfl))
  have hrow : ∀ {e n : Nat} {v : Value} {L : List Value}, w.ownsRow lo e 1 v n L → (∀ g, v.ownBlock = some g → ¬ F g) → w'.ownsRow lo e 1 v n L := by
    intro e n v L h hv
    refine ⟨h.1, ?_⟩
    rcases h.2 with h1 | ⟨g, cap, cur, h1, h2, h3, h4⟩
    · exact Or.inl h1
    · refine Or.inr ⟨g, cap, cur, h1, h2, ?_, h4⟩
      rw [ho.block g (Array.getElem?_eq_some_iff.1 h3).1 (hv g (by rw [h1]; rfl))]
      exact h3
  exact ⟨(World.cell?_of_block (a := ⟨C, 0, none⟩) hb).trans h.c0, (World.cell?_of_block (a := ⟨C, 1, none⟩) hb).trans h.c1, (World.frozen?_of_block (a := ⟨C, 0, none⟩) hb).trans h.f0, (World.frozen?_of_block (a := ⟨C, 1, none⟩) hb).trans h.f1,
    hrow h.rB (fun g hg => hF g (Or.inr (Or.inl hg))), hrow h.rT (fun g hg => hF g (Or.inr (Or.inr hg))), h.tT, h.le, h.nB, h.nT, h.sep⟩
theorem own_only {w w' : World} {lo e n : Nat} {v : Value} {L : List Value} {F : Nat → Prop} (h : w.ownsRow lo e 1 v n L) (ho : Only F w w') (hv : ∀ g, v.ownBlock = some g → ¬ F g) : w'.ownsRow lo e 1 v n L := by
  refine ⟨h.1, ?_⟩
  rcases h.2 with h1 | ⟨g, cap, cur, h1, h2, h3, h4⟩
  · exact Or.inl h1
  · refine Or.inr ⟨g, cap, cur, h1, h2, ?_, h4⟩
    rw [ho.block g (Array.getElem?_eq_some_iff.1 h3).1 (hv g (by rw [h1]; rfl))]
    exact h3
theorem grown_only {w w' : World} {r : Option Nat} (h : w.grownBy w' r) : Only (fun x => r = some x) w w' := ⟨h.os, h.tape, h.output, h.size, fun k hk hf => h.block k hk (fun e => hf e.symm)⟩
theorem tL_snoc {T : Nat} {th : Nat → Bool} (h : th T = false) : tL (T + 1) th = tL T th ++ [.bool false] := by
  unfold tL; rw [List.range_succ, List.map_append]; simp [h]
theorem tL_set {T k : Nat} {th : Nat → Bool} (hk : k < T) (u : Bool) : (tL T th).set k (.bool u) = tL T (updB th k u) := by
  apply List.ext_getElem?
  intro i
  rw [List.getElem?_set]
  by_cases hi : i < T
  · rw [tL_get (updB th k u) hi]
    by_cases e : k = i
    · subst e; simp [tL_length, hk, updB]
    · rw [if_neg e, tL_get th hi]
      unfold updB; rw [if_neg (fun h => e h.symm)]
  · rw [if_neg (by omega), List.getElem?_eq_none (by rw [tL_length]; omega), List.getElem?_eq_none (by rw [tL_length]; omega)]
/-- The marks grown by one. -/
theorem RB.growT {w w3 : World} {lo C T g cap : Nat} {vB vT : Value} {b : AB} {o : Obj} (h : RB w lo C vB vT b T) (hT : T < 4096) (hlo : lo ≤ w.heap.size)
    (hown : w3.ownsRow lo 4 1 (.slice (some ⟨g, 0, none⟩) (T + 1) cap) (T + 1) (tL T b.th ++ [.bool false])) (hgr : (w.alloc o).grownBy w3 vT.ownBlock) (hg : vT.ownBlock = some g ∨ g = w.heap.size + 1) :
    RStep w (w3.setCell ⟨C, 1, none⟩ (.slice (some ⟨g, 0, none⟩) (T + 1) cap)) lo C (RF C vB vT) vB (.slice (some ⟨g, 0, none⟩) (T + 1) cap) b (T + 1) := by
  have hC : C < w.heap.size := World.block_lt_of_cell? w _ h.c0
  have hB := h.rB.lt
  have hTl := h.rT.lt
  have hth : b.th T = false := by
    cases e : b.th T
    · rfl
    · have := h.tT T e; omega
  have hgC : g ≠ C := by
    rcases hg with e | e
    · intro h1; exact h.nT (h1 ▸ e)
    · omega
  have ho1 : Only (fun x => vT.ownBlock = some x) w w3 := (Only.of_below (below_one w o)).trans (grown_only hgr)
  have h3 : w3.heap[C]? = w.heap[C]? := ho1.block C hC h.nT
  have hst := set_only' w3 C 1 (.slice (some ⟨g, 0, none⟩) (T + 1) cap)
  have e1 := (World.cell?_of_block (a := ⟨C, 1, none⟩) h3).trans h.c1
  refine ⟨⟨?_, World.cell?_setCell_same _ _ _ e1, (World.frozen?_setCell _ _ _ _).trans ((World.frozen?_of_block (a := ⟨C, 0, none⟩) h3).trans h.f0), (World.frozen?_setCell _ _ _ _).trans ((World.frozen?_of_block (a := ⟨C, 1, none⟩) h3).trans h.f1), ?_, ?_, fun k hk => by have := h.tT k hk; omega, by omega, h.nB, ?_, ?_⟩, ?_, ?_⟩
  · exact (World.cell?_setCell_other _ _ _ _ (by intro e; injection e with _ e; simp at e)).trans ((World.cell?_of_block (a := ⟨C, 0, none⟩) h3).trans h.c0)
  · exact own_only (own_only h.rB ho1 (fun x hx e => h.sep x hx e)) hst (fun x hx e => by subst e; exact h.nB hx)
  · rw [tL_snoc hth]
    exact own_only hown hst (fun x hx e => by
      have : g = x := by simpa [Value.ownBlock] using hx
      omega)
  · intro e
    have : g = C := by simpa [Value.ownBlock] using e
    exact hgC this
  · intro x hx e
    have hgx : g = x := by simpa [Value.ownBlock] using e
    rcases hg with e1 | e1
    · exact h.sep x hx (hgx ▸ e1)
    · have := (hB x hx).2; omega
  · exact (ho1.mono (G := RF C vB vT) fun x hx => Or.inr (Or.inr hx)).trans (hst.mono fun x hx => Or.inl hx)
  · rintro x (hx | hx | hx)
    · exact Or.inl (Or.inl hx)
    · exact Or.inl (Or.inr (Or.inl hx))
    · have hgx : g = x := by simpa [Value.ownBlock] using hx
      rcases hg with e1 | e1
      · exact Or.inl (Or.inr (Or.inr (hgx ▸ e1)))
      · exact Or.inr (by omega)
/-- A mark set. -/
theorem RB.setT {w : World} {lo C T g cap k : Nat} {vB : Value} {b : AB} (h : RB w lo C vB (.slice (some ⟨g, 0, none⟩) T cap) b T) (hk : k < T) :
    RStep w (w.setCell ⟨g, k, none⟩ (.bool true)) lo C (RF C vB (.slice (some ⟨g, 0, none⟩) T cap)) vB (.slice (some ⟨g, 0, none⟩) T cap) ⟨b.size, updB b.th k true, b.dat⟩ T := by
  have hst := set_only' w g k (.bool true)
  have hgC : g ≠ C := fun e => h.nT (by rw [← e]; rfl)
  have hb : (w.setCell ⟨g, k, none⟩ (.bool true)).heap[C]? = w.heap[C]? := set_block (fun e => hgC e.symm)
  refine ⟨⟨(World.cell?_of_block (a := ⟨C, 0, none⟩) hb).trans h.c0, (World.cell?_of_block (a := ⟨C, 1, none⟩) hb).trans h.c1, (World.frozen?_of_block (a := ⟨C, 0, none⟩) hb).trans h.f0, (World.frozen?_of_block (a := ⟨C, 1, none⟩) hb).trans h.f1, ?_, ?_, fun x hx => ?_, h.le, h.nB, h.nT, h.sep⟩, ?_, fun x hx => Or.inl hx⟩
  · exact own_only h.rB hst (fun x hx e => by subst e; exact h.sep x hx rfl)
  · have := own_set h.rT hk (u := .bool true) rfl
    rw [tL_set hk] at this
    exact this
  · unfold updB at hx
    by_cases e : x = k
    · omega
    · simp only [if_neg e] at hx; exact h.tT x hx
  · exact hst.mono fun x hx => Or.inr (Or.inr (by rw [hx]; rfl))

def LayE (w : World) (lo C : Nat) (vB vT : Value) (b : AB) (k : Nat) (e : Ending) (w' : World) : Prop :=
  e = .returned (.tuple #[]) ∧ ∃ vT' T', RStep w w' lo C (RF C vB vT) vB vT' ⟨b.size, updB b.th k true, b.dat⟩ T'
set_option maxHeartbeats 2000000 in
set_option maxRecDepth 100000 in
theorem lay_any {w : World} {lo C T k : Nat} {vB vT : Value} {b : AB} (h : RB w lo C vB vT b T) (hk : k < 4096) (hlo : lo ≤ w.heap.size) : Calls Tryz.prog 127 #[Pq C, .int .i64 (k : Int)] w (LayE w lo C vB vT b k) := by
  obtain ⟨i0, hi, hz0, hz1, hz2⟩ := info_parts (P := Tryz.prog) (e := 4) (z := .bool false) (size := 1) (bytes := 1) (by kernel_rfl)
  have HI := Lib.hid hi
  have HZ := Lib.hid (show i0.zero = some (.bool false) ∧ i0.size = 1 ∧ i0.bytes = 1 from ⟨hz0, hz1, hz2⟩)
  have hki : (k : Int) < 4096 := by omega
  have HK := Lib.hid hk
  have HLO := Lib.hid hlo
  have HR := Lib.hid (RStep.refl h)
  clear hi hz0 hz1 hz2 h hk hlo
  go_enter Tryz.func127, Tryz.ntmps127
  go_wp2_with fail
  go_loopg [8] (k + 1) (fun g s8 wr => ∃ (T : Nat) (v : Value), k + 1 ≤ g + T ∧ Hid (RStep w wr lo C (RF C vB vT) vB v b T))
  case atStart => exact ⟨T, vT, by omega, HR⟩
  case round =>
    clear HR
    obtain ⟨T, v, hg, HS⟩ := hrel
    obtain ⟨A, c, rfl⟩ := own_slice HS.out.r.rT
    have c1 := HS.out.r.c1
    have f1 := HS.out.r.f1
    have hC : C < wr.heap.size := World.block_lt_of_cell? wr _ c1
    have hT4 := HS.out.r.le
    have hTi : (T : Int) ≤ 4096 := by omega
    by_cases hlt : T ≤ k
    · have hlti : (T : Int) ≤ (k : Int) := by omega
      have HRF := Lib.hid (show ∀ w3, (wr.alloc (.cells #[.bool false] 4)).grownBy w3 (Value.slice A T c).ownBlock → w3.cell? ⟨C, 1, none⟩ = some (.slice A T c) ∧ w3.frozen? ⟨C, 1, none⟩ = false from fun w3 hgr => by
        have ho1 : Only (fun x => (Value.slice A T c).ownBlock = some x) wr w3 := (Only.of_below (below_one wr _)).trans (grown_only hgr)
        have h3 : w3.heap[C]? = wr.heap[C]? := ho1.block C hC HS.out.r.nT
        exact ⟨(World.cell?_of_block (a := ⟨C, 1, none⟩) h3).trans c1, (World.frozen?_of_block (a := ⟨C, 1, none⟩) h3).trans f1⟩)
      have HLO2 := Lib.hid (Nat.le_trans HLO.out HS.out.o.size)
      clear hT4
      go_wp2_with (at_builtin; refine wpList_append_lies _ rfl (.tmp 15) (.tmp 16) 41 rfl lo 4 i0 _ 1 1 Tryz.underlying41 HI.out HZ.out.1 HZ.out.2.1 HZ.out.2.2 rfl (by decide) (.slice A T c) T (tL T b.th) rfl (HS.out.r.rT.alloc _) ⟨wr.heap.size, 0, none⟩ 1 1 [.bool false] rfl rfl (cell_new1 _ _ _) (by intro u hu; simp at hu; subst hu; rfl) (by decide) (by unfold maxLen; omega) (by omega) (by have := HLO2.out; simp; omega) (wr.heap.size + 1) (by simp) ?_; intro gg cap w3 hown1 hgrow1 hat1 hlt1; have d1 := (HRF.out w3 hgrow1).1; have d2 := (HRF.out w3 hgrow1).2)
      have HS2 := Lib.hid (HS.out.trans (HS.out.r.growT (by have := HK.out; omega) HLO2.out hown1 hgrow1 hat1))
      clear hown1 hgrow1 hat1 hlt1
      go_wp2_with fail
      go_roundg (gk - 1)
      case measure => omega
      case rel => exact ⟨T + 1, _, by omega, HS2⟩
    · have hlti : ¬ ((T : Int) ≤ (k : Int)) := by omega
      obtain ⟨g', c', he, _, hgl, hc⟩ := own_val HS.out.r.rT (tL_get b.th (k := k) (T := T) (by omega)) (by omega)
      injection he with he1 he2
      subst he1
      have hfz := own_fro HS.out.r.rT k
      have hkT : (k : Int) < (T : Int) := by omega
      have HS2 := Lib.hid (HS.out.trans (HS.out.r.setT (k := k) (by omega)))
      clear hT4
      go_wp2_with fail
      go_end0
      exact ⟨rfl, _, _, HS2.out⟩
end Go.Proofs.YtlelnpckbcpkkaaGreat.bl
