/- The code's store with its bodies, and the document's own beside it. -/
import Derived.Test.YtpnnonphagddgaaRCut
import Derived.Test.YtpnnonphagddgaaRWrite
import Derived.Test.YtpnnonphagddgaaRRead
import Derived.Test.YtpnnonphagddgaaFour2
namespace Go.Proofs.Ytpnnonphagddgaa
open Go.RowKit
set_option linter.unusedVariables false
set_option linter.unusedSimpArgs false

structure RX where
  C : Nat
  vB : Value
  vT : Value
  T : Nat
def RX.nil (C : Nat) : RX := ⟨C, .slice none 0 0, .slice none 0 0, 0⟩
def RFx (x : RX) : Nat → Prop := RF x.C x.vB x.vT
structure Duo (w wr : World) (g h S Q R K : Nat) (B M : Nat → Nat) (r : Nat → RX) (b c : Nat → AB) : Prop where
  sys : Sys wr S R K B M b
  bel : Below w.heap.size w wr
  ag : ∀ k, k < 4 → wr.cell? ⟨g, k, none⟩ = some (if k < K then Pq (B k) else .pointer none)
  ah : ∀ k, k < 4 → wr.cell? ⟨h, k, none⟩ = some (if k < K then Pq (r k).C else .pointer none)
  fg : ∀ k, wr.frozen? ⟨g, k, none⟩ = false
  fh : ∀ k, wr.frozen? ⟨h, k, none⟩ = false
  sto : StoC wr Q R (tot K c)
  rb : ∀ k, k < K → RB wr w.heap.size (r k).C (r k).vB (r k).vT (c k) (r k).T
  dis : ∀ k j, k < K → j < K → j ≠ k → ∀ x, RFx (r k) x → ¬ RFx (r j) x
  out : ∀ k, k < K → ∀ x, RFx (r k) x → w.heap.size ≤ x ∧ ¬ FP S K B M x ∧ x ≠ g ∧ x ≠ h ∧ x ≠ Q
  oq : w.heap.size ≤ Q ∧ ¬ FP S K B M Q ∧ Q ≠ g ∧ Q ≠ h
  oh : w.heap.size ≤ h ∧ ¬ FP S K B M h
  og : w.heap.size ≤ g ∧ ¬ FP S K B M g ∧ g ≠ h
  lo : ∀ x, FP S K B M x → w.heap.size ≤ x
theorem RB.ltF {w : World} {lo C T : Nat} {vB vT : Value} {b : AB} (h : RB w lo C vB vT b T) {x : Nat} (hx : RF C vB vT x) : x < w.heap.size := by
  rcases hx with rfl | hx | hx
  · exact World.block_lt_of_cell? w _ h.c0
  · exact (h.rB.lt x hx).2
  · exact (h.rT.lt x hx).2
theorem Sys.ltF {w : World} {S room K : Nat} {B M : Nat → Nat} {b : Nat → AB} (h : Sys w S room K B M b) {x : Nat} (hx : FP S K B M x) : x < w.heap.size := by
  rcases hx with rfl | ⟨k, hk, rfl | rfl⟩
  · exact h.ltS
  · exact (h.bod k hk).ltB
  · exact (h.bod k hk).ltM
section
variable {w wr w' : World} {g h S Q R K : Nat} {B M : Nat → Nat} {r : Nat → RX} {b c : Nat → AB}
theorem Duo.gl (d : Duo w wr g h S Q R K B M r b c) : g < wr.heap.size := World.block_lt_of_cell? wr _ (d.ag 0 (by omega))
theorem Duo.hl (d : Duo w wr g h S Q R K B M r b c) : h < wr.heap.size := World.block_lt_of_cell? wr _ (d.ah 0 (by omega))
theorem Duo.ql (d : Duo w wr g h S Q R K B M r b c) : Q < wr.heap.size := World.block_lt_of_cell? wr _ d.sto.c0
theorem Duo.keep (d : Duo w wr g h S Q R K B M r b c) {F : Nat → Prop} (ho : Only F wr w') (hF : ∀ x, F x → w.heap.size ≤ x ∧ ¬ FP S K B M x ∧ x ≠ g ∧ x ≠ h ∧ x ≠ Q ∧ ∀ k, k < K → ¬ RFx (r k) x) : Duo w w' g h S Q R K B M r b c where
  sys := d.sys.keep ho fun x hx hf => (hF x hf).2.1 hx
  bel := ho.below d.bel (Nat.le_refl _) fun x hx => (hF x hx).1
  ag := fun k hk => (World.cell?_of_block (a := ⟨g, k, none⟩) (ho.block g d.gl fun hf => (hF g hf).2.2.1 rfl)).trans (d.ag k hk)
  ah := fun k hk => (World.cell?_of_block (a := ⟨h, k, none⟩) (ho.block h d.hl fun hf => (hF h hf).2.2.2.1 rfl)).trans (d.ah k hk)
  fg := fun k => (World.frozen?_of_block (a := ⟨g, k, none⟩) (ho.block g d.gl fun hf => (hF g hf).2.2.1 rfl)).trans (d.fg k)
  fh := fun k => (World.frozen?_of_block (a := ⟨h, k, none⟩) (ho.block h d.hl fun hf => (hF h hf).2.2.2.1 rfl)).trans (d.fh k)
  sto := d.sto.below (ho.block Q d.ql fun hf => (hF Q hf).2.2.2.2.1 rfl)
  rb := fun k hk => (d.rb k hk).only ho fun x hx hf => (hF x hf).2.2.2.2.2 k hk hx
  dis := d.dis
  out := d.out
  oq := d.oq
  oh := d.oh
  og := d.og
  lo := d.lo
theorem Duo.below (d : Duo w wr g h S Q R K B M r b c) (hb : Below wr.heap.size wr w') : Duo w w' g h S Q R K B M r b c :=
  d.keep (F := fun _ => False) (Only.of_below hb) fun _ hf => hf.elim
theorem Duo.drew (d : Duo w wr g h S Q R K B M r b c) : Duo w wr.drew g h S Q R K B M r b c := d.below (Below.refl _ _).drew
theorem Duo.code {b' : Nat → AB} (d : Duo w wr g h S Q R K B M r b c) (hs : Sys w' S R K B M b') (ho : Only (FP S K B M) wr w') : Duo w w' g h S Q R K B M r b' c where
  sys := hs
  bel := ho.below d.bel (Nat.le_refl _) d.lo
  ag := fun k hk => (World.cell?_of_block (a := ⟨g, k, none⟩) (ho.block g d.gl d.og.2.1)).trans (d.ag k hk)
  ah := fun k hk => (World.cell?_of_block (a := ⟨h, k, none⟩) (ho.block h d.hl d.oh.2)).trans (d.ah k hk)
  fg := fun k => (World.frozen?_of_block (a := ⟨g, k, none⟩) (ho.block g d.gl d.og.2.1)).trans (d.fg k)
  fh := fun k => (World.frozen?_of_block (a := ⟨h, k, none⟩) (ho.block h d.hl d.oh.2)).trans (d.fh k)
  sto := d.sto.below (ho.block Q d.ql d.oq.2.1)
  rb := fun k hk => (d.rb k hk).only ho fun x hx hf => (d.out k hk x hx).2.1 hf
  dis := d.dis
  out := d.out
  oq := d.oq
  oh := d.oh
  og := d.og
  lo := d.lo
theorem Duo.ref {k T' : Nat} {vB' vT' : Value} {c' : AB} (d : Duo w wr g h S Q R K B M r b c) (hk : k < K)
    (hR : RS2 wr w' w.heap.size (r k).C Q R (tot K c + c'.n - (c k).n) (RF (r k).C (r k).vB (r k).vT) vB' vT' c' T') :
    Duo w w' g h S Q R K B M (updF r k ⟨(r k).C, vB', vT', T'⟩) b (updF c k c') := by
  have ho := hR.o
  have hnF : ∀ x, FP S K B M x → ¬ (RF (r k).C (r k).vB (r k).vT x ∨ x = Q) := by
    rintro x hx (h1 | rfl)
    · exact (d.out k hk x h1).2.1 hx
    · exact d.oq.2.1 hx
  have hg : ¬ (RF (r k).C (r k).vB (r k).vT g ∨ g = Q) := by
    rintro (h1 | h1)
    · exact (d.out k hk g h1).2.2.1 rfl
    · exact d.oq.2.2.1 h1.symm
  have hh : ¬ (RF (r k).C (r k).vB (r k).vT h ∨ h = Q) := by
    rintro (h1 | h1)
    · exact (d.out k hk h h1).2.2.2.1 rfl
    · exact d.oq.2.2.2 h1.symm
  have hC : ∀ j, (updF r k ⟨(r k).C, vB', vT', T'⟩ j).C = (r j).C := fun j => by
    by_cases e : j = k
    · subst e; rw [updF_same]
    · rw [updF_other e]
  have hnew : ∀ x, RFx ⟨(r k).C, vB', vT', T'⟩ x → RFx (r k) x ∨ wr.heap.size ≤ x := hR.f
  have ht := tot_upd (b := c) (v := c') hk
  have hl := tot_le (b := c) hk
  refine ⟨d.sys.keep ho hnF, ho.below d.bel (Nat.le_refl _) ?_, fun j hj => (World.cell?_of_block (a := ⟨g, j, none⟩) (ho.block g d.gl hg)).trans (d.ag j hj), fun j hj => ?_, fun j => (World.frozen?_of_block (a := ⟨g, j, none⟩) (ho.block g d.gl hg)).trans (d.fg j), fun j => (World.frozen?_of_block (a := ⟨h, j, none⟩) (ho.block h d.hl hh)).trans (d.fh j), ?_, fun j hj => ?_, fun i j hi hj hij x hx => ?_, fun j hj x hx => ?_, d.oq, d.oh, d.og, d.lo⟩
  · rintro x (h1 | rfl)
    · exact (d.out k hk x h1).1
    · exact d.oq.1
  · rw [hC]
    exact (World.cell?_of_block (a := ⟨h, j, none⟩) (ho.block h d.hl hh)).trans (d.ah j hj)
  · rw [show tot K (updF c k c') = tot K c + c'.n - (c k).n by omega]
    exact hR.s
  · by_cases e : j = k
    · subst e; rw [updF_same, updF_same]; exact hR.r
    · rw [updF_other e, updF_other e]
      refine (d.rb j hj).only ho ?_
      rintro x hx (h1 | rfl)
      · exact d.dis j k hj hk (fun e2 => e e2.symm) x hx h1
      · exact (d.out j hj _ hx).2.2.2.2 rfl
  · by_cases e1 : i = k
    · subst e1
      rw [updF_same] at hx
      rw [updF_other hij]
      intro hy
      rcases hnew x hx with h1 | h1
      · exact d.dis i j hi hj hij x h1 hy
      · have := (d.rb j hj).ltF hy; omega
    · rw [updF_other e1] at hx
      by_cases e2 : j = k
      · subst e2
        rw [updF_same]
        intro hy
        rcases hnew x hy with h1 | h1
        · exact d.dis i j hi hj hij x hx h1
        · have := (d.rb i hi).ltF hx; omega
      · rw [updF_other e2]; exact d.dis i j hi hj hij x hx
  · by_cases e : j = k
    · subst e
      rw [updF_same] at hx
      rcases hnew x hx with h1 | h1
      · exact d.out j hj x h1
      · refine ⟨Nat.le_trans d.bel.size h1, fun hf => ?_, ?_, ?_, ?_⟩
        · have := d.sys.ltF hf; omega
        · have := d.gl; omega
        · have := d.hl; omega
        · have := d.ql; omega
    · rw [updF_other e] at hx; exact d.out j hj x hx
end
theorem rb_new (w : World) (lo : Nat) (hl : lo ≤ w.heap.size) : RB (w.alloc (.cells #[.slice none 0 0, .slice none 0 0] 36)) lo w.heap.size (.slice none 0 0) (.slice none 0 0) AB.empty 0 where
  c0 := by simp
  c1 := by simp
  f0 := by simp
  f1 := by simp
  rB := World.ownsRow_nil _ _ _ _
  rT := World.ownsRow_nil _ _ _ _
  tT := fun _ h => nomatch h
  le := by omega
  nB := fun e => nomatch e
  nT := fun e => nomatch e
  sep := fun _ e => nomatch e
theorem tot_more (K : Nat) (c : Nat → AB) : tot (K + 1) (updF c K AB.empty) = tot K c := by
  show tot K (updF c K AB.empty) + (updF c K AB.empty K).n = tot K c
  rw [updF_same, tot_congr (b := updF c K AB.empty) (b' := c) (fun j hj => updF_other (by omega))]
  show tot K c + cnt 4096 (fun _ => false) = tot K c
  rw [cnt_none]
  exact Nat.add_zero _
theorem Duo.more {w wr w1 : World} {g h S Q R K p q : Nat} {B M : Nat → Nat} {r : Nat → RX} {b c : Nat → AB} (d : Duo w wr g h S Q R K B M r b c) (hK : K < 4)
    (hs : Sys w1 S R (K + 1) (updF B K p) (updF M K q) (updF b K AB.empty)) (hb : Below wr.heap.size wr w1) (hp : wr.heap.size ≤ p) (hq : wr.heap.size ≤ q) :
    Duo w (((w1.setCell ⟨g, K, none⟩ (Pq p)).alloc (.cells #[.slice none 0 0, .slice none 0 0] 36)).setCell ⟨h, K, none⟩ (Pq w1.heap.size)) g h S Q R (K + 1) (updF B K p) (updF M K q) (updF r K (RX.nil w1.heap.size)) (updF b K AB.empty) (updF c K AB.empty) := by
  obtain ⟨w2, h2⟩ : ∃ w2, w2 = w1.setCell ⟨g, K, none⟩ (Pq p) := ⟨_, rfl⟩
  obtain ⟨w3, h3⟩ : ∃ w3, w3 = w2.alloc (.cells #[.slice none 0 0, .slice none 0 0] 36) := ⟨_, rfl⟩
  obtain ⟨w4, h4⟩ : ∃ w4, w4 = w3.setCell ⟨h, K, none⟩ (Pq w1.heap.size) := ⟨_, rfl⟩
  rw [← h2, ← h3, ← h4]
  have s2 : w2.heap.size = w1.heap.size := by rw [h2]; simp [World.setCell]
  have s3 : w3.heap.size = w1.heap.size + 1 := by rw [h3, ← s2]; simp
  have s4 : w4.heap.size = w3.heap.size := by rw [h4]; simp [World.setCell]
  have o12 : Only (fun x => x = g ∨ x = h) w1 w2 := by rw [h2]; exact (set_only' w1 g K _).mono fun x hx => Or.inl hx
  have o23 : Only (fun x => x = g ∨ x = h) w2 w3 := by rw [h3]; exact Only.of_below (below_one _ _)
  have o34 : Only (fun x => x = g ∨ x = h) w3 w4 := by rw [h4]; exact (set_only' w3 h K _).mono fun x hx => Or.inr hx
  have o14 := (o12.trans o23).trans o34
  have o04 : Only (fun x => x = g ∨ x = h) wr w4 := (Only.of_below hb).trans o14
  have g1 := d.gl
  have l1 := d.hl
  have q1 := d.ql
  have sz := hb.size
  have hpl : p < w1.heap.size := hs.ltF (Or.inr ⟨K, by omega, Or.inl (updF_same _ _ _).symm⟩)
  have hql : q < w1.heap.size := hs.ltF (Or.inr ⟨K, by omega, Or.inr (updF_same _ _ _).symm⟩)
  have hFP : ∀ x, FP S (K + 1) (updF B K p) (updF M K q) x → FP S K B M x ∨ (wr.heap.size ≤ x ∧ x < w1.heap.size) := fun x hx => by
    rcases FP_more x hx with h1 | rfl | rfl
    · exact Or.inl h1
    · exact Or.inr ⟨hp, hpl⟩
    · exact Or.inr ⟨hq, hql⟩
  have hgF : ¬ FP S (K + 1) (updF B K p) (updF M K q) g := fun hx => by
    rcases hFP g hx with h1 | h1
    · exact d.og.2.1 h1
    · omega
  have hhF : ¬ FP S (K + 1) (updF B K p) (updF M K q) h := fun hx => by
    rcases hFP h hx with h1 | h1
    · exact d.oh.2 h1
    · omega
  have hqF : ¬ FP S (K + 1) (updF B K p) (updF M K q) Q := fun hx => by
    rcases hFP Q hx with h1 | h1
    · exact d.oq.2.1 h1
    · omega
  have hnil : ∀ x, RFx (RX.nil w1.heap.size) x → x = w1.heap.size := by
    rintro x (h1 | h1 | h1)
    · exact h1
    · exact nomatch h1
    · exact nomatch h1
  have cg : ∀ k, k < 4 → w1.cell? ⟨g, k, none⟩ = some (if k < K then Pq (B k) else .pointer none) := fun k hk => (hb.cell (p := ⟨g, k, none⟩) g1).trans (d.ag k hk)
  have ch : ∀ k, k < 4 → w3.cell? ⟨h, k, none⟩ = some (if k < K then Pq (r k).C else .pointer none) := fun k hk => by
    have e1 : w3.heap[h]? = w2.heap[h]? := by rw [h3]; exact (below_one _ _).block h (by omega)
    have e2 : w2.heap[h]? = w1.heap[h]? := by rw [h2]; exact set_block (fun e => d.og.2.2 e.symm)
    exact (World.cell?_of_block (a := ⟨h, k, none⟩) (e1.trans e2)).trans ((hb.cell (p := ⟨h, k, none⟩) l1).trans (d.ah k hk))
  have hg4 : ∀ k, w4.cell? ⟨g, k, none⟩ = w2.cell? ⟨g, k, none⟩ := fun k => by
    have e1 : w3.heap[g]? = w2.heap[g]? := by rw [h3]; exact (below_one _ _).block g (by omega)
    have e2 : w4.heap[g]? = w3.heap[g]? := by rw [h4]; exact set_block d.og.2.2
    exact World.cell?_of_block (a := ⟨g, k, none⟩) (e2.trans e1)
  refine ⟨hs.keep o14 ?_, o04.below d.bel (Nat.le_refl _) ?_, fun k hk => ?_, fun k hk => ?_, fun k => ?_, fun k => ?_, ?_, fun k hk => ?_, fun i j hi hj hij x hx => ?_, fun k hk x hx => ?_, ⟨d.oq.1, hqF, d.oq.2.2⟩, ⟨d.oh.1, hhF⟩, ⟨d.og.1, hgF, d.og.2.2⟩, fun x hx => ?_⟩
  · rintro x hx (rfl | rfl)
    · exact hgF hx
    · exact hhF hx
  · rintro x (rfl | rfl)
    · exact d.og.1
    · exact d.oh.1
  · rw [hg4]
    by_cases e : k = K
    · subst e
      rw [if_pos (by omega), updF_same, h2]
      exact World.cell?_setCell_same _ _ _ (cg k hk)
    · rw [h2, World.cell?_setCell_other _ _ _ _ (by intro e2; injection e2 with _ e2; exact e e2.symm), cg k hk, updF_other e]
      by_cases e3 : k < K
      · rw [if_pos e3, if_pos (by omega)]
      · rw [if_neg e3, if_neg (by omega)]
  · by_cases e : k = K
    · subst e
      rw [if_pos (by omega), updF_same, h4]
      exact World.cell?_setCell_same _ _ _ (ch k hk)
    · rw [h4, World.cell?_setCell_other _ _ _ _ (by intro e2; injection e2 with _ e2; exact e e2.symm), ch k hk, updF_other e]
      by_cases e3 : k < K
      · rw [if_pos e3, if_pos (by omega)]
      · rw [if_neg e3, if_neg (by omega)]
  · rw [h4, World.frozen?_setCell, h3]
    have e1 : (w2.alloc (.cells #[.slice none 0 0, .slice none 0 0] 36)).heap[g]? = w2.heap[g]? := (below_one _ _).block g (by omega)
    rw [World.frozen?_of_block (a := ⟨g, k, none⟩) e1, h2, World.frozen?_setCell, World.frozen?_of_block (a := ⟨g, k, none⟩) (hb.block g g1)]
    exact d.fg k
  · rw [h4, World.frozen?_setCell, h3]
    have e1 : (w2.alloc (.cells #[.slice none 0 0, .slice none 0 0] 36)).heap[h]? = w2.heap[h]? := (below_one _ _).block h (by omega)
    rw [World.frozen?_of_block (a := ⟨h, k, none⟩) e1, h2, World.frozen?_setCell, World.frozen?_of_block (a := ⟨h, k, none⟩) (hb.block h l1)]
    exact d.fh k
  · rw [tot_more]
    refine d.sto.below (o04.block Q q1 ?_)
    rintro (e | e)
    · exact d.oq.2.2.1 e
    · exact d.oq.2.2.2 e
  · by_cases e : k = K
    · subst e
      rw [updF_same, updF_same]
      have h5 : RB w3 w.heap.size w1.heap.size (.slice none 0 0) (.slice none 0 0) AB.empty 0 := by
        rw [h3, ← s2]
        exact rb_new w2 w.heap.size (by rw [s2]; exact Nat.le_trans d.bel.size sz)
      refine RB.only h5 (by rw [h4]; exact set_only' w3 h k _) ?_
      intro x hx e
      have := hnil x hx
      omega
    · rw [updF_other e, updF_other e]
      refine (d.rb k (by omega)).only o04 ?_
      have h5 := d.out k (by omega)
      rintro x hx (rfl | rfl)
      · exact (h5 _ hx).2.2.1 rfl
      · exact (h5 _ hx).2.2.2.1 rfl
  · by_cases e1 : i = K
    · subst e1
      rw [updF_same] at hx
      have h5 := hnil x hx
      rw [updF_other hij]
      intro hy
      have := (d.rb j (by omega)).ltF hy
      omega
    · rw [updF_other e1] at hx
      have h6 := (d.rb i (by omega)).ltF hx
      by_cases e2 : j = K
      · subst e2
        rw [updF_same]
        intro hy
        have := hnil x hy
        omega
      · rw [updF_other e2]
        exact d.dis i j (by omega) (by omega) hij x hx
  · by_cases e : k = K
    · subst e
      rw [updF_same] at hx
      have h5 := hnil x hx
      have h6 := d.bel.size
      refine ⟨by omega, fun hf => ?_, by omega, by omega, by omega⟩
      rcases hFP x hf with h7 | h7
      · have := d.sys.ltF h7; omega
      · omega
    · rw [updF_other e] at hx
      have h5 := d.out k (by omega) x hx
      have h6 := (d.rb k (by omega)).ltF hx
      refine ⟨h5.1, fun hf => ?_, h5.2.2⟩
      rcases hFP x hf with h7 | h7
      · exact h5.2.1 h7
      · omega
  · rcases hFP x hx with h7 | h7
    · exact d.lo x h7
    · have := d.bel.size; omega
theorem duo_start {w w1 w2 w3 w4 w5 : World} {R : Nat} (hb1 : Below w.heap.size w w1) (hR : R ≤ 65536) (h2 : w2 = w1.alloc (.cells #[.int .i64 (R : Int), .int .i64 0] 65)) (h3 : w3 = w2.alloc (.cells #[.int .i64 (R : Int), .int .i64 0] 52))
    (h4 : w4 = w3.alloc (.cells #[.pointer none, .pointer none, .pointer none, .pointer none] 29)) (h5 : w5 = w4.alloc (.cells #[.pointer none, .pointer none, .pointer none, .pointer none] 31)) :
    Duo w w5 w3.heap.size w4.heap.size w1.heap.size w2.heap.size R 0 (fun _ => 0) (fun _ => 0) (fun _ => RX.nil 0) (fun _ => AB.empty) (fun _ => AB.empty) := by
  have s2 : w2.heap.size = w1.heap.size + 1 := by rw [h2]; simp
  have s3 : w3.heap.size = w2.heap.size + 1 := by rw [h3]; simp
  have s4 : w4.heap.size = w3.heap.size + 1 := by rw [h4]; simp
  have b23 : Below w2.heap.size w2 w3 := by rw [h3]; exact below_one _ _
  have b34 : Below w3.heap.size w3 w4 := by rw [h4]; exact below_one _ _
  have b45 : Below w4.heap.size w4 w5 := by rw [h5]; exact below_one _ _
  have b12 : Below w1.heap.size w1 w2 := by rw [h2]; exact below_one _ _
  have b35 := below_steps b34 b45
  have b25 := below_steps b23 b35
  have hz := hb1.size
  have hs2 : Sys w2 w1.heap.size R 0 (fun _ => 0) (fun _ => 0) (fun _ => AB.empty) := one_new hR h2
  have hFP : ∀ x, FP w1.heap.size 0 (fun _ => 0) (fun _ => 0) x → x = w1.heap.size := by
    rintro x (h | ⟨k, hk, _⟩)
    · exact h
    · omega
  have hST : StoC w3 w2.heap.size R 0 := by rw [h3]; exact ⟨by simp, by simp, by simp⟩
  have four : ∀ k, k < 4 → k = 0 ∨ k = 1 ∨ k = 2 ∨ k = 3 := fun k hk => by omega
  refine ⟨hs2.below b25, below_steps hb1 (below_steps b12 b25), fun k hk => ?_, fun k hk => ?_, fun k => ?_, fun k => ?_, ?_, fun k hk => absurd hk (Nat.not_lt_zero _), fun k j hk => absurd hk (Nat.not_lt_zero _), fun k hk => absurd hk (Nat.not_lt_zero _), ⟨by omega, fun hf => by have := hFP _ hf; omega, by omega, by omega⟩, ⟨by omega, fun hf => by have := hFP _ hf; omega⟩, ⟨by omega, fun hf => by have := hFP _ hf; omega, by omega⟩, fun x hx => by have := hFP _ hx; omega⟩
  · refine (b45.cell (p := ⟨w3.heap.size, k, none⟩) (by show w3.heap.size < w4.heap.size; omega)).trans ?_
    rw [if_neg (Nat.not_lt_zero _), h4]
    rcases four k hk with rfl | rfl | rfl | rfl <;> simp
  · rw [if_neg (Nat.not_lt_zero _), h5]
    rcases four k hk with rfl | rfl | rfl | rfl <;> simp
  · rw [World.frozen?_of_block (a := ⟨w3.heap.size, k, none⟩) (b45.block w3.heap.size (by omega)), h4]
    simp
  · rw [h5]; simp
  · exact hST.below (b35.block _ (by omega))
theorem rnew_yes (room : Nat) (w : World) (hr : room ≤ 65536) : Calls Try.prog 12 #[.int .i64 (room : Int)] w (fun e w' => e = .returned (Pq w.heap.size) ∧ w' = w.alloc (.cells #[.int .i64 (room : Int), .int .i64 0] 52)) := by
  have h1 : ¬ ((65536 : Int) < (room : Int)) := by omega
  have h0 : ¬ ((room : Int) < 0) := by omega
  go_enter Try.func12, Try.ntmps12
  go_wp2
  go_ret
  exact ⟨rfl, rfl⟩
theorem rnew_no (room : Int) (w : World) (hr : room < 0 ∨ 65536 < room) : Calls Try.prog 12 #[.int .i64 room] w (fun e w' => e = .returned (.pointer none) ∧ w = w') := by
  by_cases h : room < 0
  · go_enter Try.func12, Try.ntmps12
    go_wp2
    go_ret
    exact ⟨rfl, rfl⟩
  · have h1 : 65536 < room := by omega
    go_enter Try.func12, Try.ntmps12
    go_wp2
    go_ret
    exact ⟨rfl, rfl⟩
end Go.Proofs.Ytpnnonphagddgaa
