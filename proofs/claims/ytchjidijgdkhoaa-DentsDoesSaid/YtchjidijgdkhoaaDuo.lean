/- The code's directory and the document's own, beside each other. -/
import Derived.Test.YtchjidijgdkhoaaRSet
import Derived.Deep.RegionHeld3
namespace Go.Proofs.Ytchjidijgdkhoaa
open Go.RowKit Go.Shelf
set_option linter.unusedVariables false

/-- Two directories, apart; the blocks X are neither's. -/
def DuoX (w0 w : World) (D E : Nat) (X : Nat → Prop) (L K : List En) : Prop :=
  ∃ o c p d, Du w D w0.heap.size o c L ∧ Du w E w0.heap.size p d K ∧ w0.heap.size ≤ D ∧ w0.heap.size ≤ E ∧ D ≠ E ∧ o ≠ some E ∧ p ≠ some D ∧ (∀ G, p = some G → o ≠ some G) ∧ Fine L ∧ Fine K ∧ Below w0.heap.size w0 w ∧
    ∀ b, X b → b < w.heap.size ∧ b ≠ D ∧ b ≠ E ∧ o ≠ some b ∧ p ≠ some b
theorem DuoX.symm {w0 w : World} {D E : Nat} {X : Nat → Prop} {L K : List En} (h : DuoX w0 w D E X L K) : DuoX w0 w E D X K L := by
  obtain ⟨o, c, p, d, h1, h2, l1, l2, ne, s1, s2, s3, f1, f2, hb, hX⟩ := h
  exact ⟨p, d, o, c, h2, h1, l2, l1, ne.symm, s2, s1, fun G e e2 => s3 G e2 e, f2, f1, hb, fun b hx => ⟨(hX b hx).1, (hX b hx).2.2.1, (hX b hx).2.1, (hX b hx).2.2.2.2, (hX b hx).2.2.2.1⟩⟩
theorem DuoX.bel {w0 w : World} {D E : Nat} {X : Nat → Prop} {L K : List En} (h : DuoX w0 w D E X L K) : Below w0.heap.size w0 w := by
  obtain ⟨o, c, p, d, h1, h2, l1, l2, ne, s1, s2, s3, f1, f2, hb, hX⟩ := h; exact hb
theorem DuoX.below {w0 w w' : World} {D E : Nat} {X : Nat → Prop} {L K : List En} (h : DuoX w0 w D E X L K) (hb' : Below w.heap.size w w') : DuoX w0 w' D E X L K := by
  obtain ⟨o, c, p, d, h1, h2, l1, l2, ne, s1, s2, s3, f1, f2, hb, hX⟩ := h
  exact ⟨o, c, p, d, h1.below hb', h2.below hb', l1, l2, ne, s1, s2, s3, f1, f2, below_step hb hb', fun b hx => ⟨Nat.lt_of_lt_of_le (hX b hx).1 hb'.size, (hX b hx).2⟩⟩
theorem DuoX.forget {w0 w : World} {D E : Nat} {X : Nat → Prop} {L K : List En} (h : DuoX w0 w D E X L K) : DuoX w0 w D E No L K := by
  obtain ⟨o, c, p, d, h1, h2, l1, l2, ne, s1, s2, s3, f1, f2, hb, hX⟩ := h
  exact ⟨o, c, p, d, h1, h2, l1, l2, ne, s1, s2, s3, f1, f2, hb, fun _ h => h.elim⟩
theorem DuoX.box {w0 w : World} {D E : Nat} {X : Nat → Prop} {L K : List En} (h : DuoX w0 w D E X L K) (ob : Obj) : DuoX w0 (w.alloc ob) D E (fun b => b = w.heap.size) L K := by
  have h' := h.below (below_alloc w ob)
  obtain ⟨o, c, p, d, h1, h2, l1, l2, ne, s1, s2, s3, f1, f2, hb, hX⟩ := h
  refine ⟨o, c, p, d, h1.below (below_alloc w ob), h2.below (below_alloc w ob), l1, l2, ne, s1, s2, s3, f1, f2, h'.bel, fun b hx => ?_⟩
  subst hx
  have a1 := h1.lt
  have a2 := h2.lt
  exact ⟨by simp, by omega, by omega, fun e => by have := (h1.glt _ e).1; omega, fun e => by have := (h2.glt _ e).1; omega⟩
theorem DuoX.left {w0 w : World} {D E : Nat} {X : Nat → Prop} {L K : List En} (h : DuoX w0 w D E X L K) : DirX w0 w D No L := by
  obtain ⟨o, c, p, d, h1, h2, l1, l2, ne, s1, s2, s3, f1, f2, hb, hX⟩ := h
  exact ⟨o, c, h1, l1, f1, hb, fun _ h => h.elim⟩
theorem DuoX.step {w0 w w' : World} {D E c d : Nat} {o p : Option Nat} {X : Nat → Prop} {L M K : List En} {v : Value} {e : Ending}
    (h : Du w D w0.heap.size o c L ∧ Du w E w0.heap.size p d K ∧ w0.heap.size ≤ D ∧ w0.heap.size ≤ E ∧ D ≠ E ∧ o ≠ some E ∧ p ≠ some D ∧ (∀ G, p = some G → o ≠ some G) ∧ Fine K ∧ Below w0.heap.size w0 w ∧
    ∀ b, X b → b < w.heap.size ∧ b ≠ D ∧ b ≠ E ∧ o ≠ some b ∧ p ≠ some b) (hM : Fine M) (hs : StepE w D w0.heap.size o v M e w') : e = .returned v ∧ DuoX w0 w' D E X M K ∧ Same X w w' := by
  obtain ⟨h1, h2, l1, l2, ne, s1, s2, s3, f2, hb, hX⟩ := h
  obtain ⟨he, o', c', hd, ho, hf⟩ := hs
  have a1 := h1.lt
  have a2 := h2.lt
  have hbE : w'.heap[E]? = w.heap[E]? := hf.block E a2 ne.symm s1
  have hbG : ∀ G, p = some G → w'.heap[G]? = w.heap[G]? := fun G e => hf.block G (h2.glt G e).1 (fun e2 => by subst e2; exact s2 e) (s3 G e)
  refine ⟨he, ⟨o', c', p, d, hd, h2.of_blocks hbE hbG, l1, l2, ne, fun e => ?_, s2, fun G e e2 => ?_, hM, f2, ?_, fun b hx => ?_⟩, fun b hx => hf.block b (hX b hx).1 (hX b hx).2.1 (hX b hx).2.2.2.1⟩
  · rcases ho E e with e | e
    · exact s1 e
    · omega
  · have g1 := (h2.glt G e).1
    rcases ho G e2 with e2 | e2
    · exact s3 G e e2
    · omega
  · exact hb.trans ⟨hf.os, hf.tape, hf.output, hf.size, fun k hk => hf.block k (by have := hb.size; omega) (by omega) (fun e => by have := (h1.glt k e).2.1; omega)⟩
  · obtain ⟨b1, b2, b3, b4, b5⟩ := hX b hx
    refine ⟨Nat.lt_of_lt_of_le b1 hf.size, b2, b3, fun e => ?_, b5⟩
    rcases ho b e with e | e
    · exact b4 e
    · omega
theorem Fine.small {L : List En} (h : Fine L) : ∀ e ∈ L, e.1.size ≤ 9223372036854775807 := fun e he => by
  have := (h.good e he).1
  unfold nerr at this
  rw [Lib.size_eq]
  split at this
  · cases this
  · split at this
    · cases this
    · omega

theorem duo_set {w0 w : World} {D E : Nat} {X : Nat → Prop} {L K : List En} (h : DuoX w0 w D E X L K) (hN : L.length ≤ 400000) (s : ByteArray) (v : Int) (hm : s.size ≤ 9223372036854775807) :
    Calls Try.prog 10 #[Pq D, .string s, .int .i64 v] w (fun e w' => e = .returned (.int .i64 (serr s v)) ∧ DuoX w0 w' D E X (lsetE s v L) K ∧ Same X w w') := by
  obtain ⟨o, c, p, d, h1, h2, l1, l2, ne, s1, s2, s3, f1, f2, hb, hX⟩ := h
  exact (set_any D w0.heap.size c o L s v w hm h1 hb.size f1.sorted (by omega)).mono fun _ _ hs => DuoX.step ⟨h1, h2, l1, l2, ne, s1, s2, s3, f2, hb, hX⟩ (f1.set s v) hs
theorem duo_rset {w0 w : World} {D E : Nat} {X : Nat → Prop} {L K : List En} (h : DuoX w0 w D E X L K) (hN : K.length ≤ 400000) (s : ByteArray) (v : Int) (hm : s.size ≤ 9223372036854775807) :
    Calls Try.prog 11 #[Pq E, .string s, .int .i64 v] w (fun e w' => e = .returned (.int .i64 (serr s v)) ∧ DuoX w0 w' D E X L (lsetE s v K) ∧ Same X w w') := by
  obtain ⟨o, c, p, d, h1, h2, l1, l2, ne, s1, s2, s3, f1, f2, hb, hX⟩ := h.symm
  exact (rset_any E w0.heap.size c o K s v w hm f1.small h1 hb.size f1.sorted hN).mono fun _ _ hs => by
    obtain ⟨he, hd, hsm⟩ := DuoX.step ⟨h1, h2, l1, l2, ne, s1, s2, s3, f2, hb, hX⟩ (f1.set s v) hs
    exact ⟨he, hd.symm, hsm⟩
theorem duo_del {w0 w : World} {D E : Nat} {X : Nat → Prop} {L K : List En} (h : DuoX w0 w D E X L K) (hN : L.length ≤ 400000) (s : ByteArray) :
    Calls Try.prog 12 #[Pq D, .string s] w (fun e w' => e = .returned (getV s L) ∧ DuoX w0 w' D E X (ldel s L) K ∧ Same X w w') := by
  obtain ⟨o, c, p, d, h1, h2, l1, l2, ne, s1, s2, s3, f1, f2, hb, hX⟩ := h
  exact (ddel_any D w0.heap.size c o L s w h1 f1.sorted (by omega)).mono fun _ _ hs => DuoX.step ⟨h1, h2, l1, l2, ne, s1, s2, s3, f2, hb, hX⟩ (f1.del s) hs
theorem duo_rdel {w0 w : World} {D E : Nat} {X : Nat → Prop} {L K : List En} (h : DuoX w0 w D E X L K) (hN : K.length ≤ 400000) (s : ByteArray) :
    Calls Try.prog 13 #[Pq E, .string s] w (fun e w' => e = .returned (getV s K) ∧ DuoX w0 w' D E X L (ldel s K) ∧ Same X w w') := by
  obtain ⟨o, c, p, d, h1, h2, l1, l2, ne, s1, s2, s3, f1, f2, hb, hX⟩ := h.symm
  exact (rdel_any E w0.heap.size c o K s w hb.size (by omega) h1).mono fun _ _ hs => by
    obtain ⟨he, hd, hsm⟩ := DuoX.step ⟨h1, h2, l1, l2, ne, s1, s2, s3, f2, hb, hX⟩ (f1.del s) hs
    exact ⟨he, hd.symm, hsm⟩
theorem duo_rget {w0 w : World} {D E : Nat} {X : Nat → Prop} {L K : List En} (h : DuoX w0 w D E X L K) (hN : K.length ≤ 400000) (s : ByteArray) :
    Calls Try.prog 15 #[Pq E, .string s] w (fun e w' => e = .returned (getV s K) ∧ w' = w) := by
  obtain ⟨o, c, p, d, h1, h2, l1, l2, ne, s1, s2, s3, f1, f2, hb, hX⟩ := h.symm
  exact rget_any E w0.heap.size c o K s w (by omega) h1
theorem duo_rnext {w0 w : World} {D E : Nat} {X : Nat → Prop} {L K : List En} (h : DuoX w0 w D E X L K) (hN : K.length ≤ 400000) (s : ByteArray) (hm : s.size ≤ 9223372036854775807) :
    Calls Try.prog 17 #[Pq E, .string s] w (RetV w (nextV s K)) := by
  obtain ⟨o, c, p, d, h1, h2, l1, l2, ne, s1, s2, s3, f1, f2, hb, hX⟩ := h.symm
  exact rnext_any E w0.heap.size c o K s w (by omega) hm f1.small h1
/-- The document's own entries, read off its box. -/
theorem DuoX.right {w0 w : World} {D E : Nat} {X : Nat → Prop} {L K : List En} (h : DuoX w0 w D E X L K) : ∃ A c, w.cell? ⟨E, 0, none⟩ = some (.slice A K.length c) ∧ E < w.heap.size ∧ Reads w w.heap.size A K := by
  obtain ⟨o, c, p, d, h1, h2, r⟩ := h
  exact ⟨Ao p, d, h2.d0, h2.lt, Reads.of_sl h2.sl⟩
theorem duo_new {w0 w1 w2 : World} {ob : Obj} (hb1 : Below w0.heap.size w0 w1) (h1 : Du w2 w1.heap.size w0.heap.size none 0 []) (hb2 : Below w1.heap.size w1 w2) (hob : ob = .cells #[.slice none 0 0] 29) : DuoX w0 (w2.alloc ob) w1.heap.size w2.heap.size No [] [] := by
  subst hob
  have := h1.lt
  have := hb1.size
  have := hb2.size
  have hb3 := below_alloc w2 (.cells #[.slice none 0 0] 29)
  exact ⟨none, 0, none, 0, h1.below hb3, ⟨by simp, by simp, ⟨rfl, rfl⟩⟩, by omega, by omega, by omega, by simp, by simp, by simp, Fine.nil, Fine.nil, below_step (below_step hb1 hb2) hb3, fun _ h => h.elim⟩
theorem getV_form (s : ByteArray) (L : List En) : ∃ v1 v2, getV s L = .tuple #[.int .i64 v1, .int .i64 v2] := by unfold getV; cases lget s L <;> exact ⟨_, _, rfl⟩
theorem nextV_form (s : ByteArray) (L : List En) : ∃ (ys : ByteArray) (yv : Int) (q : Bool), nextV s L = .tuple #[.agg #[.string ys, .int .i64 yv], .bool q] := by unfold nextV; cases lnext s L <;> exact ⟨_, _, _, rfl⟩
end Go.Proofs.Ytchjidijgdkhoaa
