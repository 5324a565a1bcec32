/- A directory of the call's own, told as a list: what each call makes of it. -/
import Derived.Test.YtchjidijgdkhoaaAll
namespace Go.Proofs.Ytchjidijgdkhoaa
open Go.RowKit Go.Shelf
set_option linter.unusedVariables false

/-- What holds of every directory's entries. -/
structure Fine (L : List En) : Prop where
  sorted : Sorted L
  good : ∀ e ∈ L, nerr e.1.data.toList = 0 ∧ 1 ≤ e.2
theorem Fine.nil : Fine [] := ⟨List.Pairwise.nil, by simp⟩
theorem Fine.set {L : List En} (h : Fine L) (s : ByteArray) (v : Int) : Fine (lsetE s v L) := by
  unfold lsetE
  split
  · rename_i h0
    refine ⟨lset_sorted h.sorted, fun e he => ?_⟩
    rcases (lset_mem h.sorted e).1 he with rfl | ⟨he, _⟩
    · unfold serr at h0
      by_cases hn : nerr s.data.toList = 0
      · rw [if_neg (by simpa using hn)] at h0
        split at h0
        · cases h0
        · rename_i hd
          refine ⟨hn, ?_⟩
          show 1 ≤ v
          have : ¬ v < 1 := fun e => hd (.inr e)
          omega
      · rw [if_pos hn] at h0; exact absurd h0 hn
    · exact h.good e he
  · exact h
theorem Fine.del {L : List En} (h : Fine L) (s : ByteArray) : Fine (ldel s L) := ⟨ldel_sorted h.sorted, fun e he => h.good e ((ldel_mem e).1 he).1⟩
theorem lsetE_length (s : ByteArray) (v : Int) (L : List En) : (lsetE s v L).length ≤ L.length + 1 := by
  unfold lsetE; split
  · exact lset_length s v L
  · omega

/-- A directory that the call made behind w0; the blocks X are not its. -/
def DirX (w0 w : World) (D : Nat) (X : Nat → Prop) (L : List En) : Prop :=
  ∃ o c, Du w D w0.heap.size o c L ∧ w0.heap.size ≤ D ∧ Fine L ∧ Below w0.heap.size w0 w ∧ ∀ b, X b → b < w.heap.size ∧ b ≠ D ∧ o ≠ some b
def Same (X : Nat → Prop) (w w' : World) : Prop := ∀ b, X b → w'.heap[b]? = w.heap[b]?
abbrev No : Nat → Prop := fun _ => False
theorem DirX.bel {w0 w : World} {D : Nat} {X : Nat → Prop} {L : List En} (h : DirX w0 w D X L) : Below w0.heap.size w0 w := by obtain ⟨_, _, _, _, _, h, _⟩ := h; exact h
theorem DirX.fine {w0 w : World} {D : Nat} {X : Nat → Prop} {L : List En} (h : DirX w0 w D X L) : Fine L := by obtain ⟨_, _, _, _, h, _⟩ := h; exact h
theorem DirX.below {w0 w w' : World} {D : Nat} {X : Nat → Prop} {L : List En} (h : DirX w0 w D X L) (hb : Below w.heap.size w w') : DirX w0 w' D X L := by
  obtain ⟨o, c, h1, h2, h3, h4, h5⟩ := h
  exact ⟨o, c, h1.below hb, h2, h3, below_step h4 hb, fun b hx => ⟨Nat.lt_of_lt_of_le (h5 b hx).1 hb.size, (h5 b hx).2⟩⟩
theorem DirX.drew {w0 w : World} {D : Nat} {X : Nat → Prop} {L : List En} (h : DirX w0 w D X L) : DirX w0 w.drew D X L := h.below (Below.refl _ _).drew
theorem DirX.forget {w0 w : World} {D : Nat} {X : Nat → Prop} {L : List En} (h : DirX w0 w D X L) : DirX w0 w D No L := by
  obtain ⟨o, c, h1, h2, h3, h4, h5⟩ := h
  exact ⟨o, c, h1, h2, h3, h4, fun _ h => h.elim⟩
/-- What lies behind all that the directory has is not its. -/
theorem DirX.box {w0 w : World} {D : Nat} {X : Nat → Prop} {L : List En} (h : DirX w0 w D X L) (ob : Obj) : DirX w0 (w.alloc ob) D (fun b => X b ∨ b = w.heap.size) L := by
  have h' := h.below (below_alloc w ob)
  obtain ⟨o, c, h1, h2, h3, h4, h5⟩ := h
  refine ⟨o, c, h1.below (below_alloc w ob), h2, h3, h'.bel, fun b hx => ?_⟩
  rcases hx with hx | rfl
  · exact ⟨by have := (h5 b hx).1; simp; omega, (h5 b hx).2⟩
  · have := h1.lt
    exact ⟨by simp, by omega, fun e => by have := (h1.glt _ e).1; omega⟩
theorem DirX.over {w0 w w' : World} {D : Nat} {X : Nat → Prop} {L : List En} (h : DirX w0 w D X L) (hb : Below w.heap.size w w') : DirX w0 w' D (fun b => X b ∨ (w.heap.size ≤ b ∧ b < w'.heap.size)) L := by
  have h' := h.below hb
  obtain ⟨o, c, h1, h2, h3, h4, h5⟩ := h
  refine ⟨o, c, h1.below hb, h2, h3, h'.bel, fun b hx => ?_⟩
  rcases hx with hx | ⟨h6, h7⟩
  · exact ⟨Nat.lt_of_lt_of_le (h5 b hx).1 hb.size, (h5 b hx).2⟩
  · have := h1.lt
    exact ⟨h7, by omega, fun e => by have := (h1.glt _ e).1; omega⟩
theorem DirX.dlt {w0 w : World} {D : Nat} {X : Nat → Prop} {L : List En} (h : DirX w0 w D X L) : D < w.heap.size ∧ w0.heap.size ≤ D := by obtain ⟨_, _, h, h2, _⟩ := h; exact ⟨h.lt, h2⟩
theorem DirX.step {w0 w w' : World} {D c : Nat} {o : Option Nat} {X : Nat → Prop} {L K : List En} {v : Value} {e : Ending} (h : Du w D w0.heap.size o c L ∧ w0.heap.size ≤ D ∧ Below w0.heap.size w0 w ∧ ∀ b, X b → b < w.heap.size ∧ b ≠ D ∧ o ≠ some b)
    (hK : Fine K) (hs : StepE w D w0.heap.size o v K e w') : e = .returned v ∧ DirX w0 w' D X K ∧ Same X w w' := by
  obtain ⟨h1, h2, h4, h5⟩ := h
  obtain ⟨he, o', c', hd, ho, hf⟩ := hs
  refine ⟨he, ⟨o', c', hd, h2, hK, ?_, fun b hx => ?_⟩, fun b hx => hf.block b (h5 b hx).1 (h5 b hx).2.1 (h5 b hx).2.2⟩
  · exact h4.trans ⟨hf.os, hf.tape, hf.output, hf.size, fun k hk => hf.block k (by have := h4.size; omega) (by omega) (fun e => by have := (h1.glt k e).2.1; omega)⟩
  · obtain ⟨b1, b2, b3⟩ := h5 b hx
    refine ⟨Nat.lt_of_lt_of_le b1 hf.size, b2, fun e => ?_⟩
    rcases ho b e with e | e
    · exact b3 e
    · omega

theorem x_new {w0 w : World} (hb : Below w0.heap.size w0 w) : Calls Try.prog 9 #[] w (fun e w' => e = .returned (Pq w.heap.size) ∧ DirX w0 w' w.heap.size (fun b => b < w.heap.size) [] ∧ Below w.heap.size w w') :=
  (new_any w w0.heap.size hb.size).mono fun _ w' ⟨he, hd, hb'⟩ => ⟨he, ⟨none, 0, hd, hb.size, Fine.nil, below_step hb hb', fun b hx => ⟨Nat.lt_of_lt_of_le hx hb'.size, by omega, by simp⟩⟩, hb'⟩
theorem x_set {w0 w : World} {D : Nat} {X : Nat → Prop} {L : List En} (h : DirX w0 w D X L) (hN : L.length ≤ 900000) (s : ByteArray) (v : Int) (hm : s.size ≤ 9223372036854775807) :
    Calls Try.prog 10 #[Pq D, .string s, .int .i64 v] w (fun e w' => e = .returned (.int .i64 (serr s v)) ∧ DirX w0 w' D X (lsetE s v L) ∧ Same X w w') := by
  obtain ⟨o, c, h1, h2, h3, h4, h5⟩ := h
  exact (set_any D w0.heap.size c o L s v w hm h1 h4.size h3.sorted hN).mono fun _ _ hs => DirX.step ⟨h1, h2, h4, h5⟩ (h3.set s v) hs
theorem x_del {w0 w : World} {D : Nat} {X : Nat → Prop} {L : List En} (h : DirX w0 w D X L) (hN : L.length ≤ 900000) (s : ByteArray) :
    Calls Try.prog 12 #[Pq D, .string s] w (fun e w' => e = .returned (getV s L) ∧ DirX w0 w' D X (ldel s L) ∧ Same X w w') := by
  obtain ⟨o, c, h1, h2, h3, h4, h5⟩ := h
  exact (ddel_any D w0.heap.size c o L s w h1 h3.sorted (by omega)).mono fun _ _ hs => DirX.step ⟨h1, h2, h4, h5⟩ (h3.del s) hs
theorem x_get {w0 w : World} {D : Nat} {X : Nat → Prop} {L : List En} (h : DirX w0 w D X L) (hN : L.length ≤ 900000) (s : ByteArray) : Calls Try.prog 14 #[Pq D, .string s] w (RetV w (getV s L)) := by
  obtain ⟨o, c, h1, h2, h3, h4, h5⟩ := h
  exact get_any D w0.heap.size c o L s w h3.sorted (by omega) h1
theorem x_len {w0 w : World} {D : Nat} {X : Nat → Prop} {L : List En} (h : DirX w0 w D X L) : Calls Try.prog 18 #[Pq D] w (fun e w' => e = .returned (.int .i64 L.length) ∧ w' = w) := by
  obtain ⟨o, c, h1, h2, h3, h4, h5⟩ := h
  exact dlen_any D w0.heap.size c o L w h1
theorem x_next {w0 w : World} {D : Nat} {X : Nat → Prop} {L : List En} (h : DirX w0 w D X L) (hN : L.length ≤ 900000) (s : ByteArray) : Calls Try.prog 16 #[Pq D, .string s] w (RetV w (nextV s L)) := by
  obtain ⟨o, c, h1, h2, h3, h4, h5⟩ := h
  exact next_any D w0.heap.size c o L s w h3.sorted (by omega) h1
theorem x_all {w0 w : World} {D : Nat} {X : Nat → Prop} {L : List En} (h : DirX w0 w D X L) (hN : L.length ≤ 900000) : Calls Try.prog 20 #[Pq D] w (AllE w L) := by
  obtain ⟨o, c, h1, h2, h3, h4, h5⟩ := h
  exact all_any D w0.heap.size c o L w (by omega) h1
end Go.Proofs.Ytchjidijgdkhoaa
