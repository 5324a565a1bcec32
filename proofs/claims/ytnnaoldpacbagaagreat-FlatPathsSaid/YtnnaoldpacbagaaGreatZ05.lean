/- 'slices.Clone'; 'All' of a directory. A directory of the call's own, told as a list: what each call makes of it. -/
import Derived.Test.YtnnaoldpacbagaaGreatZ04
import Derived.Laws.Cover3
section
namespace Go.Proofs.YtnnaoldpacbagaaGreat.dn
open Go.RowKit Go.Shelf
set_option linter.unusedVariables false


set_option maxRecDepth 100000 in
theorem run_eql_nil (w : World) (a : Option Addr) (l c : Nat) : (binOp .eql 104 (.slice a l c) (.slice none 0 0)).run Tryz.prog w = .ok (.bool a.isNone) w := by
  simp only [binOp]
  simp [run_equal_slice_nil w 104 108 a l c Tryz.underlying104]
/-- A row of the call's own that nobody else has. -/
def AllE (w : World) (L : List En) (e : Ending) (w' : World) : Prop := ∃ o c', e = .returned (.slice (Ao o) L.length c') ∧ L.length ≤ c' ∧ c' ≤ maxLen ∧ Sl w' w.heap.size o c' L ∧ Below w.heap.size w w'

theorem allE_app {w w' : World} {n g cap : Nat} {L : List En} {ob : Obj} (hn : n = L.length) (hown : w'.ownsRow w.heap.size 108 2 (.slice (some ⟨g, 0, none⟩) (0 + n) cap) (0 + n) ([] ++ encL L))
    (hgr : (w.alloc ob).grownBy w' (Value.slice (some ⟨w.heap.size, 0, none⟩) 0 0).ownBlock) : AllE w L (.returned (.slice (some ⟨g, 0, none⟩) (0 + n) cap)) w' := by
  rw [Nat.zero_add, List.nil_append] at hown
  obtain ⟨h1, h2⟩ := ERow.of_owns hown hn
  refine ⟨some g, cap, by rw [Nat.zero_add, hn]; rfl, h1.1, h1.2.1, ⟨h2, h1⟩, ?_⟩
  have hb := below_alloc w ob
  exact ⟨hgr.os.trans hb.os, hgr.tape.trans hb.tape, hgr.output.trans hb.output, Nat.le_trans hb.size hgr.size, fun k hk => (hgr.block k (Nat.lt_of_lt_of_le hk hb.size) (fun e => by simp [Value.ownBlock] at e; omega)).trans (hb.block k hk)⟩

set_option maxRecDepth 100000 in
set_option maxHeartbeats 4000000 in
theorem clone_any (c lo : Nat) (o : Option Nat) (L : List En) (w : World) (hN : L.length ≤ 1000000) (h : Sl w lo o c L) :
    Calls Tryz.prog 181 #[.slice (Ao o) L.length c] w (AllE w L) := by
  obtain ⟨i0, hi, hz0, hz1, hz2⟩ := info_parts info37
  have hq27 := run_eql_nil
  cases o with
  | none =>
    obtain ⟨rfl, rfl⟩ := h
    have HF := Lib.hid (show AllE w [] (.returned (.slice none 0 0)) w from ⟨none, 0, rfl, Nat.le_refl _, by unfold maxLen; omega, ⟨rfl, rfl⟩, Below.refl _ _⟩)
    clear hi hz0 hz1 hz2
    go_enter Tryz.func181, Tryz.ntmps181
    go_wp2_with fail
    go_ret
    exact HF.out
  | some G =>
    obtain ⟨hlo, hr⟩ := h
    by_cases h0 : L = []
    · subst h0
      have HF := Lib.hid (fun ob (hob : ob = Obj.cells #[] 108 (0, 0)) => (show AllE w [] (.returned (.slice (some ⟨w.heap.size, 0, none⟩) 0 0)) (w.alloc ob) from ⟨some w.heap.size, 0, rfl, Nat.le_refl _, by unfold maxLen; omega, ⟨Nat.le_refl _, ⟨Nat.le_refl _, by unfold maxLen; omega, [], by subst hob; exact heap_alloc_new w _, rfl, rfl⟩⟩, below_alloc _ _⟩))
      go_enter Tryz.func181, Tryz.ntmps181
      go_wp2_with fail
      go_ret
      exact HF.out _ rfl
    · have hpos : 0 < L.length := List.length_pos_iff.2 h0
      have hGw := hr.lt
      have HO := Lib.hid (show (w.alloc (.cells #[] 108)).ownsRow w.heap.size 108 2 (.slice (some ⟨w.heap.size, 0, none⟩) 0 0) 0 [] from ⟨rfl, .inr ⟨w.heap.size, 0, #[], rfl, Nat.le_refl _, heap_alloc_new w _, Nat.le_refl _, by unfold maxLen; omega, rfl, rfl⟩⟩)
      have HX := Lib.hid (fun ob => (show ∀ j u, (encL L)[j]? = some u → (w.alloc ob).cell? ((⟨G, 0, none⟩ : Addr).add j) = some u from fun j u hj => by
        rw [Addr.add_lit, Nat.zero_add, (below_alloc w ob).cell (p := ⟨G, j, none⟩) hGw]; exact hr.cells hj))
      have HF := Lib.hid (fun w' g cap ob a b => allE_app (w := w) (w' := w') (g := g) (cap := cap) (ob := ob) (L := L) rfl a b)
      have HL := Lib.hid (encL_length L)
      have H1 := Lib.hid (encL_one L)
      generalize hn : L.length = n at *
      generalize encL L = cl at *
      have HN := Lib.hid hn
      clear hn hr h0
      go_enter Tryz.func181, Tryz.ntmps181
      go_wp2_with (at_builtin; refine wpList_append_lies _ (by rfl) _ _ _ (by rfl) w.heap.size 108 i0 _ 2 24 Tryz.underlying104 hi hz0 hz1 hz2 (by rfl) (by decide) _ _ [] (by rfl) HO.out ⟨G, 0, none⟩ n c cl (by rfl) HL.out (HX.out _) H1.out (by omega) (by unfold maxLen; omega) (by omega) (by simp) _ rfl ?_; intro gg cap w3 hown1 hgrow hat hlt3)
      go_ret
      first | exact HF.out _ _ _ _ hown1 hgrow | (rw [Nat.zero_add] at *; exact HF.out _ _ _ _ hown1 hgrow)

set_option maxRecDepth 100000 in
set_option maxHeartbeats 1000000 in
theorem all_any (D lo c : Nat) (o : Option Nat) (L : List En) (w : World) (hN : L.length ≤ 1000000) (h : Du w D lo o c L) :
    Calls Tryz.prog 146 #[Pq D] w (AllE w L) := by
  have HC := Lib.hid (clone_any c lo o L w hN h.sl)
  have d0 := h.d0
  generalize L.length = n at *
  clear h
  go_enter Tryz.func146, Tryz.ntmps146
  go_wp2_with fail
  refine HC.out.mono ?_
  intro e w2 hE
  obtain ⟨o2, c2, rfl, h2⟩ := id hE
  have HE := Lib.hid hE
  clear hE h2
  go_wp2_with fail
  go_ret
  exact HE.out
end Go.Proofs.YtnnaoldpacbagaaGreat.dn
end
section
namespace Go.Proofs.YtnnaoldpacbagaaGreat.dn
open Go.RowKit Go.Shelf
set_option linter.unusedVariables false


/-- What holds of every directory's entries. -/
structure Fine (L : List En) : Prop where
  sorted : Sorted L
  good : ∀ e ∈ L, nerr e.1.data.toList = 0 ∧ 1 ≤ e.2
theorem Fine.nil : Fine [] := ⟨List.Pairwise.nil, by simp⟩
theorem Fine.set {L : List En} (h : Fine L) (s : ByteArray) (v : Int) : Fine (lsetE s v L) := by
  unfold lsetE
  split
  · rename_i h0
    refine ⟨lset_sorted h.sorted, fun e he => ?_⟩
    rcases (lset_mem h.sorted e).1 he with rfl | ⟨he, _⟩
    · unfold serr at h0
      by_cases hn : nerr s.data.toList = 0
      · rw [if_neg (by simpa using hn)] at h0
        split at h0
        · cases h0
        · rename_i hd
          refine ⟨hn, ?_⟩
          show 1 ≤ v
          have : ¬ v < 1 := fun e => hd (.inr e)
          omega
      · rw [if_pos hn] at h0; exact absurd h0 hn
    · exact h.good e he
  · exact h
theorem Fine.del {L : List En} (h : Fine L) (s : ByteArray) : Fine (ldel s L) := ⟨ldel_sorted h.sorted, fun e he => h.good e ((ldel_mem e).1 he).1⟩
theorem lsetE_length (s : ByteArray) (v : Int) (L : List En) : (lsetE s v L).length ≤ L.length + 1 := by
  unfold lsetE; split
  · exact lset_length s v L
  · omega

/-- A directory that the call made behind w0; the blocks X are not its. -/
def DirX (w0 w : World) (D : Nat) (X : Nat → Prop) (L : List En) : Prop :=
  ∃ o c, Du w D w0.heap.size o c L ∧ w0.heap.size ≤ D ∧ Fine L ∧ Below w0.heap.size w0 w ∧ ∀ b, X b → b < w.heap.size ∧ b ≠ D ∧ o ≠ some b
def Same (X : Nat → Prop) (w w' : World) : Prop := ∀ b, X b → w'.heap[b]? = w.heap[b]?
abbrev No : Nat → Prop := fun _ => False
theorem DirX.bel {w0 w : World} {D : Nat} {X : Nat → Prop} {L : List En} (h : DirX w0 w D X L) : Below w0.heap.size w0 w := by obtain ⟨_, _, _, _, _, h, _⟩ := h; exact h
theorem DirX.fine {w0 w : World} {D : Nat} {X : Nat → Prop} {L : List En} (h : DirX w0 w D X L) : Fine L := by obtain ⟨_, _, _, _, h, _⟩ := h; exact h
theorem DirX.below {w0 w w' : World} {D : Nat} {X : Nat → Prop} {L : List En} (h : DirX w0 w D X L) (hb : Below w.heap.size w w') : DirX w0 w' D X L := by
  obtain ⟨o, c, h1, h2, h3, h4, h5⟩ := h
  exact ⟨o, c, h1.below hb, h2, h3, below_step h4 hb, fun b hx => ⟨Nat.lt_of_lt_of_le (h5 b hx).1 hb.size, (h5 b hx).2⟩⟩
theorem DirX.drew {w0 w : World} {D : Nat} {X : Nat → Prop} {L : List En} (h : DirX w0 w D X L) : DirX w0 w.drew D X L := h.below (Below.refl _ _).drew
theorem DirX.forget {w0 w : World} {D : Nat} {X : Nat → Prop} {L : List En} (h : DirX w0 w D X L) : DirX w0 w D No L := by
  obtain ⟨o, c, h1, h2, h3, h4, h5⟩ := h
  exact ⟨o, c, h1, h2, h3, h4, fun _ h => h.elim⟩
/-- What lies behind all that the directory has is not its. -/
theorem DirX.box {w0 w : World} {D : Nat} {X : Nat → Prop} {L : List En} (h : DirX w0 w D X L) (ob : Obj) : DirX w0 (w.alloc ob) D (fun b => X b ∨ b = w.heap.size) L := by
  have h' := h.below (below_alloc w ob)
  obtain ⟨o, c, h1, h2, h3, h4, h5⟩ := h
  refine ⟨o, c, h1.below (below_alloc w ob), h2, h3, h'.bel, fun b hx => ?_⟩
  rcases hx with hx | rfl
  · exact ⟨by have := (h5 b hx).1; simp; omega, (h5 b hx).2⟩
  · have := h1.lt
    exact ⟨by simp, by omega, fun e => by have := (h1.glt _ e).1; omega⟩
theorem DirX.over {w0 w w' : World} {D : Nat} {X : Nat → Prop} {L : List En} (h : DirX w0 w D X L) (hb : Below w.heap.size w w') : DirX w0 w' D (fun b => X b ∨ (w.heap.size ≤ b ∧ b < w'.heap.size)) L := by
  have h' := h.below hb
  obtain ⟨o, c, h1, h2, h3, h4, h5⟩ := h
  refine ⟨o, c, h1.below hb, h2, h3, h'.bel, fun b hx => ?_⟩
  rcases hx with hx | ⟨h6, h7⟩
  · exact ⟨Nat.lt_of_lt_of_le (h5 b hx).1 hb.size, (h5 b hx).2⟩
  · have := h1.lt
    exact ⟨h7, by omega, fun e => by have := (h1.glt _ e).1; omega⟩
theorem DirX.dlt {w0 w : World} {D : Nat} {X : Nat → Prop} {L : List En} (h : DirX w0 w D X L) : D < w.heap.size ∧ w0.heap.size ≤ D := by obtain ⟨_, _, h, h2, _⟩ := h; exact ⟨h.lt, h2⟩
theorem DirX.step {w0 w w' : World} {D c : Nat} {o : Option Nat} {X : Nat → Prop} {L K : List En} {v : Value} {e : Ending} (h : Du w D w0.heap.size o c L ∧ w0.heap.size ≤ D ∧ Below w0.heap.size w0 w ∧ ∀ b, X b → b < w.heap.size ∧ b ≠ D ∧ o ≠ some b)
    (hK : Fine K) (hs : StepE w D w0.heap.size o v K e w') : e = .returned v ∧ DirX w0 w' D X K ∧ Same X w w' := by
  obtain ⟨h1, h2, h4, h5⟩ := h
  obtain ⟨he, o', c', hd, ho, hf⟩ := hs
  refine ⟨he, ⟨o', c', hd, h2, hK, ?_, fun b hx => ?_⟩, fun b hx => hf.block b (h5 b hx).1 (h5 b hx).2.1 (h5 b hx).2.2⟩
  · exact h4.trans ⟨hf.os, hf.tape, hf.output, hf.size, fun k hk => hf.block k (by have := h4.size; omega) (by omega) (fun e => by have := (h1.glt k e).2.1; omega)⟩
  · obtain ⟨b1, b2, b3⟩ := h5 b hx
    refine ⟨Nat.lt_of_lt_of_le b1 hf.size, b2, fun e => ?_⟩
    rcases ho b e with e | e
    · exact b3 e
    · omega

set_option maxRecDepth 100000 in
theorem x_new {w0 w : World} (hb : Below w0.heap.size w0 w) : Calls Tryz.prog 127 #[] w (fun e w' => e = .returned (Pq w.heap.size) ∧ DirX w0 w' w.heap.size (fun b => b < w.heap.size) [] ∧ Below w.heap.size w w') :=
  (new_any w w0.heap.size hb.size).mono fun _ w' ⟨he, hd, hb'⟩ => ⟨he, ⟨none, 0, hd, hb.size, Fine.nil, below_step hb hb', fun b hx => ⟨Nat.lt_of_lt_of_le hx hb'.size, by omega, by simp⟩⟩, hb'⟩
set_option maxRecDepth 100000 in
theorem x_set {w0 w : World} {D : Nat} {X : Nat → Prop} {L : List En} (h : DirX w0 w D X L) (hN : L.length ≤ 900000) (s : ByteArray) (v : Int) (hm : s.size ≤ 9223372036854775807) :
    Calls Tryz.prog 81 #[Pq D, .string s, .int .i64 v] w (fun e w' => e = .returned (.int .i64 (serr s v)) ∧ DirX w0 w' D X (lsetE s v L) ∧ Same X w w') := by
  obtain ⟨o, c, h1, h2, h3, h4, h5⟩ := h
  exact (set_any D w0.heap.size c o L s v w hm h1 h4.size h3.sorted hN).mono fun _ _ hs => DirX.step ⟨h1, h2, h4, h5⟩ (h3.set s v) hs
set_option maxRecDepth 100000 in
theorem x_del {w0 w : World} {D : Nat} {X : Nat → Prop} {L : List En} (h : DirX w0 w D X L) (hN : L.length ≤ 900000) (s : ByteArray) :
    Calls Tryz.prog 110 #[Pq D, .string s] w (fun e w' => e = .returned (getV s L) ∧ DirX w0 w' D X (ldel s L) ∧ Same X w w') := by
  obtain ⟨o, c, h1, h2, h3, h4, h5⟩ := h
  exact (ddel_any D w0.heap.size c o L s w h1 h3.sorted (by omega)).mono fun _ _ hs => DirX.step ⟨h1, h2, h4, h5⟩ (h3.del s) hs
set_option maxRecDepth 100000 in
theorem x_get {w0 w : World} {D : Nat} {X : Nat → Prop} {L : List En} (h : DirX w0 w D X L) (hN : L.length ≤ 900000) (s : ByteArray) : Calls Tryz.prog 108 #[Pq D, .string s] w (RetV w (getV s L)) := by
  obtain ⟨o, c, h1, h2, h3, h4, h5⟩ := h
  exact get_any D w0.heap.size c o L s w h3.sorted (by omega) h1
set_option maxRecDepth 100000 in
theorem x_len {w0 w : World} {D : Nat} {X : Nat → Prop} {L : List En} (h : DirX w0 w D X L) : Calls Tryz.prog 144 #[Pq D] w (fun e w' => e = .returned (.int .i64 L.length) ∧ w' = w) := by
  obtain ⟨o, c, h1, h2, h3, h4, h5⟩ := h
  exact dlen_any D w0.heap.size c o L w h1
set_option maxRecDepth 100000 in
theorem x_all {w0 w : World} {D : Nat} {X : Nat → Prop} {L : List En} (h : DirX w0 w D X L) (hN : L.length ≤ 900000) : Calls Tryz.prog 146 #[Pq D] w (AllE w L) := by
  obtain ⟨o, c, h1, h2, h3, h4, h5⟩ := h
  exact all_any D w0.heap.size c o L w (by omega) h1
end Go.Proofs.YtnnaoldpacbagaaGreat.dn
end
