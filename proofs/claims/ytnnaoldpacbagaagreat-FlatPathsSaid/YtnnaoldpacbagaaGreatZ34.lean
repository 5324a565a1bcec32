/- Several structures of one call side by side, each with blocks of its own: what a call on one leaves of all. Acts that came in, opened. Two branches of the code's side by side. -/
import Derived.Test.YtnnaoldpacbagaaGreatZ21
import Derived.Test.YtnnaoldpacbagaaGreatZ20
import Derived.Test.YtnnaoldpacbagaaGreatZ32
section
namespace Go.Proofs.YtnnaoldpacbagaaGreat.cb
open Go.RowKit
open Go.Proofs.YtnnaoldpacbagaaGreat.br
open Go.Proofs.YtnnaoldpacbagaaGreat.bl (AB Only Pq U8 WR StoC)
set_option linter.unusedVariables false
set_option linter.unusedSimpArgs false

/-- A structure in memory, with the blocks that are its own. -/
abbrev Res := World → (Nat → Prop) → Prop
structure Stab (w0 : World) (r : Res) : Prop where
  own : ∀ (w : World) (O : Nat → Prop), r w O → ∀ b, O b → w0.heap.size ≤ b ∧ b < w.heap.size
  keep : ∀ (w w' : World) (O : Nat → Prop), r w O → Only (fun b => ¬ O b) w w' → r w' O
/-- What a call on a structure leaves: it is r'; only its own blocks were turned; what is its own now was so, or is new. -/
def NxR (w w' : World) (r' : Res) (O : Nat → Prop) : Prop := ∃ O' : Nat → Prop, r' w' O' ∧ (∀ b, O' b → O b ∨ w.heap.size ≤ b) ∧ Only O w w'
/-- The structures L, made behind w0; the blocks X are none's. -/
structure Sys (w0 w : World) (L : List Res) (X : Nat → Prop) : Prop where
  bel : Below w0.heap.size w0 w
  stab : ∀ (i : Nat) (r : Res), L[i]? = some r → Stab w0 r
  tag : ∃ g : Nat → Nat, (∀ (i : Nat) (r : Res), L[i]? = some r → r w (fun b => g b = i + 1)) ∧ (∀ b, w.heap.size ≤ b → g b = 0) ∧ ∀ b, X b → b < w.heap.size ∧ g b = 0
section
variable {w0 w w' : World} {L : List Res} {X Y F : Nat → Prop} {r r' : Res} {i : Nat}
theorem only_below (h : Below w.heap.size w w') : Only F w w' := ⟨h.os, h.tape, h.output, h.size, fun k hk _ => h.block k hk⟩
theorem owk {G : Nat → Prop} (h : Only F w w') (hg : ∀ b, b < w.heap.size → F b → G b) : Only G w w' := ⟨h.os, h.tape, h.output, h.size, fun k hk hn => h.block k hk fun e => hn (hg k hk e)⟩
theorem below_only (hb : Below w0.heap.size w0 w) (h : Only F w w') (hF : ∀ b, F b → w0.heap.size ≤ b) : Below w0.heap.size w0 w' :=
  hb.trans ⟨h.os, h.tape, h.output, h.size, fun k hk => h.block k (Nat.lt_of_lt_of_le hk hb.size) fun e => by have := hF k e; omega⟩
theorem Sys.lt (h : Sys w0 w L X) {b : Nat} (hb : X b) : b < w.heap.size := by obtain ⟨g, _, _, h2⟩ := h.tag; exact (h2 b hb).1
theorem Sys.nil (hb : Below w0.heap.size w0 w) : Sys w0 w [] (fun b => b < w.heap.size) :=
  ⟨hb, fun _ _ h => by simp at h, fun _ => 0, fun _ _ h => by simp at h, fun _ _ => rfl, fun b hb => ⟨hb, rfl⟩⟩
theorem Sys.sub (h : Sys w0 w L X) (hY : ∀ b, Y b → X b) : Sys w0 w L Y := by
  obtain ⟨g, h1, h3, h2⟩ := h.tag
  exact ⟨h.bel, h.stab, g, h1, h3, fun b hb => h2 b (hY b hb)⟩
theorem Sys.forget (h : Sys w0 w L X) : Sys w0 w L No := h.sub fun _ e => e.elim
/-- Blocks that are nobody's are turned; new ones are nobody's. -/
theorem Sys.turn (h : Sys w0 w L X) (ho : Only F w w') (hF : ∀ b, F b → X b ∧ w0.heap.size ≤ b) (hY : ∀ b, Y b → X b ∨ (w.heap.size ≤ b ∧ b < w'.heap.size)) : Sys w0 w' L Y := by
  obtain ⟨g, h1, h3, h2⟩ := h.tag
  refine ⟨below_only h.bel ho fun b hb => (hF b hb).2, h.stab, g, fun i r hi => ?_, fun b hb => h3 b (Nat.le_trans ho.size hb), fun b hb => ?_⟩
  · refine (h.stab i r hi).keep w w' _ (h1 i r hi) (owk ho fun b hb hf e => ?_)
    have := (h2 b (hF b hf).1).2
    omega
  · rcases hY b hb with h4 | ⟨h4, h5⟩
    · exact ⟨Nat.lt_of_lt_of_le (h2 b h4).1 ho.size, (h2 b h4).2⟩
    · exact ⟨h5, h3 b h4⟩
theorem Sys.box (h : Sys w0 w L X) (hb : Below w.heap.size w w') (hY : ∀ b, Y b → X b ∨ (w.heap.size ≤ b ∧ b < w'.heap.size)) : Sys w0 w' L Y :=
  h.turn (F := fun _ => False) (only_below hb) (fun _ e => e.elim) hY
theorem Sys.below (h : Sys w0 w L X) (hb : Below w.heap.size w w') : Sys w0 w' L X := h.box hb fun _ e => .inl e
theorem Sys.ask {p : Prop} (h : Sys w0 w L X) (hi : L[i]? = some r) (hp : ∀ O, r w O → p) : p := by obtain ⟨g, h1, _⟩ := h.tag; exact hp _ (h1 i r hi)
theorem set_get {i j : Nat} {s : Res} (h : (L.set i r')[j]? = some s) : (j = i ∧ s = r') ∨ (j ≠ i ∧ L[j]? = some s) := by
  by_cases e : i = j
  · subst e
    rw [List.getElem?_set] at h
    by_cases hl : i < L.length
    · simp [hl] at h; exact .inl ⟨rfl, h.symm⟩
    · simp [hl] at h
  · rw [List.getElem?_set_ne e] at h
    exact .inr ⟨fun e2 => e e2.symm, h⟩
theorem sys_core {g : Nat → Nat} (h : Sys w0 w L X) (h1 : ∀ (i : Nat) (r : Res), L[i]? = some r → r w (fun b => g b = i + 1)) (h3 : ∀ b, w.heap.size ≤ b → g b = 0) (h2 : ∀ b, X b → b < w.heap.size ∧ g b = 0)
    (hi : L[i]? = some r) (hs : Stab w0 r') (k : NxR w w' r' (fun b => g b = i + 1)) : Sys w0 w' (L.set i r') X ∧ Same X w w' := by
  classical
  obtain ⟨O', k1, k2, k3⟩ := k
  have hown := (h.stab i r hi).own w _ (h1 i r hi)
  have hO' := hs.own w' O' k1
  have hg : ∀ j s, j ≠ i → L[j]? = some s → ∀ b, (if O' b then i + 1 else if b < w.heap.size ∧ g b ≠ i + 1 then g b else 0) = j + 1 ↔ g b = j + 1 := fun j s hj hs b => by
    have ho := (h.stab j s hs).own w _ (h1 j s hs) b
    by_cases e1 : O' b
    · rw [if_pos e1]
      refine ⟨fun e => absurd (Nat.succ.inj e).symm hj, fun e => ?_⟩
      have := (ho e).2
      rcases k2 b e1 with e2 | e2 <;> omega
    · rw [if_neg e1]
      by_cases e2 : b < w.heap.size ∧ g b ≠ i + 1
      · rw [if_pos e2]
      · rw [if_neg e2]
        refine ⟨fun e => by omega, fun e => ?_⟩
        have := (ho e).2
        exact absurd ⟨this, by omega⟩ e2
  refine ⟨⟨below_only h.bel k3 fun b hb => (hown b hb).1, fun j s hj => ?_, fun b => if O' b then i + 1 else if b < w.heap.size ∧ g b ≠ i + 1 then g b else 0, fun j s hj => ?_, fun b hb => ?_, fun b hb => ?_⟩, fun b hb => ?_⟩
  · rcases set_get hj with ⟨_, rfl⟩ | ⟨_, e⟩
    · exact hs
    · exact h.stab j s e
  · rcases set_get hj with ⟨rfl, rfl⟩ | ⟨hne, e⟩
    · have : (fun b => (if O' b then j + 1 else if b < w.heap.size ∧ g b ≠ j + 1 then g b else 0) = j + 1) = O' := by
        funext b
        refine propext ⟨fun e => ?_, fun e => by rw [if_pos e]⟩
        by_cases e1 : O' b
        · exact e1
        · rw [if_neg e1] at e
          by_cases e2 : b < w.heap.size ∧ g b ≠ j + 1
          · rw [if_pos e2] at e; exact absurd e e2.2
          · rw [if_neg e2] at e; omega
      rw [this]; exact k1
    · have : (fun b => (if O' b then i + 1 else if b < w.heap.size ∧ g b ≠ i + 1 then g b else 0) = j + 1) = fun b => g b = j + 1 := funext fun b => propext (hg j s hne e b)
      rw [this]
      refine (h.stab j s e).keep w w' _ (h1 j s e) (owk k3 fun b hb hO e2 => ?_)
      omega
  · have e1 : ¬ O' b := fun e => by have := (hO' b e).2; omega
    show (if O' b then i + 1 else if b < w.heap.size ∧ g b ≠ i + 1 then g b else 0) = 0
    rw [if_neg e1, if_neg (fun e => by have := k3.size; omega)]
  · obtain ⟨h4, h5⟩ := h2 b hb
    refine ⟨Nat.lt_of_lt_of_le h4 k3.size, ?_⟩
    show (if O' b then i + 1 else if b < w.heap.size ∧ g b ≠ i + 1 then g b else 0) = 0
    have e1 : ¬ O' b := fun e => by
      rcases k2 b e with e2 | e2
      · omega
      · omega
    rw [if_neg e1, if_pos ⟨h4, by omega⟩, h5]
  · obtain ⟨h4, h5⟩ := h2 b hb
    exact k3.block b h4 fun e => by omega
/-- A call on one of the structures. -/
theorem Sys.call {f : Nat} {args : Array Value} {v : Value} (h : Sys w0 w L X) (hi : L[i]? = some r) (hs : Stab w0 r')
    (hc : ∀ O, r w O → Calls Tryz.prog f args w (fun e w' => e = .returned v ∧ NxR w w' r' O)) :
    Calls Tryz.prog f args w (fun e w' => e = .returned v ∧ Sys w0 w' (L.set i r') X ∧ Same X w w') := by
  obtain ⟨g, h1, h3, h2⟩ := h.tag
  exact (hc _ (h1 i r hi)).mono fun e w' ⟨he, hx⟩ => ⟨he, sys_core h h1 h3 h2 hi hs hx⟩
theorem Sys.callE {ι : Type} {p : ι → Prop} {v : ι → Value} {q : ι → Res} {f : Nat} {args : Array Value} (h : Sys w0 w L X) (hi : L[i]? = some r) (hs : ∀ z, p z → Stab w0 (q z))
    (hc : ∀ O, r w O → (∀ b, X b → b < w.heap.size ∧ ¬ O b) → Calls Tryz.prog f args w (fun e w' => ∃ z, p z ∧ e = .returned (v z) ∧ NxR w w' (q z) O)) :
    Calls Tryz.prog f args w (fun e w' => ∃ z, p z ∧ e = .returned (v z) ∧ Sys w0 w' (L.set i (q z)) X ∧ Same X w w') := by
  obtain ⟨g, h1, h3, h2⟩ := h.tag
  refine (hc _ (h1 i r hi) fun b hb => ⟨(h2 b hb).1, fun e => ?_⟩).mono fun e w' ⟨z, hz, he, hx⟩ => ⟨z, hz, he, sys_core h h1 h3 h2 hi (hs z hz) hx⟩
  have := (h2 b hb).2
  omega
/-- A structure is told otherwise. -/
theorem Sys.weak (h : Sys w0 w L X) (hi : L[i]? = some r) (hs : Stab w0 r') (hr : ∀ O, r w O → r' w O) : Sys w0 w (L.set i r') X := by
  obtain ⟨g, h1, h3, h2⟩ := h.tag
  refine ⟨h.bel, fun j s hj => ?_, g, fun j s hj => ?_, h3, h2⟩
  · rcases set_get hj with ⟨_, rfl⟩ | ⟨_, e⟩
    · exact hs
    · exact h.stab j s e
  · rcases set_get hj with ⟨rfl, rfl⟩ | ⟨_, e⟩
    · exact hr _ (h1 j r hi)
    · exact h1 j s e
/-- A structure that was made anew. -/
theorem Sys.add {O : Nat → Prop} (h : Sys w0 w L X) (hb : Below w.heap.size w w') (hs : Stab w0 r) (hr : r w' O) (hO : ∀ b, O b → w.heap.size ≤ b) : Sys w0 w' (L ++ [r]) X := by
  classical
  obtain ⟨g, h1, h3, h2⟩ := h.tag
  have hl := (hs.own w' O hr)
  have hg : ∀ j b, j < L.length → ((if O b then L.length + 1 else if g b ≤ L.length then g b else 0) = j + 1 ↔ g b = j + 1) := fun j b hj => by
    by_cases e : O b
    · rw [if_pos e, h3 b (hO b e)]; omega
    · rw [if_neg e]
      by_cases e2 : g b ≤ L.length
      · rw [if_pos e2]
      · rw [if_neg e2]; omega
  have hget : ∀ j s, (L ++ [r])[j]? = some s → (j < L.length ∧ L[j]? = some s) ∨ (j = L.length ∧ s = r) := fun j s hj => by
    rcases Nat.lt_or_ge j L.length with h4 | h4
    · rw [List.getElem?_append_left h4] at hj; exact .inl ⟨h4, hj⟩
    · rw [List.getElem?_append_right h4] at hj
      cases e : j - L.length with
      | zero => rw [e] at hj; simp at hj; exact .inr ⟨by omega, hj.symm⟩
      | succ m => rw [e] at hj; simp at hj
  refine ⟨h.bel.trans (hb.mono h.bel.size), fun j s hj => ?_, fun b => if O b then L.length + 1 else if g b ≤ L.length then g b else 0, fun j s hj => ?_, fun b hb' => ?_, fun b hb' => ?_⟩
  · rcases hget j s hj with ⟨_, e⟩ | ⟨_, rfl⟩
    · exact h.stab j s e
    · exact hs
  · rcases hget j s hj with ⟨h4, e⟩ | ⟨rfl, rfl⟩
    · have : (fun b => (if O b then L.length + 1 else if g b ≤ L.length then g b else 0) = j + 1) = fun b => g b = j + 1 := funext fun b => propext (hg j b h4)
      rw [this]
      exact (h.stab j s e).keep w w' _ (h1 j s e) (only_below hb)
    · have : (fun b => (if O b then L.length + 1 else if g b ≤ L.length then g b else 0) = L.length + 1) = O := by
        funext b
        refine propext ⟨fun e => ?_, fun e => by rw [if_pos e]⟩
        by_cases e1 : O b
        · exact e1
        · rw [if_neg e1] at e
          split at e <;> omega
      rw [this]; exact hr
  · have e1 : ¬ O b := fun e => by have := (hl b e).2; omega
    show (if O b then L.length + 1 else if g b ≤ L.length then g b else 0) = 0
    rw [if_neg e1, h3 b (Nat.le_trans hb.size hb')]
    rfl
  · obtain ⟨h4, h5⟩ := h2 b hb'
    have e1 : ¬ O b := fun e => by have := hO b e; omega
    refine ⟨Nat.lt_of_lt_of_le h4 hb.size, ?_⟩
    show (if O b then L.length + 1 else if g b ≤ L.length then g b else 0) = 0
    rw [if_neg e1, h5]; rfl
end

/-! ### a branch of the code's, a branch of the document's -/
/-- A branch of the code's. -/
def KB (w0 : World) (P : Nat) (S : BS) (room T : Nat) : Res := fun w O =>
  ∃ st qb qo pl tag Tq, CB w P w0.heap.size st qb qo pl tag S room (freeL S) Tq ∧ Tq ≤ 199 + T ∧ br.Good S room ∧ room ≤ 65536 ∧ HB S T ∧ ∀ b, O b ↔ tag b ≠ 0
section
variable {w0 w w' : World} {P D RS room T : Nat} {S S' : BS} {O X : Nat → Prop} {v : Value} {e : Ending}
theorem KB.stab : Stab w0 (KB w0 P S room T) where
  own := fun w O ⟨st, qb, qo, pl, tag, Tq, h1, _, _, _, _, h6⟩ b hb => ⟨h1.ge ((h6 b).1 hb), h1.lt ((h6 b).1 hb)⟩
  keep := fun w w' O ⟨st, qb, qo, pl, tag, Tq, h1, h2, h3, h4, h5, h6⟩ ho =>
    ⟨st, qb, qo, pl, tag, Tq, h1.only ho (fun b hb => Classical.byContradiction fun e => hb ((h6 b).2 e)), h2, h3, h4, h5, h6⟩
theorem KB.brx (h : KB w0 P S room T w O) (hb : Below w0.heap.size w0 w) : BrX w0 w P (fun b => b < w.heap.size ∧ ¬ O b) S room T := by
  obtain ⟨st, qb, qo, pl, tag, Tq, h1, h2, h3, h4, h5, h6⟩ := h
  exact ⟨st, qb, qo, pl, tag, Tq, h1, h2, h3, h4, h5, hb, fun b hb => ⟨hb.1, Classical.byContradiction fun e => hb.2 ((h6 b).2 e)⟩⟩
theorem KB.good (h : KB w0 P S room T w O) : br.Good S room := by obtain ⟨_, _, _, _, _, _, _, _, h3, _⟩ := h; exact h3
theorem KB.up {T' : Nat} (hT : T ≤ T') (h : KB w0 P S room T w O) : KB w0 P S room T' w O := by
  obtain ⟨st, qb, qo, pl, tag, Tq, h1, h2, h3, h4, h5, h6⟩ := h
  exact ⟨st, qb, qo, pl, tag, Tq, h1, by omega, h3, h4, h5.mono (by omega), h6⟩
theorem KB.next {st qb : Nat} {qo : Option Nat} {pl : Nat → Pl} {tag : Nat → Nat} {Tq : Nat} (h2 : Tq ≤ 199 + T) (h4 : room ≤ 65536) (h6 : ∀ b, O b ↔ tag b ≠ 0)
    (hx : RetG w P w0.heap.size st qb tag v S' room Tq e w') (hG : br.Good S' room) (hH : HB S' ((T : Int) + 1)) : e = .returned v ∧ NxR w w' (KB w0 P S' room (T + 1)) O := by
  obtain ⟨he, qo', pl', tag', T', hT, k1, k2⟩ := hx
  refine ⟨he, fun b => tag' b ≠ 0, ⟨st, qb, qo', pl', tag', T', k1, by omega, hG, h4, by simpa using hH, fun b => Iff.rfl⟩, fun b hb => ?_, owk k2.o fun b _ hb => (h6 b).2 hb⟩
  rcases Nat.lt_or_ge b w.heap.size with h7 | h7
  · exact .inl ((h6 b).2 (by rw [← k2.tg b h7]; exact hb))
  · exact .inr h7
theorem kb_make (h : KB w0 P S room T w O) (hT : T ≤ 1000) (d : Int) (s : ByteArray) (k : Int) (t : ByteArray) (hm : s.size ≤ 9223372036854775807) (hmt : t.size ≤ 9223372036854775807) :
    Calls Tryz.prog 29 #[Pq P, .int .i64 d, .string s, .int .i64 k, .string t] w (fun e w' => e = .returned (.tuple #[.int .i64 (S.make d s k t).1.1, .int .i64 (S.make d s k t).1.2]) ∧ NxR w w' (KB w0 P (S.make d s k t).2 room (T + 1)) O) := by
  obtain ⟨st, qb, qo, pl, tag, Tq, h1, h2, h3, h4, h5, h6⟩ := h
  exact (make_any h1 h3 (by omega) d s k t hm hmt).mono fun _ _ hx => KB.next (qo := qo) (pl := pl) h2 h4 h6 hx (h3.make d s k t) ((h5.make (by omega) d s k t).mono (by omega))
theorem kb_link (h : KB w0 P S room T w O) (hT : T ≤ 1000) (d : Int) (s : ByteArray) (i : Int) (hm : s.size ≤ 9223372036854775807) :
    Calls Tryz.prog 46 #[Pq P, .int .i64 d, .string s, .int .i64 i] w (fun e w' => e = .returned (.int .i64 (S.link d s i).1) ∧ NxR w w' (KB w0 P (S.link d s i).2 room (T + 1)) O) := by
  obtain ⟨st, qb, qo, pl, tag, Tq, h1, h2, h3, h4, h5, h6⟩ := h
  exact (link_any h1 h3 d s i hm).mono fun _ _ hx => KB.next (qo := qo) (pl := pl) h2 h4 h6 hx (h3.link d s i) ((h5.link d s i).mono (by omega))
theorem kb_unlink (h : KB w0 P S room T w O) (hT : T ≤ 1000) (d : Int) (s : ByteArray) :
    Calls Tryz.prog 31 #[Pq P, .int .i64 d, .string s] w (fun e w' => e = .returned (.int .i64 (S.unlink d s).1) ∧ NxR w w' (KB w0 P (S.unlink d s).2 room (T + 1)) O) := by
  obtain ⟨st, qb, qo, pl, tag, Tq, h1, h2, h3, h4, h5, h6⟩ := h
  exact (unlink_any h1 h3 h4 (by omega) d s).mono fun _ _ hx => KB.next (qo := qo) (pl := pl) h2 h4 h6 (RetG.of hx) (h3.unlink d s) ((h5.unlink (by omega) d s).mono (by omega))
theorem kb_rename (h : KB w0 P S room T w O) (hT : T ≤ 1000) (d : Int) (s : ByteArray) (t : Int) (u : ByteArray) (hm : u.size ≤ 9223372036854775807) :
    Calls Tryz.prog 48 #[Pq P, .int .i64 d, .string s, .int .i64 t, .string u] w (fun e w' => e = .returned (.int .i64 (S.rename d s t u).1) ∧ NxR w w' (KB w0 P (S.rename d s t u).2 room (T + 1)) O) := by
  obtain ⟨st, qb, qo, pl, tag, Tq, h1, h2, h3, h4, h5, h6⟩ := h
  exact (rename_any h1 h3 h4 (by omega) d s t u hm).mono fun _ _ hx => KB.next (qo := qo) (pl := pl) h2 h4 h6 hx (h3.rename d s t u) ((h5.rename (by omega) d s t u).mono (by omega))
theorem kb_mark (h : KB w0 P S room T w O) (hT : T ≤ 1000) (i m : Int) :
    Calls Tryz.prog 33 #[Pq P, .int .i64 i, .int .i64 m] w (fun e w' => e = .returned (.int .i64 (S.mark i m).1) ∧ NxR w w' (KB w0 P (S.mark i m).2 room (T + 1)) O) := by
  obtain ⟨st, qb, qo, pl, tag, Tq, h1, h2, h3, h4, h5, h6⟩ := h
  exact (mark_any h1 h3 i m).mono fun _ _ hx => KB.next (qo := qo) (pl := pl) h2 h4 h6 hx (h3.mark i m) ((h5.mark i m).mono (by omega))
/-- The place, the error, the branch behind a write. -/
abbrev Wz := Nat × Int × BS
theorem kb_write (h : KB w0 P S room T w O) (hX : ∀ b, X b → b < w.heap.size ∧ ¬ O b) (i off : Int) (A : Option Addr) (len dc : Nat) (f : Nat → UInt8) (hA : ∀ j, j < len → ∃ b o, A = some ⟨b, o, none⟩ ∧ X b ∧ w.cell? ⟨b, o + j, none⟩ = some (U8 (f j))) (hlc : len ≤ dc) (hdc : dc ≤ maxLen) :
    Calls Tryz.prog 35 #[Pq P, .int .i64 i, .int .i64 off, .slice A len dc] w (fun e w' => ∃ z : Wz, WrI S room i off len f z.1 z.2.1 z.2.2 ∧ e = .returned (.tuple #[.int .i64 (z.1 : Int), .int .i64 z.2.1]) ∧ NxR w w' (KB w0 P z.2.2 room (T + 1)) O) := by
  obtain ⟨st, qb, qo, pl, tag, Tq, h1, h2, h3, h4, h5, h6⟩ := h
  refine (write_any h1 h3 h4 i off A len dc f (fun j hj => ?_) hlc hdc).mono fun _ _ ⟨p, err, S', hw, hx⟩ => ⟨(p, err, S'), hw, KB.next (qo := qo) (pl := pl) h2 h4 h6 hx (Good_wr h3 hw) ?_⟩
  · obtain ⟨b, o, e, hb, hc⟩ := hA j hj
    exact ⟨b, o, e, fun hn => (hX b hb).2 ((h6 b).2 hn), (hX b hb).1, hc⟩
  · rcases hw with ⟨_, _, _, rfl⟩ | ⟨_, _, _, _, rfl⟩
    · exact h5.mono (by omega)
    · exact (h5.wrote i off p f).mono (by omega)
theorem KB.made {P : Nat} (h : BrX w0 w' P (fun b => b < w.heap.size) S room T) : ∃ O, KB w0 P S room T w' O ∧ ∀ b, O b → w.heap.size ≤ b := by
  obtain ⟨st, qb, qo, pl, tag, Tq, h1, h2, h3, h4, h5, _, h7⟩ := h
  exact ⟨fun b => tag b ≠ 0, ⟨st, qb, qo, pl, tag, Tq, h1, h2, h3, h4, h5, fun _ => Iff.rfl⟩, fun b hb => Nat.le_of_not_lt fun e => hb (h7 b e).2⟩
end
end Go.Proofs.YtnnaoldpacbagaaGreat.cb
end
section
namespace Go.Proofs.YtnnaoldpacbagaaGreat.fl
open Go.ChangeShapes Go.WideShapes Go.ChangeAt Go.RowKit
set_option linter.unusedVariables false
set_option linter.unusedSimpArgs false

structure Act6 where
  low : Bool
  kind : Int
  d : Int
  n : Int
  a : ByteArray
  b : ByteArray
instance : Inhabited Act6 := ⟨⟨false, 0, 0, 0, ⟨#[]⟩, ⟨#[]⟩⟩⟩
/-- In w the slice of n acts at A reads as F. -/
def Acts (w : World) (B : Nat) (A : Option Addr) (n : Nat) (F : Nat → Act6) : Prop := ∀ i, i < n → ∃ b off, A = some ⟨b, off, none⟩ ∧ b < B ∧
  w.cell? ⟨b, off + i * 6, none⟩ = some (.bool (F i).low) ∧
  w.cell? ⟨b, off + i * 6 + 1, none⟩ = some (.int .i64 (F i).kind) ∧
  w.cell? ⟨b, off + i * 6 + 2, none⟩ = some (.int .i64 (F i).d) ∧
  w.cell? ⟨b, off + i * 6 + 3, none⟩ = some (.int .i64 (F i).n) ∧
  w.cell? ⟨b, off + i * 6 + 4, none⟩ = some (.string (F i).a) ∧
  w.cell? ⟨b, off + i * 6 + 5, none⟩ = some (.string (F i).b) ∧ (F i).a.size ≤ maxLen ∧ (F i).b.size ≤ maxLen
theorem Acts.same {w w' : World} {B n : Nat} {A : Option Addr} {F : Nat → Act6} (h : Acts w B A n F) (hb : ∀ b, b < B → w'.heap[b]? = w.heap[b]?) : Acts w' B A n F := fun i hi => by
  obtain ⟨b, off, e, hB, h0, h1, h2, h3, h4, h5, h7, h8⟩ := h i hi
  exact ⟨b, off, e, hB, (World.cell?_of_block (a := ⟨b, off + i * 6, none⟩) (hb b hB)).trans h0, (World.cell?_of_block (a := ⟨b, off + i * 6 + 1, none⟩) (hb b hB)).trans h1, (World.cell?_of_block (a := ⟨b, off + i * 6 + 2, none⟩) (hb b hB)).trans h2, (World.cell?_of_block (a := ⟨b, off + i * 6 + 3, none⟩) (hb b hB)).trans h3, (World.cell?_of_block (a := ⟨b, off + i * 6 + 4, none⟩) (hb b hB)).trans h4, (World.cell?_of_block (a := ⟨b, off + i * 6 + 5, none⟩) (hb b hB)).trans h5, h7, h8⟩
set_option maxRecDepth 100000 in
theorem open_acts {H : Type} {enc : TypeId × Value → H} {W : World} {r : Reach} {b0 : Nat} {sp : Nat → Bool} {held : Bool} {v : Value} {d : DataW H} {p : List MemPlace}
    (hv : Value.okWide Tryz.prog W r b0 57 v) (h : DataW.Trod enc Tryz.prog W 0 sp held 57 v d p) :
    ∃ A n c F, v = .slice A n c ∧ (n ≤ c ∧ c ≤ maxLen) ∧ Acts W W.heap.size A n F := by
  obtain ⟨fuel, hf⟩ := h
  have hcells : v.cells.toList = [v] := by
    obtain ⟨A, n, c, rfl⟩ := okWide_slice Tryz.underlying57 hv
    rfl
  rw [hcells] at hf
  rcases cb.open_slice_fields Tryz.underlying57 Tryz.underlying63 (by kernel_rfl) (by kernel_rfl) hf with e | ⟨a, len, cap, m, e, hl, hm, hlm, hi⟩
  · injection e with e
    subst e
    exact ⟨none, 0, 0, fun _ => default, rfl, ⟨Nat.le_refl _, by unfold maxLen; omega⟩, fun i hi => absurd hi (Nat.not_lt_zero _)⟩
  · injection e with e
    subst e
    have hall : ∀ i, ∃ x : Act6, i < len → ∃ b off, (some a : Option Addr) = some ⟨b, off, none⟩ ∧ b < W.heap.size ∧
        W.cell? ⟨b, off + i * 6, none⟩ = some (.bool x.low) ∧
  W.cell? ⟨b, off + i * 6 + 1, none⟩ = some (.int .i64 x.kind) ∧
  W.cell? ⟨b, off + i * 6 + 2, none⟩ = some (.int .i64 x.d) ∧
  W.cell? ⟨b, off + i * 6 + 3, none⟩ = some (.int .i64 x.n) ∧
  W.cell? ⟨b, off + i * 6 + 4, none⟩ = some (.string x.a) ∧
  W.cell? ⟨b, off + i * 6 + 5, none⟩ = some (.string x.b) ∧ x.a.size ≤ maxLen ∧ x.b.size ≤ maxLen := by
      intro i
      by_cases hil : i < len
      · obtain ⟨n0, hj0⟩ := hi 0 (by omega)
        obtain ⟨_, _, c00, _⟩ := hj0 0 _ rfl
        obtain ⟨b, off, rfl, hb⟩ := cb.spot_none (by simpa using c00)
        obtain ⟨n, hj⟩ := hi i (by omega)
        obtain ⟨v0, y0, c0, t0⟩ := hj 0 _ rfl
        obtain ⟨v1, y1, c1, t1⟩ := hj 1 _ rfl
        obtain ⟨v2, y2, c2, t2⟩ := hj 2 _ rfl
        obtain ⟨v3, y3, c3, t3⟩ := hj 3 _ rfl
        obtain ⟨v4, y4, c4, t4⟩ := hj 4 _ rfl
        obtain ⟨v5, y5, c5, t5⟩ := hj 5 _ rfl
        obtain ⟨z0, e0, _⟩ := DataW.trod_bool Tryz.underlying4 t0
        obtain ⟨z1, e1, _⟩ := DataW.trod_int Tryz.underlying3 t1
        obtain ⟨z2, e2, _⟩ := DataW.trod_int Tryz.underlying3 t2
        obtain ⟨z3, e3, _⟩ := DataW.trod_int Tryz.underlying3 t3
        obtain ⟨z4, e4, _, hz4⟩ := DataW.trod_string Tryz.underlying9 t4
        obtain ⟨z5, e5, _, hz5⟩ := DataW.trod_string Tryz.underlying9 t5
        injection e0 with e0
        subst e0
        injection e1 with e1
        subst e1
        injection e2 with e2
        subst e2
        injection e3 with e3
        subst e3
        injection e4 with e4
        subst e4
        injection e5 with e5
        subst e5
        rw [Go.WideShapes.add_plain] at c0 c1 c2 c3 c4 c5
        exact ⟨⟨z0, z1, z2, z3, z4, z5⟩, fun _ => ⟨b, off, rfl, hb, by simpa using c0, by simpa [Nat.add_assoc] using c1, by simpa [Nat.add_assoc] using c2, by simpa [Nat.add_assoc] using c3, by simpa [Nat.add_assoc] using c4, by simpa [Nat.add_assoc] using c5, hz4, hz5⟩⟩
      · exact ⟨default, fun h => absurd h hil⟩
    obtain ⟨F, hF⟩ := Classical.axiomOfChoice hall
    exact ⟨some a, len, cap, F, rfl, ⟨hl, hm⟩, hF⟩
set_option maxRecDepth 100000 in
/-- An argument reads as it did, in any later world that is the same below the heap's first end. -/
theorem acts_stay {H : Type} {enc : TypeId × Value → H} {W W' : World} {v : Value} {d : DataW H} {ps before : List MemPlace} {sp : Nat → Bool}
    (h : DataW.Trod enc Tryz.prog W 0 (fun _ => true) true 57 v d ps) (hb : Below W.heap.size W W') (hsub : ∀ x ∈ ps, x ∈ before) (hlt : ∀ x ∈ before, x.block < W.heap.size) (hsp : ∀ x ∈ before, sp x.block = true) (hlaid : laidOutB Tryz.prog = true) :
    DataW.Trod enc Tryz.prog W' 0 sp true 57 v d ps :=
  WideElems.Trod_stays hlaid (by kernel_rfl) (of_decide_eq_true (by kernel_rfl)) h (fun x hx => hb.same (hlt x (hsub x hx))) (fun x hx => hsp x (hsub x hx))
end Go.Proofs.YtnnaoldpacbagaaGreat.fl
end
section
namespace Go.Proofs.YtnnaoldpacbagaaGreat.fl
open Go.RowKit
open Go.Proofs.YtnnaoldpacbagaaGreat.br (BS Ino Inv Tree fresh)
open Go.Proofs.YtnnaoldpacbagaaGreat.cb (BrX RetW RetI No KB NxR)
open Go.Proofs.YtnnaoldpacbagaaGreat.bl (Pq)
set_option linter.unusedVariables false
set_option linter.unusedSimpArgs false

/-- Both branches, of whatever states. -/
def Q2 (w0 w : World) (P1 P2 T : Nat) (X : Nat → Prop) : Prop := ∃ U L, cb.Sys w0 w [KB w0 P1 U 500 T, KB w0 P2 L 500 T] X
section
variable {w0 w w' : World} {P1 P2 T T' : Nat} {X Y : Nat → Prop}
theorem Q2.bel (h : Q2 w0 w P1 P2 T X) : Below w0.heap.size w0 w := by obtain ⟨_, _, h⟩ := h; exact cb.Sys.bel h
theorem Q2.sub (h : Q2 w0 w P1 P2 T X) (hY : ∀ b, Y b → X b) : Q2 w0 w P1 P2 T Y := by obtain ⟨U, L, h⟩ := h; exact ⟨U, L, cb.Sys.sub h hY⟩
theorem Q2.box (h : Q2 w0 w P1 P2 T X) (hb : Below w.heap.size w w') (hY : ∀ b, Y b → X b ∨ (w.heap.size ≤ b ∧ b < w'.heap.size)) : Q2 w0 w' P1 P2 T Y := by obtain ⟨U, L, h⟩ := h; exact ⟨U, L, cb.Sys.box h hb hY⟩
theorem Q2.below (h : Q2 w0 w P1 P2 T X) (hb : Below w.heap.size w w') : Q2 w0 w' P1 P2 T X := by obtain ⟨U, L, h⟩ := h; exact ⟨U, L, cb.Sys.below h hb⟩
theorem Q2.lt (h : Q2 w0 w P1 P2 T X) {b : Nat} (hb : X b) : b < w.heap.size := by obtain ⟨U, L, h⟩ := h; exact cb.Sys.lt h hb
theorem Q2.up (h : Q2 w0 w P1 P2 T X) (hT : T ≤ T') : Q2 w0 w P1 P2 T' X := by
  obtain ⟨U, L, h⟩ := h
  have h1 : cb.Sys w0 w [KB w0 P1 U 500 T', KB w0 P2 L 500 T] X := h.weak (i := 0) (r := KB w0 P1 U 500 T) rfl KB.stab fun O k => k.up hT
  exact ⟨U, L, h1.weak (i := 1) (r := KB w0 P2 L 500 T) rfl KB.stab fun O k => k.up hT⟩
theorem Q2.brx (h : Q2 w0 w P1 P2 T X) : ∃ U L, BrX w0 w P1 No U 500 T ∧ BrX w0 w P2 No L 500 T := by
  obtain ⟨U, L, h⟩ := h
  exact ⟨U, L, cb.Sys.ask h (i := 0) rfl fun O k => (KB.brx k (cb.Sys.bel h)).forget, cb.Sys.ask h (i := 1) rfl fun O k => (KB.brx k (cb.Sys.bel h)).forget⟩
/-- What a call on one of the two leaves. -/
def QE (w0 w : World) (P1 P2 T : Nat) (X : Nat → Prop) (e : Ending) (w' : World) : Prop := ∃ v, e = .returned v ∧ Q2 w0 w' P1 P2 T X ∧ dn.Same X w w'
theorem Q2.call {f : Nat} (args : Nat → Array Value) (h : Q2 w0 w P1 P2 T X)
    (hc : ∀ (P : Nat) (S : BS), ∃ S' v, ∀ O, (KB w0 P S 500 T) w O → Calls Tryz.prog f (args P) w (fun e w' => e = .returned v ∧ NxR w w' (KB w0 P S' 500 (T + 1)) O)) (low : Bool) :
    Calls Tryz.prog f (args (if low = true then P2 else P1)) w (QE w0 w P1 P2 (T + 1) X) := by
  obtain ⟨U, L, h⟩ := h
  cases low with
  | false =>
    rw [if_neg (by decide)]
    obtain ⟨S', v, hS⟩ := hc P1 U
    refine (cb.Sys.call h (i := 0) rfl KB.stab hS).mono fun e w' ⟨he, hx, hs⟩ => ⟨v, he, ?_, hs⟩
    have hx' : cb.Sys w0 w' [KB w0 P1 S' 500 (T + 1), KB w0 P2 L 500 T] X := hx
    exact ⟨S', L, hx'.weak (i := 1) (r := KB w0 P2 L 500 T) rfl KB.stab fun O k => k.up (Nat.le_succ _)⟩
  | true =>
    rw [if_pos rfl]
    obtain ⟨S', v, hS⟩ := hc P2 L
    refine (cb.Sys.call h (i := 1) rfl KB.stab hS).mono fun e w' ⟨he, hx, hs⟩ => ⟨v, he, ?_, hs⟩
    have hx' : cb.Sys w0 w' [KB w0 P1 U 500 T, KB w0 P2 S' 500 (T + 1)] X := hx
    exact ⟨U, S', hx'.weak (i := 0) (r := KB w0 P1 U 500 T) rfl KB.stab fun O k => k.up (Nat.le_succ _)⟩
theorem Q2.make (h : Q2 w0 w P1 P2 T X) (hT : T ≤ 1000) (d : Int) (s : ByteArray) (k : Int) (t : ByteArray) (hm : s.size ≤ 9223372036854775807) (hmt : t.size ≤ 9223372036854775807) (low : Bool) :
    Calls Tryz.prog 29 #[Pq (if low = true then P2 else P1), .int .i64 d, .string s, .int .i64 k, .string t] w (QE w0 w P1 P2 (T + 1) X) :=
  h.call (fun P => #[Pq P, .int .i64 d, .string s, .int .i64 k, .string t]) (fun P S => ⟨_, _, fun O k' => cb.kb_make k' hT d s k t hm hmt⟩) low
theorem Q2.unlink (h : Q2 w0 w P1 P2 T X) (hT : T ≤ 1000) (d : Int) (s : ByteArray) (low : Bool) :
    Calls Tryz.prog 31 #[Pq (if low = true then P2 else P1), .int .i64 d, .string s] w (QE w0 w P1 P2 (T + 1) X) :=
  h.call (fun P => #[Pq P, .int .i64 d, .string s]) (fun P S => ⟨_, _, fun O k' => cb.kb_unlink k' hT d s⟩) low
theorem Q2.mark (h : Q2 w0 w P1 P2 T X) (hT : T ≤ 1000) (i m : Int) (low : Bool) :
    Calls Tryz.prog 33 #[Pq (if low = true then P2 else P1), .int .i64 i, .int .i64 m] w (QE w0 w P1 P2 (T + 1) X) :=
  h.call (fun P => #[Pq P, .int .i64 i, .int .i64 m]) (fun P S => ⟨_, _, fun O k' => cb.kb_mark k' hT i m⟩) low
theorem Q2.news {w2 w3 : World} (h1 : BrX w w2 P1 (fun b => b < w.heap.size) fresh 500 0) (h2 : BrX w w3 P2 (fun b => b < w2.heap.size) fresh 500 0) (hb1 : Below w.heap.size w w2) (hb2 : Below w2.heap.size w2 w3) :
    Q2 w w3 P1 P2 0 (fun b => b < w.heap.size) := by
  have h0 : cb.Sys w w [] (fun b => b < w.heap.size) := cb.Sys.nil (Below.refl _ _)
  obtain ⟨O1, k1, o1⟩ := KB.made h1
  have s1 : cb.Sys w w2 [KB w P1 fresh 500 0] (fun b => b < w.heap.size) := cb.Sys.add h0 hb1 KB.stab k1 o1
  obtain ⟨O2, k2, o2⟩ := KB.made h2
  exact ⟨fresh, fresh, cb.Sys.add s1 hb2 KB.stab k2 o2⟩
end
end Go.Proofs.YtnnaoldpacbagaaGreat.fl
end
