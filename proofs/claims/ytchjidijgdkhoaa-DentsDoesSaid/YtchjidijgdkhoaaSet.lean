/- 'New', 'Set' of a directory. -/
import Derived.Test.YtchjidijgdkhoaaInsG
import Derived.Test.YtchjidijgdkhoaaName
namespace Go.Proofs.Ytchjidijgdkhoaa
open Go.RowKit Go.Shelf
set_option linter.unusedVariables false

/-- What may have turned: the directory's own box, its row. -/
structure Fr (w w' : World) (Q : Nat) (o : Option Nat) : Prop where
  os : w'.os = w.os
  tape : w'.tape = w.tape
  output : w'.output = w.output
  size : w.heap.size ≤ w'.heap.size
  block : ∀ k, k < w.heap.size → k ≠ Q → o ≠ some k → w'.heap[k]? = w.heap[k]?
theorem Fr.refl (w : World) (Q : Nat) (o : Option Nat) : Fr w w Q o := ⟨rfl, rfl, rfl, Nat.le_refl _, fun _ _ _ _ => rfl⟩
theorem Fr.grown {w w' : World} {Q : Nat} {o : Option Nat} (h : w.grownBy w' o) : Fr w w' Q o := ⟨h.os, h.tape, h.output, h.size, fun k hk _ ho => h.block k hk (fun e => ho e.symm)⟩
theorem Fr.setQ (w : World) (Q : Nat) (o : Option Nat) (v : Value) : Fr w (w.setCell ⟨Q, 0, none⟩ v) Q o :=
  ⟨rfl, rfl, rfl, by simp [World.setCell], fun k _ hQ _ => by rw [Below.heap_setCell _ _ _ _ (fun e => hQ e)]⟩
theorem Fr.trans {w w1 w2 : World} {Q : Nat} {o o1 : Option Nat} (h : Fr w w1 Q o) (h' : Fr w1 w2 Q o1) (ho : ∀ k, o1 = some k → o = some k ∨ w.heap.size ≤ k) : Fr w w2 Q o :=
  ⟨h'.os.trans h.os, h'.tape.trans h.tape, h'.output.trans h.output, Nat.le_trans h.size h'.size, fun k hk hQ hk2 =>
    (h'.block k (Nat.lt_of_lt_of_le hk h.size) hQ (fun e => by rcases ho k e with e | e; exact hk2 e; omega)).trans (h.block k hk hQ hk2)⟩
theorem Fr.below {w w' : World} {Q : Nat} {o : Option Nat} (h : Below w.heap.size w w') : Fr w w' Q o := ⟨h.os, h.tape, h.output, h.size, fun k hk _ _ => h.block k hk⟩
/-- Behind a call that may have turned the directory. -/
def StepE (w : World) (D lo : Nat) (o : Option Nat) (v : Value) (L : List En) (e : Ending) (w' : World) : Prop :=
  e = .returned v ∧ ∃ o' c', Du w' D lo o' c' L ∧ (∀ G, o' = some G → o = some G ∨ w.heap.size ≤ G) ∧ Fr w w' D o
theorem stepE_same {w w' : World} {D lo c : Nat} {o : Option Nat} {v : Value} {L : List En} (h : Du w D lo o c L) (hb : Below w.heap.size w w') : StepE w D lo o v L (.returned v) w' :=
  ⟨rfl, o, c, h.below hb, fun G e => .inl e, Fr.below hb⟩

set_option maxHeartbeats 1000000 in
theorem new_any (w : World) (lo : Nat) (hlo : lo ≤ w.heap.size) : Calls Try.prog 9 #[] w (fun e w' => e = .returned (Pq w.heap.size) ∧ Du w' w.heap.size lo none 0 [] ∧ Below w.heap.size w w') := by
  have HQ := Lib.hid (show Du (w.alloc (.cells #[.slice none 0 0] 53)) w.heap.size lo none 0 [] from ⟨by simp, by simp, ⟨rfl, rfl⟩⟩)
  go_enter Try.func9, Try.ntmps9
  go_wp2_with fail
  go_ret
  exact ⟨rfl, HQ.out, below_alloc _ _⟩

def dotB (s : ByteArray) : Bool := s.toList == [46] || s.toList == [46, 46]
def serr (s : ByteArray) (v : Int) : Int := if nerr s.data.toList ≠ 0 then nerr s.data.toList else if dotB s = true ∨ v < 1 then 22 else 0
def lsetE (s : ByteArray) (v : Int) (L : List En) : List En := if serr s v = 0 then lset s v L else L

theorem ERow.setNum {w : World} {G c : Nat} {L : List En} {i : Nat} {x : En} (h : ERow w G c L) (hx : L[i]? = some x) (v : Int) : ERow (w.setCell ⟨G, i * 2 + 1, none⟩ (.int .i64 v)) G c (L.set i (x.1, v)) := by
  have hi : i < L.length := (List.getElem?_eq_some_iff.1 hx).1
  have h1 := h.1
  refine ERow.sets (vs := [.int .i64 v]) (o := i * 2 + 1) h (by simp; omega) (by intro v hv; simp at hv; subst hv; rfl) (by simpa using h1) fun X hl ht => ?_
  rw [List.length_set]
  have hxs : L[i] = x := by rw [List.getElem?_eq_getElem hi] at hx; simpa using hx
  rw [List.set_eq_take_append_cons_drop, if_pos hi, show L.take i ++ (x.1, v) :: L.drop (i + 1) = L.take i ++ [(x.1, v)] ++ L.drop (i + 1) by simp, encL_append, encL_append, ← encL_take, ← encL_drop, ← ht]
  have hXi : X[i * 2]? = some (.string x.1) := by
    have := (encL_at hx).1
    rw [← ht, List.getElem?_take_of_lt (by omega)] at this
    exact this
  have hX2 : i * 2 < X.length := by omega
  rw [List.take_take, Nat.min_eq_left (by omega)]
  apply List.ext_getElem?
  intro j
  simp only [List.getElem?_take, List.getElem?_append, List.length_take, List.length_append, List.getElem?_drop, List.length_cons, List.length_nil, encL_single, hl]
  by_cases h1 : j < i * 2
  · rw [if_pos (show j < L.length * 2 by omega), if_pos (by omega), if_pos (by omega), if_pos (by omega), if_pos (by omega), if_pos (by omega), if_pos (by omega)]
  · by_cases h2 : j = i * 2
    · subst h2
      rw [if_pos (show i * 2 < L.length * 2 by omega), if_pos (by omega), if_pos (by omega), if_pos (by omega), if_pos (by omega), if_neg (by omega), hXi]
      rw [show i * 2 - min (i * 2) (c * 2) = 0 by omega]; rfl
    · by_cases h3 : j = i * 2 + 1
      · subst h3
        rw [if_pos (show i * 2 + 1 < L.length * 2 by omega), if_pos (by omega), if_neg (by omega), if_pos (by omega), if_neg (by omega)]
        rw [show i * 2 + 1 - min (i * 2 + 1) (c * 2) = 0 by omega, show i * 2 + 1 - min (i * 2) (c * 2) = 1 by omega]; rfl
      · by_cases h4 : j < L.length * 2
        · rw [if_pos h4, if_neg (by omega), if_neg (by omega)]
          rw [if_pos (by omega)]
          congr 1
          omega
        · rw [if_neg h4, if_neg (by omega)]
          rw [if_neg (by omega)]
end Go.Proofs.Ytchjidijgdkhoaa
