/- Slices of bytes that the call itself made: appended to one another, and turned into a text; and what the law PathUp gathers. -/
import Derived.Test.YtlaceeiodlpmdaaConcat
import Derived.Lib.AppendStr
import Derived.Lib.BufferRead
import Derived.Laws.IdiomStrings
namespace Go.Proofs.Ytlaceeiodlpmdaa
open Go.RowKit

def bcells (l : Bs) : List Value := l.map fun b => Value.int .u8 b.toNat
theorem bcells_len (l : Bs) : (bcells l).length = l.length := List.length_map _
theorem bcells_app (a b : Bs) : bcells (a ++ b) = bcells a ++ bcells b := List.map_append

/-- A slice value of the call's own, from block B on, that holds the bytes l. -/
def Bown (w : World) (B : Nat) (v : Value) (l : Bs) : Prop := w.ownsRow B 5 1 v l.length (bcells l)

theorem Bown.lit (w : World) (B : Nat) (hB : B ≤ w.heap.size) : Bown (w.alloc (.cells #[] 5)) B (.slice (some ⟨w.heap.size, 0, none⟩) 0 0) [] :=
  World.ownsRow_lit w #[] 0 hB (by unfold maxLen; omega) (by simp)

theorem row_string {w : World} {B : Nat} {v : Value} {l : Bs} (h : Bown w B v l) : (convert 41 9 v).run Try.prog w = .ok (.string ⟨l.toArray⟩) w := by
  rcases h.2 with ⟨rfl, h0⟩ | ⟨g, cap, cur, rfl, _, hg, _, _, _, htk⟩
  · have : l = [] := List.eq_nil_of_length_eq_zero h0
    subst this
    exact Lib.run_convert_nil_bytes w 41 9 5 0 Try.underlying41 Try.underlying5 Try.underlying9
  · refine run_convert_bytes_back w 41 9 5 ⟨g, 0, none⟩ cap l Try.underlying41 Try.underlying5 Try.underlying9 ?_
    refine Lib.bytes_of_row hg ?_
    rw [Nat.mul_one] at htk
    exact htk

/-- An append of such a slice onto another. -/
theorem wpList_append_row {ops : Array Oper} {rest : List Oper} {o : Oper} {a : Act} {Q : Exit → Act → World → Prop} (w : World) (hgd : o.guard = none) (s x : Operand)
    (ho : o.op = .call { callee := .builtin .append, args := #[s, x], argTypes := #[41, 41] }) (base : Nat) (v : Value) (xs : Bs) (hs : a.eval s = v) (hown : Bown w base v xs)
    (B : Nat) (u : Value) (ys : Bs) (hx : a.eval x = u) (hr : Bown w B u ys) (hlen : xs.length + ys.length ≤ 65536) (hbase : base ≤ w.heap.size)
    (h : ∀ v' w', Bown w' base v' (xs ++ ys) → w.grownBy w' v.ownBlock → wpList Try.prog ops Q rest (a.put o.dst v') w') : wpList Try.prog ops Q (o :: rest) a w := by
  obtain ⟨i0, hi, hz0, hz1, hz2⟩ := info_parts info5
  rcases hr.2 with ⟨rfl, h0⟩ | ⟨g, cap, cur, rfl, _, hg, _⟩
  · have hy : ys = [] := List.eq_nil_of_length_eq_zero h0
    subst hy
    refine Lib.wpList_append_run w hgd s x 41 41 ho v _ hs hx v w (run_append_nil w base 41 o.type 5 i0 1 Try.underlying41 hi v _ _ hown 0) ?_
    exact h v w (by simpa using hown) (World.grownBy.refl w _)
  · refine wpList_append_own w hgd s x 41 ho base 5 i0 _ 1 1 Try.underlying41 hi hz0 hz1 hz2 rfl (by decide) v xs.length (bcells xs) hs hown ⟨g, 0, none⟩ ys.length cap (bcells ys) hx (by rw [bcells_len]; omega) (World.ownsRow.cells hr rfl) ?_ (by unfold maxLen; omega) (by omega) hbase ?_
    · intro u hu
      simp [bcells] at hu
      obtain ⟨_, _, rfl⟩ := hu
      rfl
    · intro v' w' h1 h2 _
      refine h v' w' ?_ h2
      unfold Bown
      rw [List.length_append, bcells_app]
      exact h1

/-- What the law gathers: the pieces between slashes, but for those that are one dot. -/
def keepP (p : Bs) : Bs := if p = [46] then [] else p
def wantA : Bs → Bs → Bs
  | p, [] => keepP p
  | p, c :: r => if c = 47 then keepP p ++ wantA [] r else wantA (p ++ [c]) r
theorem wantA_slash (p r : Bs) : wantA p (47 :: r) = keepP p ++ wantA [] r := by simp [wantA]
theorem wantA_other (p r : Bs) (c : UInt8) (h : c ≠ 47) : wantA p (c :: r) = wantA (p ++ [c]) r := by simp [wantA, h]
theorem gath_one (p : Bs) : (gath (one p)).flatten = keepP p := by
  unfold one gath keepP
  by_cases h0 : p = []
  · subst h0; rfl
  · by_cases h : p = [46]
    · subst h; decide
    · have : p.isEmpty = false := by cases p <;> simp_all
      simp [this, h]
theorem wantA_eq (l p : Bs) : wantA p l = (gath (compsA p l)).flatten := by
  induction l generalizing p with
  | nil => rw [compsA_nil, gath_one]; rfl
  | cons c l ih =>
    by_cases h : c = 47
    · subst h
      rw [wantA_slash, compsA_slash, ih]
      unfold gath
      rw [List.filter_append, List.flatten_append]
      have := gath_one p
      unfold gath at this
      rw [this]
      rfl
    · rw [wantA_other _ _ _ h, compsA_other _ _ _ h, ih]
theorem want_nms (l : Bs) : wantA [] l = (nms l).flatten := wantA_eq l []
theorem flat_take (xs : List Bs) (k : Nat) (x : Bs) (h : xs[k]? = some x) : (xs.take (k + 1)).flatten = (xs.take k).flatten ++ x := by
  obtain ⟨hk, rfl⟩ := List.getElem?_eq_some_iff.1 h
  rw [List.take_succ_eq_append_getElem hk, List.flatten_append]
  simp
theorem flat_len (xs : List Bs) : xs.flatten.length = (xs.map List.length).sum := List.length_flatten
theorem strCells_b (x : Bs) : Lib.strCells ⟨x.toArray⟩ = bcells x := by
  unfold Lib.strCells bcells
  simp
end Go.Proofs.Ytlaceeiodlpmdaa
