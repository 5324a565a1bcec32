/- A range over a map from which the round deletes what it meets. -/
import Derived.Test.YtldleojipogcmaaNu
namespace Go.Proofs.Ytldleojipogcmaa.fl
open Go.RowKit
open Go.Maps (Keyed IsMap int_keyed keyOf_int_mk has_put_same has_put_other has_del_same has_del_other atKey_del_other)
set_option linter.unusedVariables false
set_option linter.unusedSimpArgs false

/-- A range under way over the map in block M, iterator r: what is in the map, which keys are still to come. -/
def MapL (w : World) (M r n : Nat) (f : Int → Option Value) (left : Int → Bool) (cnt : Nat) : Prop :=
  ∃ (D : DataW Value) (lf : Lit → Bool), w.ranges Try.prog 3 RV M r n D lf cnt ∧ IsMap D ∧ (∀ a, Maps.has D (.int .i64 a) = (f a).isSome) ∧ (∀ a v zd, f a = some v → D.atKey (.int .i64 a) zd = .held v) ∧ (∀ a, lf (.int .i64 a) = left a)
section
variable {w w' : World} {M r n cnt : Nat} {f : Int → Option Value} {left : Int → Bool}
theorem MapL.kept (h : MapL w M r n f left cnt) {row : Option Nat} (hg : w.grownBy w' row) (h1 : some M ≠ row) (h2 : some r ≠ row) : MapL w' M r n f left cnt := by
  obtain ⟨D, lf, h0, h3, h4, h5, h6⟩ := h
  exact ⟨D, lf, h0.kept hg h1 h2, h3, h4, h5, h6⟩
theorem MapL.mapV (h : MapL w M r n f left cnt) : ∃ S, MapV w M n S f := by
  obtain ⟨D, lf, h0, h3, h4, h5, h6⟩ := h
  exact ⟨_, D, h0.owns, h3, h4, h5, rfl⟩
theorem MapL.lt (h : MapL w M r n f left cnt) : r < w.heap.size := by obtain ⟨D, lf, h0, _⟩ := h; exact h0.lt
theorem MapL.drop {t e : TypeId} (h : MapL w M r n f left cnt) (ht : Try.prog.underlying t = some (.map 3 e)) {a : Int} (ha : Wf a) (ty : TypeId) :
    ∃ w' cnt', (Builtin.delete_ #[t, 3] ty #[.map (some M), .int .i64 a]).run Try.prog w = .ok (.tuple #[]) w' ∧ MapL w' M r n (uno f a) (fun x => left x && !decide (x = a)) cnt' ∧ cnt' ≤ cnt ∧ w.grownBy w' (some M) := by
  obtain ⟨D, lf, h0, h3, h4, h5, h6⟩ := h
  obtain ⟨w', cnt', hrun, hr, hle, hmt⟩ := h0.drop (int_keyed k3) ht (keyOf_int_mk k3 ha) ty
  refine ⟨w', cnt', hrun, ⟨_, _, hr, h3.del _, fun x => ?_, fun x v zd hx => ?_, fun x => ?_⟩, hle, hmt.grown⟩
  · unfold uno
    by_cases e : x = a
    · subst e; rw [if_pos rfl, has_del_same]; rfl
    · rw [if_neg e, has_del_other (fun h => e (by injection h)), h4]
  · unfold uno at hx
    by_cases e : x = a
    · subst e; rw [if_pos rfl] at hx; cases hx
    · rw [if_neg e] at hx
      rw [atKey_del_other (fun h => e (by injection h))]
      exact h5 x v zd hx
  · show (lf (.int .i64 x) && !(Lit.int .i64 x).sameKey (.int .i64 a)) = _
    rw [h6]
    by_cases e : x = a <;> simp [Lit.sameKey, e]
end
section
variable {ops : Array Oper} {rest : List Oper} {o : Oper} {a : Act} {Q : Exit → Act → World → Prop}
theorem list_rangeL (w : World) (hg : o.guard = none) (m : Operand) (t e : TypeId) (hop : o.op = Op.range t m) (ht : Try.prog.underlying t = some (.map 3 e)) (M n S : Nat) (f : Int → Option Value) (hm : a.eval m = .map (some M)) (r : Nat) (hr : w.heap.size = r) (h : MapV w M n S f)
    (hK : ∀ w' cnt, MapL w' M r n f (fun x => (f x).isSome) cnt → Below w.heap.size w w' → w'.heap.size = r + 1 → wpList Try.prog ops Q rest (a.put o.dst (.pointer (some ⟨r, 0, none⟩))) w') : wpList Try.prog ops Q (o :: rest) a w := by
  subst hr
  obtain ⟨D, h1, h2, h3, h4, h5⟩ := h
  exact wpList_range_own w hg m t hop 3 e (int_keyed k3) ht RV M n D hm h1 fun w' hr hg hs => hK w' _ ⟨D, _, hr, h2, h3, h4, h3⟩ ⟨hg.os, hg.tape, hg.output, hg.size, fun k hk => hg.block k hk (by simp)⟩ hs
theorem list_nextL (w : World) (hg : o.guard = none) (it : Operand) (hop : o.op = Op.next it false) (M r n cnt : Nat) (f : Int → Option Value) (left : Int → Bool) (hit : a.eval it = .pointer (some ⟨r, 0, none⟩)) (h : MapL w M r n f left cnt)
    (hDone : (∀ x, left x = false) → wpList Try.prog ops Q rest (a.put o.dst (.tuple #[.bool false])) w)
    (hMore : ∀ (x : Int) (v : Value) (w' : World) (cnt' : Nat), f x = some v → left x = true → Wf x → MapL w' M r n f (fun y => left y && !decide (y = x)) cnt' → cnt' < cnt → w.grownBy w' (some r) → w'.heap.size = w.heap.size → (Instr.entry (.pointer (some ⟨r, 0, none⟩))).run Try.prog w' = .ok (.tuple #[.int .i64 x, v]) w' →
      wpList Try.prog ops Q rest (a.put o.dst (.tuple #[.bool true, .int .i64 x, v])) w') : wpList Try.prog ops Q (o :: rest) a w := by
  obtain ⟨D, lf, h0, h3, h4, h5, h6⟩ := h
  refine wpList_next_ranges w hg it hop 3 (int_keyed k3) RV (Value.int .i64) (fun v : Value => v) (fun key kl hkey => by obtain ⟨x, rfl, _⟩ := Maps.keyOf_int_inv k3 hkey; exact ⟨x, rfl⟩) (fun v y _ => ⟨v, rfl⟩)
    M r n D lf cnt hit h0 (fun _ hl => hDone fun x => by rw [← h6]; exact hl _) (fun x c kl y w' cnt' hkey hlk hv hat hrg hlt hgr hsz hen => ?_)
  obtain ⟨x', ex, rfl, hwx⟩ := Maps.keyOf_int_inv k3 hkey
  cases ex
  have hhas : (f x).isSome = true := by rw [← h4]; exact Maps.has_true_of_atKey hat
  cases hf : f x with
  | none => rw [hf] at hhas; cases hhas
  | some v =>
    have e1 := h5 x v (.held v) hf
    rw [hat] at e1
    unfold RV at hv
    injection hv with hv
    rw [← hv] at e1
    injection e1 with e1
    subst e1
    refine hMore x c w' cnt' hf (by rw [← h6]; exact hlk) hwx ⟨D, _, hrg, h3, h4, h5, fun y => ?_⟩ hlt hgr hsz hen
    show (lf (.int .i64 y) && !(Lit.int .i64 y).sameKey (.int .i64 x)) = _
    rw [h6]
    by_cases e : y = x <;> simp [Lit.sameKey, e]
end
def ldF (g : Int → Option (Int × List Int)) : Int → Option Value := fun a => (g a).map fun p => .int .i64 p.1
theorem ldF_new {s : Fs} {k who : Int} (hf : s.fl k = none) : ups (ldF s.fl) k (.int .i64 who) = ldF (s.come k who).fl := by
  have hfl : (s.come k who).fl = upf s.fl k (some (who, [])) := by unfold Fs.come; rw [hf]; rfl
  rw [hfl]; funext x; unfold ups ldF upf; by_cases e : x = k <;> simp [e]
theorem ldF_more {s : Fs} {k who l : Int} {xs : List Int} (hf : s.fl k = some (l, xs)) : ldF (s.come k who).fl = ldF s.fl := by
  have hfl : (s.come k who).fl = upf s.fl k (some (l, xs ++ [who])) := by unfold Fs.come; rw [hf]; rfl
  rw [hfl]; funext x; unfold ldF upf; by_cases e : x = k
  · subst e; simp [hf]
  · simp [e]
theorem ldF_gone (g : Int → Option (Int × List Int)) (k : Int) : uno (ldF g) k = ldF (upf g k none) := by
  funext x; unfold uno ldF upf; by_cases e : x = k <;> simp [e]
theorem ldF_some (g : Int → Option (Int × List Int)) (k : Int) : (ldF g k).isSome = (g k).isSome ∧ (ldF g k).getD (.int .i64 0) = .int .i64 ((g k).getD (0, [])).1 := by
  unfold ldF; cases g k <;> exact ⟨rfl, rfl⟩
theorem box4 {w : World} {B : Nat} {a b c d : Value} {t : TypeId} (h : w.heap[B]? = some (.cells #[a, b, c, d] t (0, 0))) : w.cell? ⟨B, 0, none⟩ = some a ∧ w.cell? ⟨B, 1, none⟩ = some b ∧ w.cell? ⟨B, 2, none⟩ = some c ∧ w.cell? ⟨B, 3, none⟩ = some d := by
  refine ⟨?_, ?_, ?_, ?_⟩ <;> simp [World.cell?, h]
/-- Whom the range has met so far, T, among those who had joined, xs. -/
def cutI (T : List Int) (jn : Int → Option Int) : Int → Option Int := fun a => if a ∈ T then none else jn a
def putI (T : List Int) (e : Int) (r : Int → Option Int) : Int → Option Int := fun a => if a ∈ T then some e else r a
theorem cut_snoc (T : List Int) (jn : Int → Option Int) (x : Int) : uno (resF (cutI T jn)) x = resF (cutI (T ++ [x]) jn) := by
  funext a; unfold uno resF cutI; by_cases e : a = x <;> simp [e]
theorem put_snoc (T : List Int) (e : Int) (r : Int → Option Int) (x : Int) : ups (resF (putI T e r)) x (.int .i64 e) = resF (putI (T ++ [x]) e r) := by
  funext a; unfold ups resF putI; by_cases e : a = x <;> simp [e]
theorem cut_nil (jn : Int → Option Int) : cutI [] jn = jn := by funext a; simp [cutI]
theorem put_nil (e : Int) (r : Int → Option Int) : putI [] e r = r := by funext a; simp [putI]
theorem cut_perm {T xs : List Int} (h : ∀ a, a ∈ T ↔ a ∈ xs) (jn : Int → Option Int) : cutI T jn = fun a => if a ∈ xs then none else jn a := by funext a; simp [cutI, h]
theorem put_perm {T xs : List Int} (h : ∀ a, a ∈ T ↔ a ∈ xs) (e : Int) (r : Int → Option Int) : putI T e r = fun a => if a ∈ xs then some e else r a := by funext a; simp [putI, h]
theorem len_eq {T xs : List Int} (hT : T.Nodup) (hx : xs.Nodup) (h : ∀ a, a ∈ T ↔ a ∈ xs) : T.length = xs.length := ((List.perm_ext_iff_of_nodup hT hx).2 h).length_eq
theorem nodup_le : ∀ (L R : List Int), L.Nodup → (∀ x ∈ L, x ∈ R) → L.length ≤ R.length
  | [], R, _, _ => Nat.zero_le _
  | x :: L, R, h, hs => by
    obtain ⟨h1, h2⟩ := List.nodup_cons.1 h
    have hx := hs x (by simp)
    have ih := nodup_le L (R.erase x) h2 fun y hy => by
      have : y ≠ x := fun e => h1 (e ▸ hy)
      exact (List.mem_erase_of_ne this).2 (hs y (by simp [hy]))
    rw [List.length_erase_of_mem hx] at ih
    have := List.length_pos_of_mem hx
    simp only [List.length_cons]; omega
theorem zero3 (w : World) : (zeroValue 3).run Try.prog w = .ok (.int .i64 0) w := by kernel_rfl
end Go.Proofs.Ytldleojipogcmaa.fl
