/- Memory's words: maps and rows of the call's own, keyed and filled by integers. -/
import Derived.Test.YtldleojipogcmaaRows
import Derived.Test.YtldleojipogcmaaNa
import Derived.WalkKit
import Derived.WalkSpells
import Derived.WalkLawsBesides
import Derived.Lib.Hide
import Derived.Deep.LoopGhost
import Derived.Deep.DeepMust
import Derived.Deep.DeepFit
import Derived.Deep.QuietTactic
import Derived.BigQuiet
import Derived.Below
import Derived.Deep.DeepCutAuto
import Derived.Deep.OwnRows
import Derived.Laws.AppendOwn
import Derived.Deep.MidRow
import Derived.Lib.SliceRun
import Derived.Maps.Own
import Derived.Maps.OwnOps
import Derived.Maps.OwnSet
import Derived.Maps.Views
import Derived.Maps.RangeWalk
namespace Go.Proofs.Ytldleojipogcmaa.fl
open Go.RowKit
open Go.Maps (Keyed IsMap isMap_empty atKey_put_same atKey_put_other atKey_del_same atKey_del_other int_keyed keyOf_int_mk has_put_same has_put_other has_del_same has_del_other size_put size_del atKey_of_not_has)
set_option linter.unusedVariables false
set_option linter.unusedSimpArgs false

theorem below_alloc (w : World) (o : Obj) : Below w.heap.size w (w.alloc o) := (Below.refl _ _).alloc (Nat.le_refl _) _
theorem below_step {w0 w w' : World} (h : Below w0.heap.size w0 w) (hb : Below w.heap.size w w') : Below w0.heap.size w0 w' := h.trans (hb.mono h.size)
theorem grownBy_trans {w w1 w2 : World} {r : Option Nat} (h : w.grownBy w1 r) (h' : w1.grownBy w2 r) : w.grownBy w2 r :=
  ⟨h'.os.trans h.os, h'.tape.trans h.tape, h'.output.trans h.output, Nat.le_trans h.size h'.size, fun k hk hr => (h'.block k (Nat.lt_of_lt_of_le hk h.size) hr).trans (h.block k hk hr)⟩
theorem grownBy_refl (w : World) (r : Option Nat) : w.grownBy w r := ⟨rfl, rfl, rfl, Nat.le_refl _, fun _ _ _ => rfl⟩
theorem grownBy_below {w w' : World} (h : Below w.heap.size w w') (r : Option Nat) : w.grownBy w' r := ⟨h.os, h.tape, h.output, h.size, fun k hk _ => h.block k hk⟩
theorem grownBy_set (w : World) (G o : Nat) (v : Value) : w.grownBy (w.setCell ⟨G, o, none⟩ v) (some G) :=
  ⟨rfl, rfl, rfl, by simp [World.setCell], fun k _ hr => Below.heap_setCell _ _ _ _ (fun e => hr (by rw [e]))⟩
def RetB (w : World) (b : Bool) (e : Ending) (w' : World) : Prop := e = .returned (.bool b) ∧ Below w.heap.size w w'

abbrev Pq (B : Nat) : Value := .pointer (some ⟨B, 0, none⟩)
/-- Block o of the row, if there is one. -/
abbrev Ao (o : Option Nat) : Option Addr := o.map fun G => ⟨G, 0, none⟩
/-! Maps of the call's own, keyed by integers, whatever their elements. -/
def Wf (a : Int) : Prop := (Lit.int .i64 a).wf = true
theorem wf_small {a : Int} (h1 : -1000000 ≤ a) (h2 : a ≤ 1000000) : Wf a := by
  unfold Wf
  simp only [Lit.wf, Bool.and_eq_true, decide_eq_true_eq]
  exact ⟨Int.le_trans (by decide) h1, Int.le_trans h2 (by decide)⟩
def RV : Value → Option (DataW Value × List MemPlace) := fun v => some (.held v, [])
def ups (f : Int → Option Value) (a : Int) (v : Value) : Int → Option Value := fun x => if x = a then some v else f x
def uno (f : Int → Option Value) (a : Int) : Int → Option Value := fun x => if x = a then none else f x
/-- Block M is a map of S entries (room for n was taken): at each key what f says. -/
def MapV (w : World) (M n S : Nat) (f : Int → Option Value) : Prop :=
  ∃ D : DataW Value, w.ownsMap Try.prog 3 RV M n D ∧ IsMap D ∧ (∀ a, Maps.has D (.int .i64 a) = (f a).isSome) ∧ (∀ a v zd, f a = some v → D.atKey (.int .i64 a) zd = .held v) ∧ Maps.size D = S
theorem k3 : Try.prog.underlying 3 = some (.int .i64) := Try.underlying3
theorem MapV.made (w : World) : MapV (w.alloc (.map #[] 0)) w.heap.size 0 0 (fun _ => none) := ⟨.map [], World.ownsMap_made _ _ _ _, isMap_empty, fun a => rfl, fun a v zd h => (nomatch h), rfl⟩
section
variable {w : World} {M n S : Nat} {f : Int → Option Value} {t e : TypeId}
theorem MapV.lt (h : MapV w M n S f) : M < w.heap.size := by obtain ⟨D, h, _⟩ := h; exact h.lt
theorem MapV.of_block {w' : World} (h : MapV w M n S f) (hb : w'.heap[M]? = w.heap[M]?) : MapV w' M n S f := by
  obtain ⟨D, ⟨es, clock, h1, h2⟩, r⟩ := h
  exact ⟨D, ⟨es, clock, hb.trans h1, h2⟩, r⟩
theorem MapV.put (h : MapV w M n S f) (ht : Try.prog.underlying t = some (.map 3 e)) (hn : n ≤ 1000000) {a : Int} (ha : Wf a) (v : Value) :
    ∃ w', (Instr.mapUpdate t (.map (some M)) (.int .i64 a) v).run Try.prog w = .ok () w' ∧ MapV w' M (n + 1) (if (f a).isSome then S else S + 1) (ups f a v) ∧ w.grownBy w' (some M) := by
  obtain ⟨D, h1, h2, h3, h4, h5⟩ := h
  obtain ⟨w', hrun, hown, hg⟩ := h1.update (int_keyed k3) ht (by unfold maxLen; omega) (keyOf_int_mk k3 ha) (show RV v = some (.held v, []) from rfl)
  refine ⟨w', hrun, ⟨_, hown, h2.put _ _, fun x => ?_, fun x u zd hx => ?_, ?_⟩, hg⟩
  · unfold ups
    by_cases e : x = a
    · subst e; rw [if_pos rfl, has_put_same h2 (show WideAt.IsKeyLit (.int .i64 x) from trivial)]; rfl
    · rw [if_neg e, has_put_other (fun h => e (by injection h)), h3]
  · unfold ups at hx
    by_cases e : x = a
    · subst e
      rw [if_pos rfl] at hx
      injection hx with hx
      subst hx
      exact atKey_put_same h2 (show WideAt.IsKeyLit (.int .i64 x) from trivial) _ _
    · rw [if_neg e] at hx
      rw [atKey_put_other (fun h => e (by injection h))]
      exact h4 x u zd hx
  · rw [size_put (h1.tidy (int_keyed k3)), h3, h5]
theorem MapV.del (h : MapV w M n S f) (ht : Try.prog.underlying t = some (.map 3 e)) {a : Int} (ha : Wf a) (ty : TypeId) :
    ∃ w', (Builtin.delete_ #[t, 3] ty #[.map (some M), .int .i64 a]).run Try.prog w = .ok (.tuple #[]) w' ∧ MapV w' M n (if (f a).isSome then S - 1 else S) (uno f a) ∧ w.grownBy w' (some M) := by
  obtain ⟨D, h1, h2, h3, h4, h5⟩ := h
  obtain ⟨w', hrun, hown, hg⟩ := h1.drop (int_keyed k3) ht (keyOf_int_mk k3 ha) ty
  refine ⟨w', hrun, ⟨_, hown, h2.del _, fun x => ?_, fun x u zd hx => ?_, ?_⟩, hg.grown⟩
  · unfold uno
    by_cases e : x = a
    · subst e; rw [if_pos rfl, has_del_same]; rfl
    · rw [if_neg e, has_del_other (fun h => e (by injection h)), h3]
  · unfold uno at hx
    by_cases e : x = a
    · subst e; rw [if_pos rfl] at hx; cases hx
    · rw [if_neg e] at hx
      rw [atKey_del_other (fun h => e (by injection h))]
      exact h4 x u zd hx
  · have hs := size_del (k := .int .i64 a) (h1.tidy (int_keyed k3))
    rw [h3, h5] at hs
    split <;> simp_all <;> omega
theorem MapV.look (h : MapV w M n S f) (ht : Try.prog.underlying t = some (.map 3 e)) {z : Value} (hz : (zeroValue e).run Try.prog w = .ok z w) {a : Int} (ha : Wf a) :
    (Instr.lookup t (.map (some M)) (.int .i64 a) false).run Try.prog w = .ok ((f a).getD z) w := by
  obtain ⟨D, h1, h2, h3, h4, h5⟩ := h
  obtain ⟨v, ps, hrun, hv⟩ := h1.lookup (int_keyed k3) ht hz (show RV z = some (.held z, []) from rfl) (keyOf_int_mk k3 ha)
  rw [hrun]
  unfold RV at hv
  injection hv with hv
  injection hv with hv
  cases hf : f a with
  | some u => rw [h4 a u _ hf] at hv; injection hv with hv; rw [hv]; rfl
  | none =>
    rw [atKey_of_not_has (by rw [h3, hf]; rfl)] at hv
    injection hv with hv; rw [hv]; rfl
theorem MapV.len (h : MapV w M n S f) (ht : Try.prog.underlying t = some (.map 3 e)) (ty : TypeId) : (Builtin.len_ #[t] ty #[.map (some M)]).run Try.prog w = .ok (.int .i64 S) w := by
  obtain ⟨D, h1, h2, h3, h4, h5⟩ := h
  rw [h1.len ht ty, h5]
end

/-! What a call may turn. -/
structure Only (F : Nat → Prop) (w w' : World) : Prop where
  os : w'.os = w.os
  tape : w'.tape = w.tape
  output : w'.output = w.output
  size : w.heap.size ≤ w'.heap.size
  block : ∀ k, k < w.heap.size → ¬ F k → w'.heap[k]? = w.heap[k]?
theorem Only.refl (F : Nat → Prop) (w : World) : Only F w w := ⟨rfl, rfl, rfl, Nat.le_refl _, fun _ _ _ => rfl⟩
theorem Only.trans {F : Nat → Prop} {w w1 w2 : World} (h : Only F w w1) (k : Only F w1 w2) : Only F w w2 :=
  ⟨k.os.trans h.os, k.tape.trans h.tape, k.output.trans h.output, Nat.le_trans h.size k.size, fun j hj hF => (k.block j (Nat.lt_of_lt_of_le hj h.size) hF).trans (h.block j hj hF)⟩
theorem Only.of_below {F : Nat → Prop} {w w' : World} (h : Below w.heap.size w w') : Only F w w' := ⟨h.os, h.tape, h.output, h.size, fun k hk _ => h.block k hk⟩
theorem Only.of_grown {F : Nat → Prop} {w w' : World} {r : Option Nat} (h : w.grownBy w' r) (hF : ∀ k, r = some k → F k) : Only F w w' := ⟨h.os, h.tape, h.output, h.size, fun k hk hn => h.block k hk fun e => hn (hF k e.symm)⟩
theorem Only.below {F : Nat → Prop} {w0 w w' : World} (h : Below w0.heap.size w0 w) (ho : Only F w w') (hF : ∀ b, F b → w0.heap.size ≤ b) : Below w0.heap.size w0 w' :=
  h.trans ⟨ho.os, ho.tape, ho.output, ho.size, fun k hk => ho.block k (Nat.lt_of_lt_of_le hk h.size) (fun e => by have := hF k e; omega)⟩
theorem only_cell (w : World) (a : Addr) (v : Value) : Only (fun b => b = a.block) w (w.setCell a v) := ⟨rfl, rfl, rfl, by simp [World.setCell], fun k hk hF => Below.heap_setCell _ _ _ _ hF⟩
theorem Only.mono {F G : Nat → Prop} {w w' : World} (h : Only F w w') (hG : ∀ b, F b → G b) : Only G w w' := ⟨h.os, h.tape, h.output, h.size, fun k hk hk2 => h.block k hk (fun e => hk2 (hG k e))⟩

theorem look2 {w : World} {M n S : Nat} {f : Int → Option Value} {t e : TypeId} (h : MapV w M n S f) (ht : Try.prog.underlying t = some (.map 3 e)) {z : Value} (hz : (zeroValue e).run Try.prog w = .ok z w) {a : Int} (ha : Wf a) :
    (Instr.lookup t (.map (some M)) (.int .i64 a) true).run Try.prog w = .ok (.tuple #[(f a).getD z, .bool (f a).isSome]) w := by
  obtain ⟨D, ⟨es, clock, hb, F, _, rfl⟩, h2, h3, h4, h5⟩ := h
  rcases Go.Maps.fit_look true (int_keyed k3) ht hz hb F (keyOf_int_mk k3 ha) with ⟨hrun, _, hat⟩ | ⟨e0, y, _, _, hrun, hRv, hat, _⟩
  · rw [hrun]
    cases hf : f a with
    | none => rfl
    | some u =>
      have h6 := h4 a u (.map []) hf
      rw [hat] at h6; cases h6
  · rw [hrun]
    unfold RV at hRv
    injection hRv with hRv
    cases hf : f a with
    | none =>
      have h6 := hat (.map [])
      rw [atKey_of_not_has (by rw [h3, hf]; rfl), ← hRv] at h6; cases h6
    | some u =>
      have h6 := h4 a u (.map []) hf
      rw [hat, ← hRv] at h6
      injection h6 with h6
      rw [h6]; rfl
def encI (xs : List Int) : List Value := xs.map (Value.int .i64)
theorem encI_len (xs : List Int) : (encI xs).length = xs.length := by simp [encI]
theorem encI_app (a b : List Int) : encI (a ++ b) = encI a ++ encI b := by simp [encI]
def OI (w : World) (lo : Nat) (v : Value) (xs : List Int) : Prop := w.ownsRow lo 3 1 v xs.length (encI xs)
section
variable {w w' : World} {lo : Nat} {v : Value} {xs : List Int}
theorem OI.form (h : OI w lo v xs) : ∃ A c, v = .slice A xs.length c := by
  rcases h.2 with ⟨h1, h2⟩ | ⟨g, c, cur, h1, _⟩
  · exact ⟨none, 0, by rw [h1, h2]⟩
  · exact ⟨_, c, h1⟩
theorem OI.olt (h : OI w lo v xs) {g : Nat} (e : v.ownBlock = some g) : lo ≤ g ∧ g < w.heap.size := by unfold OI at h; exact h.lt g e
theorem OI.keep (h : OI w lo v xs) (hb : ∀ g, v.ownBlock = some g → w'.heap[g]? = w.heap[g]?) : OI w' lo v xs := by
  unfold OI at h ⊢
  refine ⟨h.1, h.2.imp id fun ⟨g, c, cur, h1, h2, h3, r⟩ => ⟨g, c, cur, h1, h2, (hb g (by rw [h1]; rfl)).trans h3, r⟩⟩
theorem OI.below (h : OI w lo v xs) (hb : Below w.heap.size w w') : OI w' lo v xs := h.keep fun g e => hb.block g (h.olt e).2
theorem OI.cap {A : Option Addr} {n c : Nat} (h : OI w lo (.slice A n c) xs) : n ≤ c := by
  rcases h.2 with ⟨h1, h2⟩ | ⟨g, c', cur, h1, hb2, h3, h4, _⟩
  · injection h1 with a b d; omega
  · injection h1 with a b d; omega
end
theorem info_i : (Try.prog.info? 3).map (fun i => (i.zero, i.size, i.bytes)) = some (some (.int .i64 0), 1, 8) := by kernel_rfl
end Go.Proofs.Ytldleojipogcmaa.fl
