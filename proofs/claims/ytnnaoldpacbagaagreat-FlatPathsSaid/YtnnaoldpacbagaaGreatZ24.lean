/- A map of the call's own, from names to nodes, told as a function; a range over it. What names two directories have, by name: mathematics. 'pairs': the map of the names of both. 'sort.Slice' over names. 'All': the names that are seen, in order. 'sort.Slice' over names of the call's own: what it leaves. -/
import Derived.Test.YtnnaoldpacbagaaGreatZ23
import Derived.StringKeys
import Derived.Maps.Own
import Derived.Maps.OwnOps
import Derived.Maps.OwnSet
import Derived.Maps.Views
import Derived.Maps.RangeWalk
import Derived.Test.YtnnaoldpacbagaaGreatZ20
import Derived.Test.YtnnaoldpacbagaaGreatZ21
import Derived.Deep.LoopGhost
import Derived.Shelf.GgSortFunc.Whole
import Derived.Shelf.GgSortFunc.Tiny
import Derived.Deep.QuietTactic
import Derived.Lib.RowBridge
import Derived.Lib.SortBridge
import Derived.Sort.LotA
import Derived.Laws.AppendOwn
section
namespace Go.Proofs.YtnnaoldpacbagaaGreat.mg
open Go.RowKit
open Go.Maps (Keyed IsMap isMap_empty atKey_put_same atKey_put_other string_keyed has_put_same has_put_other atKey_of_not_has)
open Go.WideMaps (keyOf_string_mk string_of_keyOf)
set_option linter.unusedVariables false
set_option linter.unusedSimpArgs false

def RV : Value → Option (DataW Value × List MemPlace) := fun v => some (.held v, [])
set_option maxRecDepth 100000
abbrev Nf := ByteArray → Option Nd
def nput (f : Nf) (a : ByteArray) (v : Nd) : Nf := fun x => if x = a then some v else f x
theorem k9 : Tryz.prog.underlying 9 = some .string := Tryz.underlying9
/-- Block M is a map: at each name what f says. -/
def MapN (w : World) (M S : Nat) (f : Nf) : Prop :=
  ∃ D : DataW Value, w.ownsMap Tryz.prog 9 RV M S D ∧ IsMap D ∧ (∀ a : ByteArray, Maps.has D (.string a.data.toList) = (f a).isSome) ∧ (∀ (a : ByteArray) v zd, f a = some v → D.atKey (.string a.data.toList) zd = .held (Nv v))
theorem MapN.made (w : World) : MapN (w.alloc (.map #[] 0)) w.heap.size 0 (fun _ => none) := ⟨.map [], World.ownsMap_made _ _ _ _, isMap_empty, fun a => rfl, fun a v zd h => (nomatch h)⟩
theorem str_inj {a b : ByteArray} (h : Lit.string a.data.toList = Lit.string b.data.toList) : a = b := by
  injection h with h
  rw [← Lib.mk_data a, ← Lib.mk_data b, h]
section
variable {w : World} {M S : Nat} {f : Nf}
theorem MapN.lt (h : MapN w M S f) : M < w.heap.size := by obtain ⟨D, h, _⟩ := h; exact h.lt
theorem MapN.of_block {w' : World} (h : MapN w M S f) (hb : w'.heap[M]? = w.heap[M]?) : MapN w' M S f := by
  obtain ⟨D, ⟨es, clock, h1, h2⟩, r⟩ := h
  exact ⟨D, ⟨es, clock, hb.trans h1, h2⟩, r⟩
theorem MapN.below {w' : World} (h : MapN w M S f) (hb : Below w.heap.size w w') : MapN w' M S f := h.of_block (hb.block M h.lt)
theorem MapN.put (h : MapN w M S f) (hn : S ≤ 1000000) {a : ByteArray} (ha : a.size ≤ maxLen) (v : Nd) :
    ∃ w', (Instr.mapUpdate 99 (.map (some M)) (.string a) (Nv v)).run Tryz.prog w = .ok () w' ∧ MapN w' M (S + 1) (nput f a v) ∧ w.grownBy w' (some M) := by
  obtain ⟨D, h1, h2, h3, h4⟩ := h
  obtain ⟨w', hrun, hown, hg⟩ := h1.update (string_keyed k9) Tryz.underlying99 (by unfold maxLen; omega) (keyOf_string_mk k9 ha) (show RV (Nv v) = some (.held (Nv v), []) from rfl)
  refine ⟨w', hrun, ⟨_, hown, h2.put _ _, fun x => ?_, fun x u zd hx => ?_⟩, hg⟩
  · unfold nput
    by_cases e : x = a
    · subst e; rw [if_pos rfl, has_put_same h2 (show WideAt.IsKeyLit (.string x.data.toList) from trivial)]; rfl
    · rw [if_neg e, has_put_other (fun h => e (str_inj h)), h3]
  · unfold nput at hx
    by_cases e : x = a
    · subst e
      rw [if_pos rfl] at hx
      injection hx with hx
      subst hx
      exact atKey_put_same h2 (show WideAt.IsKeyLit (.string x.data.toList) from trivial) _ _
    · rw [if_neg e] at hx
      rw [atKey_put_other (fun h => e (str_inj h))]
      exact h4 x u zd hx
theorem MapN.look (h : MapN w M S f) {a : ByteArray} (ha : a.size ≤ maxLen) :
    (Instr.lookup 99 (.map (some M)) (.string a) false).run Tryz.prog w = .ok (Nv ((f a).getD (0, 0))) w := by
  obtain ⟨D, h1, h2, h3, h4⟩ := h
  obtain ⟨v, ps, hrun, hv⟩ := h1.lookup (string_keyed k9) Tryz.underlying99 (z := Nv (0, 0)) (by kernel_rfl) (show RV (Nv (0, 0)) = some (.held (Nv (0, 0)), []) from rfl) (keyOf_string_mk k9 ha)
  rw [hrun]
  unfold RV at hv
  injection hv with hv
  injection hv with hv
  cases hf : f a with
  | some u => rw [h4 a u _ hf] at hv; injection hv with hv; rw [hv]; rfl
  | none =>
    rw [atKey_of_not_has (by rw [h3, hf]; rfl)] at hv
    injection hv with hv; rw [hv]; rfl
/-- A range over the map; the names that are still to come. -/
def MapRN (w : World) (M r S : Nat) (f : Nf) (left : ByteArray → Bool) (cnt : Nat) : Prop :=
  ∃ (D : DataW Value) (lf : Lit → Bool), w.ranges Tryz.prog 9 RV M r S D lf cnt ∧ (∀ a : ByteArray, lf (.string a.data.toList) = left a) ∧ (∀ a, left a = true → (f a).isSome = true) ∧ (∀ (a : ByteArray) v zd, f a = some v → D.atKey (.string a.data.toList) zd = .held (Nv v))
theorem MapRN.kept {w' : World} {r cnt : Nat} {left : ByteArray → Bool} (h : MapRN w M r S f left cnt) (hb : Below w.heap.size w w') : MapRN w' M r S f left cnt := by
  obtain ⟨D, lf, h1, h2, h3, h4⟩ := h
  exact ⟨D, lf, h1.kept (row := none) ⟨hb.os, hb.tape, hb.output, hb.size, fun k hk _ => hb.block k hk⟩ (by simp) (by simp), h2, h3, h4⟩
theorem MapRN.keptBut {w' : World} {r cnt X : Nat} {left : ByteArray → Bool} (h : MapRN w M r S f left cnt) (hg : w.grownBy w' (some X)) (h1 : X ≠ M) (h2 : X ≠ r) : MapRN w' M r S f left cnt := by
  obtain ⟨D, lf, k1, k2, k3, k4⟩ := h
  exact ⟨D, lf, k1.kept hg (by intro e; injection e with e; exact h1 e.symm) (by intro e; injection e with e; exact h2 e.symm), k2, k3, k4⟩
theorem MapRN.lt {r cnt : Nat} {left : ByteArray → Bool} (h : MapRN w M r S f left cnt) : r < w.heap.size := by obtain ⟨D, lf, h1, _⟩ := h; exact h1.lt
section
variable {ops : Array Oper} {rest : List Oper} {o : Oper} {a : Act} {Q : Exit → Act → World → Prop}
theorem list_rangeN (w : World) (hg : o.guard = none) (m : Operand) (hop : o.op = Op.range 99 m) (M S : Nat) (f : Nf) (hm : a.eval m = .map (some M)) (r : Nat) (hr : w.heap.size = r) (h : MapN w M S f)
    (hK : ∀ w' cnt, MapRN w' M r S f (fun a => (f a).isSome) cnt → Below w.heap.size w w' → w'.heap.size = r + 1 → wpList Tryz.prog ops Q rest (a.put o.dst (.pointer (some ⟨r, 0, none⟩))) w') : wpList Tryz.prog ops Q (o :: rest) a w := by
  subst hr
  obtain ⟨D, h1, h2, h3, h4⟩ := h
  exact wpList_range_own w hg m 99 hop 9 24 (string_keyed k9) Tryz.underlying99 RV M S D hm h1 fun w' hr hg hs => hK w' _ ⟨D, _, hr, fun b => h3 b, fun b hb => hb, h4⟩ ⟨hg.os, hg.tape, hg.output, hg.size, fun k hk => hg.block k hk (by simp)⟩ hs
theorem list_nextN (w : World) (hg : o.guard = none) (it : Operand) (hop : o.op = Op.next it false) (M r S cnt : Nat) (f : Nf) (left : ByteArray → Bool) (hit : a.eval it = .pointer (some ⟨r, 0, none⟩)) (h : MapRN w M r S f left cnt)
    (hDone : (∀ s, left s = false) → wpList Tryz.prog ops Q rest (a.put o.dst (.tuple #[.bool false])) w)
    (hMore : ∀ (x : ByteArray) (v : Nd) (w' : World) (cnt' : Nat), f x = some v → left x = true → x.size ≤ maxLen → MapRN w' M r S f (fun s => left s && !decide (s = x)) cnt' → cnt' < cnt → w.grownBy w' (some r) → w'.heap.size = w.heap.size → (Instr.entry (.pointer (some ⟨r, 0, none⟩))).run Tryz.prog w' = .ok (.tuple #[.string x, Nv v]) w' →
      wpList Tryz.prog ops Q rest (a.put o.dst (.tuple #[.bool true, .string x, Nv v])) w') : wpList Tryz.prog ops Q (o :: rest) a w := by
  obtain ⟨D, lf, h1, h2, h3, h4⟩ := h
  refine wpList_next_ranges w hg it hop 9 (string_keyed k9) RV Value.string (fun v : Value => v) (fun key kl hkey => by obtain ⟨x, rfl, _⟩ := string_of_keyOf k9 hkey; exact ⟨x, rfl⟩) (fun v y _ => ⟨v, rfl⟩)
    M r S D lf cnt hit h1 (fun _ hl => hDone fun s => by rw [← h2]; exact hl _) (fun x c kl y w' cnt' hkey hlk hv hat hrg hlt hgr hsz hen => ?_)
  obtain ⟨x', ex, rfl, hxm⟩ := string_of_keyOf k9 hkey
  injection ex with ex
  subst ex
  rw [h2] at hlk
  have hs := h3 x hlk
  cases hf : f x with
  | none => rw [hf] at hs; cases hs
  | some v =>
    have e1 := h4 x v (.held (Nv v)) hf
    rw [hat] at e1
    unfold RV at hv
    injection hv with hv
    rw [← hv] at e1
    injection e1 with e1
    subst e1
    refine hMore x v w' cnt' hf hlk hxm ⟨D, _, hrg, fun b => ?_, fun b hb => h3 b (by simp only [Bool.and_eq_true] at hb; exact hb.1), h4⟩ hlt hgr hsz hen
    dsimp only
    rw [h2]
    have : Lit.sameKey (.string b.data.toList) (.string x.data.toList) = decide (b = x) := by
      show (b.data.toList == x.data.toList) = _
      by_cases e : b = x
      · subst e; simp
      · rw [decide_eq_false e]
        have : b.data.toList ≠ x.data.toList := fun e2 => e (str_inj (by rw [e2]))
        simpa using this
    rw [this]
end
end
end Go.Proofs.YtnnaoldpacbagaaGreat.mg
end
section
namespace Go.Proofs.YtnnaoldpacbagaaGreat.mg
open Go.RowKit
open Go.Proofs.YtnnaoldpacbagaaGreat.dn (En lget lset ldel nerr dotB Sorted lessB)
open Go.Proofs.YtnnaoldpacbagaaGreat.br (BS Ino Inv fresh)
set_option linter.unusedVariables false
set_option linter.unusedSimpArgs false

def st1 (f : Nf) (e : En) : Nf := nput f e.1 (e.2, 0)
def st2 (f : Nf) (e : En) : Nf := nput f e.1 (((f e.1).getD (0, 0)).1, e.2)
theorem lget_cons (s : ByteArray) (e : En) (l : List En) : lget s (e :: l) = if e.1 = s then some e.2 else lget s l := by
  unfold lget
  by_cases h : e.1 = s
  · simp [List.find?, h]
  · simp [List.find?, h]
theorem lget_ahead {e : En} {l : List En} (h : Sorted (e :: l)) : lget e.1 l = none := by
  refine dn.lget_none.2 fun x hx hxe => ?_
  have := h.cons.2 x hx
  rw [hxe, dn.less_irrefl] at this
  cases this
theorem fold1 : ∀ (l : List En) (g : Nf) (s : ByteArray), Sorted l → l.foldl st1 g s = match lget s l with | some v => some (v, 0) | none => g s
  | [], g, s, _ => rfl
  | e :: l, g, s, h => by
    rw [List.foldl_cons, fold1 l _ s h.cons.1, lget_cons]
    by_cases he : e.1 = s
    · subst he
      rw [if_pos rfl, lget_ahead h]
      show nput g e.1 (e.2, 0) e.1 = _
      unfold nput; rw [if_pos rfl]
    · rw [if_neg he]
      cases lget s l with
      | some v => rfl
      | none => show nput g e.1 (e.2, 0) s = _; unfold nput; rw [if_neg (fun h => he h.symm)]
theorem fold2 : ∀ (l : List En) (g : Nf) (s : ByteArray), Sorted l → l.foldl st2 g s = match lget s l with | some v => some (((g s).getD (0, 0)).1, v) | none => g s
  | [], g, s, _ => rfl
  | e :: l, g, s, h => by
    rw [List.foldl_cons, fold2 l _ s h.cons.1, lget_cons]
    by_cases he : e.1 = s
    · subst he
      rw [if_pos rfl, lget_ahead h]
      show nput g e.1 _ e.1 = _
      unfold nput; rw [if_pos rfl]
    · rw [if_neg he]
      have : st2 g e s = g s := by show nput g e.1 _ s = _; unfold nput; rw [if_neg (fun h => he h.symm)]
      rw [this]
theorem fold_take {α β : Type} (f : β → α → β) (b : β) (l : List α) (k : Nat) (x : α) (h : l[k]? = some x) : (l.take (k + 1)).foldl f b = f ((l.take k).foldl f b) x := by
  have hk : k < l.length := (List.getElem?_eq_some_iff.1 h).1
  have hx : l[k] = x := (List.getElem?_eq_some_iff.1 h).2
  rw [List.take_succ_eq_append_getElem hk, List.foldl_append, hx]; rfl
/-- The map of the names of both. -/
def pairF (U L : BS) (n : Nd) : Nf := (L.all (belV U n)).1.foldl st2 ((U.all n.1).1.foldl st1 (fun _ => none))
section
variable {S U L : BS} {room : Nat}
theorem all_sorted (hI : Inv S room) (d : Int) : Sorted (S.all d).1 := by
  unfold BS.all
  split
  · exact List.Pairwise.nil
  · exact hI.sorted _
theorem all_get (S : BS) (d : Int) (s : ByteArray) : (S.get d s).1 = (lget s (S.all d).1).getD 0 := by
  unfold BS.get BS.all
  by_cases h : S.dirE d false ≠ 0
  · rw [if_pos h, if_pos h]; rfl
  · rw [if_neg h, if_neg h]
    cases lget s (S.at d).dir with
    | none => rfl
    | some v => rfl
theorem all_len (hI : Inv S room) (d : Int) : (S.all d).1.length ≤ 4000 := by
  unfold BS.all
  split
  · exact Nat.zero_le _
  · exact hI.dirLen _
theorem all_size (hI : Inv S room) (d : Int) : ∀ x, x ∈ (S.all d).1 → x.1.size ≤ 60 := fun x hx => by
  unfold BS.all at hx
  split at hx
  · cases hx
  · exact (cb.nerr_len (hI.good _ x hx).1).2
theorem pairF_is {r1 r2 : Nat} (hU : Inv U r1) (hL : Inv L r2) (n : Nd) (s : ByteArray) : (pairF U L n s = none ∧ pairV U L n s = (0, 0)) ∨ pairF U L n s = some (pairV U L n s) := by
  unfold pairF pairV
  rw [fold2 _ _ _ (all_sorted hL _), fold1 _ _ _ (all_sorted hU _), all_get, all_get]
  cases lget s (L.all (belV U n)).1 with
  | some v =>
    right
    cases lget s (U.all n.1).1 <;> rfl
  | none =>
    cases lget s (U.all n.1).1 with
    | some v => right; rfl
    | none => left; exact ⟨rfl, rfl⟩
/-- The names that are seen are those of the map that lead somewhere. -/
theorem seen_names {r1 r2 : Nat} (hU : Inv U r1) (hL : Inv L r2) (n : Nd) (s : ByteArray) (hl : lstV U L n = 0) : (getV U L n s).2 = 0 ↔ ∃ p, pairF U L n s = some p ∧ seenV U L p ≠ (0, 0) := by
  unfold getV
  rw [if_neg (by rw [hl]; decide)]
  have h0 : seenV U L (0, 0) = (0, 0) := by rw [seen_none (kind_zero U), kind_zero L]; rfl
  rcases pairF_is hU hL n s with ⟨h1, h2⟩ | h1
  · rw [h1, h2, h0, if_pos rfl]
    exact ⟨fun e => absurd e (by decide), fun ⟨p, e, _⟩ => nomatch e⟩
  · rw [h1]
    by_cases h3 : seenV U L (pairV U L n s) = (0, 0)
    · rw [if_pos h3]
      exact ⟨fun e => absurd e (by decide), fun ⟨p, e, e2⟩ => by injection e with e; rw [← e] at e2; exact absurd h3 e2⟩
    · rw [if_neg h3]
      exact ⟨fun _ => ⟨_, rfl, h3⟩, fun _ => rfl⟩
end
end Go.Proofs.YtnnaoldpacbagaaGreat.mg
end
section
namespace Go.Proofs.YtnnaoldpacbagaaGreat.mg
open Go.RowKit
open Go.Proofs.YtnnaoldpacbagaaGreat.dn (En lget lset ldel nerr dotB Sorted lessB ERow Sl Ao)
open Go.Proofs.YtnnaoldpacbagaaGreat.br (BS Ino Inv fresh)
open Go.Proofs.YtnnaoldpacbagaaGreat.cb (BrX RetW RetI No)
open Go.Proofs.YtnnaoldpacbagaaGreat.bl (Pq Only)
set_option linter.unusedVariables false
set_option linter.unusedSimpArgs false

/-- Entries in a row behind M. -/
def SE (w : World) (M : Nat) (o : Option Nat) (L : List En) : Prop := ∀ k x, L[k]? = some x → ∃ G, o = some G ∧ M < G ∧ G < w.heap.size ∧ w.cell? ⟨G, k * 2, none⟩ = some (.string x.1) ∧ w.cell? ⟨G, k * 2 + 1, none⟩ = some (.int .i64 x.2)
theorem SE.of {w : World} {M lo c : Nat} {o : Option Nat} {L : List En} (h : Sl w lo o c L) (hM : M < lo) : SE w M o L := fun k x hk => by
  cases o with
  | none => obtain ⟨rfl, _⟩ := h; cases hk
  | some G =>
    obtain ⟨h1, h2⟩ := h
    exact ⟨G, rfl, by omega, h2.lt, (h2.at_ hk).1, (h2.at_ hk).2⟩
theorem SE.only {w w' : World} {M : Nat} {o : Option Nat} {L : List En} (h : SE w M o L) (ho : Only (fun b => b = M) w w') : SE w' M o L := fun k x hk => by
  obtain ⟨G, e, h1, h2, h3, h4⟩ := h k x hk
  have hb := ho.block G h2 (by omega)
  exact ⟨G, e, h1, Nat.lt_of_lt_of_le h2 ho.size, (World.cell?_of_block (a := ⟨G, k * 2, none⟩) hb).trans h3, (World.cell?_of_block (a := ⟨G, k * 2 + 1, none⟩) hb).trans h4⟩
theorem only_grown {w w' : World} {M : Nat} (h : w.grownBy w' (some M)) : Only (fun b => b = M) w w' := ⟨h.os, h.tape, h.output, h.size, fun k hk hF => h.block k hk (fun e => hF (by cases e; rfl))⟩
theorem only_bel {w w' : World} {F : Nat → Prop} (h : Below w.heap.size w w') : Only F w w' := ⟨h.os, h.tape, h.output, h.size, fun k hk _ => h.block k hk⟩
theorem bel_only {w0 w w' : World} {M : Nat} (hb : Below w0.heap.size w0 w) (h : Only (fun b => b = M) w w') (hM : w0.heap.size ≤ M) : Below w0.heap.size w0 w' :=
  hb.trans ⟨h.os, h.tape, h.output, h.size, fun k hk => h.block k (Nat.lt_of_lt_of_le hk hb.size) fun e => by omega⟩
theorem Vx.allU {w : World} {V P1 P2 : Nat} {u l : Int} {U L : BS} (h : Vx w V P1 P2 u l U L) (i : Int) : Calls Tryz.prog 117 #[Pq P1, .int .i64 i] w (fun e w' => ∃ o c, e = .returned (.tuple #[.slice (dn.Ao o) (U.all i).1.length c, .int .i64 (U.all i).2]) ∧ (U.all i).1.length ≤ c ∧ c ≤ maxLen ∧ dn.Sl w' w.heap.size o c (U.all i).1 ∧ Below w.heap.size w w') := by obtain ⟨_, _, _, k⟩ := h.b1; exact cb.x_all k i
theorem Vx.allL {w : World} {V P1 P2 : Nat} {u l : Int} {U L : BS} (h : Vx w V P1 P2 u l U L) (i : Int) : Calls Tryz.prog 117 #[Pq P2, .int .i64 i] w (fun e w' => ∃ o c, e = .returned (.tuple #[.slice (dn.Ao o) (L.all i).1.length c, .int .i64 (L.all i).2]) ∧ (L.all i).1.length ≤ c ∧ c ≤ maxLen ∧ dn.Sl w' w.heap.size o c (L.all i).1 ∧ Below w.heap.size w w') := by obtain ⟨_, _, _, k⟩ := h.b2; exact cb.x_all k i
def PairsE (w : World) (f : Nf) (e : Ending) (w' : World) : Prop := ∃ M S, e = .returned (.map (some M)) ∧ MapN w' M S f ∧ w.heap.size ≤ M ∧ Below w.heap.size w w'
set_option maxRecDepth 100000 in
set_option maxHeartbeats 4000000 in
theorem pairs_any {w : World} {V P1 P2 : Nat} {u l : Int} {U L : BS} {r1 r2 : Nat} (h : Vx w V P1 P2 u l U L) (hU : Inv U r1) (hL : Inv L r2) (n : Nd) : Calls Tryz.prog 61 #[Pq V, Nv n] w (PairsE w (pairF U L n)) := by
  obtain ⟨n1, n2⟩ := n
  obtain ⟨w2, hw2⟩ : ∃ w2, (w.alloc (.cells #[.int .i64 n1, .int .i64 n2] 24)).alloc (.map #[] 0) = w2 := ⟨_, rfl⟩
  have hb2 : Below w.heap.size w w2 := by rw [← hw2]; exact bel_step (bel_alloc _ _) (bel_alloc _ _)
  have hn2 : Nb w2 w.heap.size (n1, n2) := by rw [← hw2]; exact (Nb.new w n1 n2).below (bel_alloc _ _)
  have hm2 : MapN w2 (w.heap.size + 1) 0 (fun _ => none) := by rw [← hw2]; have := MapN.made (w.alloc (.cells #[.int .i64 n1, .int .i64 n2] 24)); rwa [World.size_alloc] at this
  have HB := Lib.hid hb2
  have HN := Lib.hid hn2
  have HM := Lib.hid hm2
  have HVX := Lib.hid (fun W (hb : Below w.heap.size w W) => h.below hb)
  have HSF := Lib.hid (show ∀ W, Below w.heap.size w W → W.cell? ⟨V, 0, none⟩ = some (Pq P1) ∧ W.cell? ⟨V, 1, none⟩ = some (Pq P2) from fun W hb => ⟨(h.below hb).c0, (h.below hb).c1⟩)
  have HAU := Lib.hid (fun W (hb : Below w.heap.size w W) => (h.below hb).allU n1)
  have HAL := Lib.hid (fun W (hb : Below w.heap.size w W) => (h.below hb).allL (belV U (n1, n2)))
  have HFF := Lib.hid (show pairF U L (n1, n2) = (L.all (belV U (n1, n2))).1.foldl st2 ((U.all n1).1.foldl st1 (fun _ => none)) from rfl)
  have HLU := Lib.hid (And.intro (all_len hU n1) (all_size hU n1))
  have HLL := Lib.hid (And.intro (all_len hL (belV U (n1, n2))) (all_size hL (belV U (n1, n2))))
  have HBV := Lib.hid (fun W (hb : Below w.heap.size w W) => below_any (h.below hb) (n1, n2))
  unfold RetI at HBV
  generalize pairF U L (n1, n2) = pf at *
  generalize belV U (n1, n2) = be at *
  generalize (U.all n1).1 = lu at *
  generalize (U.all n1).2 = eu at *
  generalize (L.all be).1 = ll at *
  generalize (L.all be).2 = el at *
  clear h hU hL hb2 hn2 hm2
  obtain ⟨g, hg⟩ : ∃ g, w.heap.size = g := ⟨_, rfl⟩
  have HGB := Lib.hid hg
  rw [hg] at HN HM
  have hmk := @run_makeMap Tryz.prog 99 (w.alloc (.cells #[.int .i64 n1, .int .i64 n2] 24))
  obtain ⟨k0, k1⟩ := HSF.out _ HB.out
  obtain ⟨t0, t1⟩ := HN.out
  dsimp only at t0 t1
  unfold PairsE
  go_enter Tryz.func61, Tryz.ntmps61
  go_wp2_with fail
  go_region_held3 (fun w' => w'.cell? ⟨V, 0, none⟩ = some (Pq P1) ∧ w'.cell? ⟨g, 0, none⟩ = some (.int .i64 n1))
    (first | exact ⟨k0, t0⟩ | exact S8 | assumption | go_keep)
    (first | (go_at_call 117; ((with_reducible refine (HAU.out _ HB.out.drew).mono ?_); rintro _ w8 ⟨o1, c1, rfl, hlc1, hcm1, hsl1, hb8⟩; have HS8 := Lib.hid ((Below.refl w2.heap.size w2).drew.trans hb8); have HB8 := Lib.hid (bel_step HB.out HS8.out); have HN8 := Lib.hid (HN.out.below HS8.out); have HM8 := Lib.hid (HM.out.below HS8.out); have HE8 := Lib.hid (SE.of hsl1 (show g + 1 < _ from HM.out.lt)); have S8 := And.intro (HSF.out _ HB8.out).1 HN8.out.c0)))
  all_goals
    clear k0 k1 t0 t1 S8 hb8 hsl1 hw2 hmk HS8
    have HMg := Lib.hid (show w.heap.size ≤ g + 1 by have := HGB.out; omega)
    have HL0 := Lib.hid (show 0 ≤ 4000 by omega)
    go_wp2_with fail
    go_loopg [27] lu.length (fun g' sk wr => ∃ k : Nat, g' + k = lu.length ∧ sk = .int .i64 k ∧ Hid (MapN wr (g + 1) (0 + k) ((lu.take k).foldl st1 (fun _ => none))) ∧ Hid (Only (fun b => b = (g + 1)) w8 wr))
    case atStart => exact ⟨0, by omega, rfl, HM8, Lib.hid (Only.refl _ _)⟩
    case round =>
      clear HM8
      obtain ⟨k, hgk, rfl, HMk, HO⟩ := hrel
      by_cases hgo : k < lu.length
      · have hx : lu[k]? = some lu[k] := List.getElem?_eq_getElem hgo
        have hft := fold_take st1 (fun _ => none) lu k _ hx
        have hxs := HLU.out.2 _ (List.getElem_mem hgo)
        obtain ⟨Fk, hFk⟩ : ∃ F, (lu.take k).foldl st1 (fun _ => none) = F := ⟨_, rfl⟩
        rw [hFk] at hft HMk
        clear hFk
        obtain ⟨G, hGe, hMG, hGl, f0, f1⟩ := (HE8.out.only HO.out) k _ hx
        generalize lu[k] = x at *
        obtain ⟨xs, xv⟩ := x
        dsimp only at f0 f1 hxs
        have hxm : xs.size ≤ maxLen := by unfold maxLen; omega
        obtain ⟨w9, hw9⟩ : ∃ w9, wr.alloc (.cells #[.string xs, .int .i64 xv] 108) = w9 := ⟨_, rfl⟩
        have hb9 : Below wr.heap.size wr w9 := by rw [← hw9]; exact bel_alloc _ _
        have b0 : w9.cell? ⟨wr.heap.size, 0, none⟩ = some (.string xs) := by rw [← hw9]; simp
        have b1 : w9.cell? ⟨wr.heap.size, 1, none⟩ = some (.int .i64 xv) := by rw [← hw9]; simp
        obtain ⟨gb, hgb⟩ : ∃ gb, wr.heap.size = gb := ⟨_, rfl⟩
        have HM9 := Lib.hid (HMk.out.below hb9)
        have HO9 := Lib.hid (HO.out.trans (only_bel hb9))
        rw [hgb] at b0 b1
        have hkl : 0 + k ≤ 1000000 := by have := HLU.out.1; have := HL0.out; omega
        obtain ⟨w10, hrun, hm10, hg10⟩ := HM9.out.put hkl hxm (xv, 0)
        have HM10 := Lib.hid (show MapN w10 (g + 1) (0 + (k + 1)) ((lu.take (k + 1)).foldl st1 (fun _ => none)) by rw [hft]; exact hm10)
        have HO10 := Lib.hid (HO9.out.trans (only_grown hg10))
        unfold Nv at hrun
        clear hft hxs hMG hm10 hg10 HMk HO HM9 HO9 hb9 hxm 
        subst hGe
        go_wp2_with fail
        go_roundg (lu.length - (k + 1))
        case measure => omega
        case rel => exact ⟨k + 1, by omega, by go_num, HM10, HO10⟩
      · have hk : k = lu.length := by omega
        subst hk
        have HM1 := Lib.hid (show MapN wr (g + 1) lu.length (lu.foldl st1 (fun _ => none)) by have := HMk.out; rwa [List.take_length, Nat.zero_add] at this)
        have HB1 := Lib.hid (bel_only HB8.out HO.out HMg.out)
        have HN1 := Lib.hid (show Nb wr g (n1, n2) from HN8.out.same (HO.out.block g HN8.out.lt (by omega)))
        clear HMk HO HB8 HN8 HAU HB HN HM
        obtain ⟨k0, k1⟩ := HSF.out _ HB1.out
        obtain ⟨t0, t1⟩ := HN1.out
        dsimp only at t0 t1
        go_wp2_with fail
        go_region_held3 (fun w' => w'.cell? ⟨V, 1, none⟩ = some (Pq P2) ∧ w'.cell? ⟨g, 0, none⟩ = some (.int .i64 n1) ∧ w'.cell? ⟨g, 1, none⟩ = some (.int .i64 n2))
          (first | exact ⟨k1, t0, t1⟩ | exact S8 | exact S9 | assumption | go_keep)
          (first | (go_at_call 56; ((with_reducible refine (HBV.out _ HB1.out.drew).mono ?_); rintro _ w8 ⟨rfl, hb8⟩; have HS8 := Lib.hid ((Below.refl wr.heap.size wr).drew.trans hb8); have HB8 := Lib.hid (bel_step HB1.out HS8.out); have HN8 := Lib.hid (HN1.out.below HS8.out); have HM8 := Lib.hid (HM1.out.below HS8.out); have S8 := And.intro (HSF.out _ HB8.out).2 (And.intro HN8.out.c0 HN8.out.c1))) | (go_at_call 117; ((with_reducible refine (HAL.out _ HB8.out).mono ?_); rintro _ wa ⟨o2, c2, rfl, hlc2, hcm2, hsl2, hba⟩; have HBa := Lib.hid (bel_step HB8.out hba); have HNa := Lib.hid (HN8.out.below hba); have HMa := Lib.hid (HM8.out.below hba); have HEa := Lib.hid (SE.of hsl2 (show (g + 1) < _ from HM8.out.lt)); have S9 := And.intro (HSF.out _ HBa.out).2 (And.intro HNa.out.c0 HNa.out.c1))))
        all_goals
          clear k0 k1 t0 t1 S8 S9 hb8 HS8 HB8 HN8 HM8 HB1 HN1 HM1 hba hsl2 HBV HAL HSF HVX
          have HBASE := Lib.hid (show lu.foldl st1 (fun _ => none) = lu.foldl st1 (fun _ => none) from rfl)
          generalize hbase : lu.foldl st1 (fun _ => none) = base at HMa HBASE HFF
          have HL0 := Lib.hid (show lu.length ≤ 4000 from HLU.out.1)
          go_wp2_with fail
          go_loopg [51] ll.length (fun g' sk wr => ∃ k : Nat, g' + k = ll.length ∧ sk = .int .i64 k ∧ Hid (MapN wr (g + 1) (lu.length + k) ((ll.take k).foldl st2 base)) ∧ Hid (Only (fun b => b = (g + 1)) wa wr))
          case atStart => exact ⟨0, by omega, rfl, HMa, Lib.hid (Only.refl _ _)⟩
          case round =>
            clear HMa
            obtain ⟨k, hgk, rfl, HMk, HO⟩ := hrel
            by_cases hgo : k < ll.length
            · have hx : ll[k]? = some ll[k] := List.getElem?_eq_getElem hgo
              have hft := fold_take st2 base ll k _ hx
              have hxs := HLL.out.2 _ (List.getElem_mem hgo)
              obtain ⟨Fk, hFk⟩ : ∃ F, (ll.take k).foldl st2 base = F := ⟨_, rfl⟩
              rw [hFk] at hft HMk
              clear hFk
              obtain ⟨G, hGe, hMG, hGl, f0, f1⟩ := (HEa.out.only HO.out) k _ hx
              generalize ll[k] = x at *
              obtain ⟨xs, xv⟩ := x
              dsimp only at f0 f1 hxs
              have hxm : xs.size ≤ maxLen := by unfold maxLen; omega
              obtain ⟨w9, hw9⟩ : ∃ w9, wr.alloc (.cells #[.string xs, .int .i64 xv] 108) = w9 := ⟨_, rfl⟩
              have hb9 : Below wr.heap.size wr w9 := by rw [← hw9]; exact bel_alloc _ _
              have b0 : w9.cell? ⟨wr.heap.size, 0, none⟩ = some (.string xs) := by rw [← hw9]; simp
              have b1 : w9.cell? ⟨wr.heap.size, 1, none⟩ = some (.int .i64 xv) := by rw [← hw9]; simp
              obtain ⟨gb, hgb⟩ : ∃ gb, wr.heap.size = gb := ⟨_, rfl⟩
              have HM9 := Lib.hid (HMk.out.below hb9)
              have HO9 := Lib.hid (HO.out.trans (only_bel hb9))
              rw [hgb] at b0 b1
              have hkl : lu.length + k ≤ 1000000 := by have := HLL.out.1; have := HL0.out; omega
              obtain ⟨pr, hpr⟩ : ∃ pr, ((Fk xs).getD (0, 0)) = pr := ⟨_, rfl⟩
              have hlk := HM9.out.look hxm
              rw [hpr] at hlk
              obtain ⟨pr1, pr2⟩ := pr
              have hfe : ∀ W, (Instr.field 24 (.agg #[.int .i64 pr1, .int .i64 pr2]) 0).run Tryz.prog W = .ok (.int .i64 pr1) W := fun _ => rfl
              obtain ⟨w10, hrun, hm10, hg10⟩ := HM9.out.put hkl hxm (pr1, xv)
              have HM10 := Lib.hid (show MapN w10 (g + 1) (lu.length + (k + 1)) ((ll.take (k + 1)).foldl st2 base) by rw [hft]; show MapN w10 (g + 1) _ (nput Fk xs (((Fk xs).getD (0, 0)).1, xv)); rw [hpr]; exact hm10)
              have HO10 := Lib.hid (HO9.out.trans (only_grown hg10))
              dsimp only [Nv] at hrun hlk
              clear hft hxs hMG hm10 hg10 HMk HO HM9 HO9 hb9 hxm hpr
              subst hGe
              go_wp2_with fail
              go_roundg (ll.length - (k + 1))
              case measure => omega
              case rel => exact ⟨k + 1, by omega, by go_num, HM10, HO10⟩
            · have hk : k = ll.length := by omega
              subst hk
              have HMf := Lib.hid (show MapN wr (g + 1) (lu.length + ll.length) pf by rw [HFF.out]; have := HMk.out; rwa [List.take_length] at this)
              have HBf := Lib.hid (bel_only HBa.out HO.out HMg.out)
              clear HMk HO
              go_wp2_with fail
              go_ret
              exact ⟨g + 1, _, rfl, HMf.out, HMg.out, HBf.out⟩
end Go.Proofs.YtnnaoldpacbagaaGreat.mg
end
section
namespace Go.Proofs.YtnnaoldpacbagaaGreat.mg
open Go.Shelf Go.RowKit Go.Lib Go.Sort
open Go.Proofs.YtnnaoldpacbagaaGreat.dn (lessB)
set_option linter.unusedVariables false
set_option linter.unusedSimpArgs false
set_option maxRecDepth 100000

def sl6_ren : Go.Shelf.Ren := ⟨fun | 6 => 62 | 10 => 118 | 11 => 119 | 12 => 120 | 13 => 121 | 14 => 122 | 24 => 156 | 25 => 157 | 26 => 158 | 27 => 159 | 28 => 160 | 29 => 161 | 30 => 162 | 31 => 163 | 32 => 164 | 33 => 165 | 34 => 182 | 35 => 183 | 36 => 184 | 37 => 185 | 38 => 186 | 39 => 191 | n => n, fun | 20 => 20 | 26 => 103 | 35 => 178 | 0 => 0 | 37 => 180 | 3 => 3 | 41 => 183 | 44 => 186 | 49 => 228 | 51 => 174 | 4 => 4 | 54 => 232 | 53 => 231 | 58 => 206 | 5 => 5 | 9 => 9 | 60 => 257 | 64 => 261 | 66 => 267 | 67 => 268 | 17 => 17 | 32 => 175 | 33 => 176 | 82 => 300 | 12 => 12 | 75 => 294 | 76 => 295 | 77 => 296 | 78 => 220 | 79 => 297 | 80 => 298 | n => n, fun | n => n⟩
theorem sl6 : Go.Proofs.LaysGg.n6 Tryz.prog sl6_ren := {
  mixed := by kernel_rfl
  f6 := Tryz.func62.trans (congrArg some (by kernel_rfl))
  f10 := Tryz.func118.trans (congrArg some (by kernel_rfl))
  f11 := Tryz.func119.trans (congrArg some (by kernel_rfl))
  f12 := Tryz.func120.trans (congrArg some (by kernel_rfl))
  f13 := Tryz.func121.trans (congrArg some (by kernel_rfl))
  f14 := Tryz.func122.trans (congrArg some (by kernel_rfl))
  f24 := Tryz.func156.trans (congrArg some (by kernel_rfl))
  f25 := Tryz.func157.trans (congrArg some (by kernel_rfl))
  f26 := Tryz.func158.trans (congrArg some (by kernel_rfl))
  f27 := Tryz.func159.trans (congrArg some (by kernel_rfl))
  f28 := Tryz.func160.trans (congrArg some (by kernel_rfl))
  f29 := Tryz.func161.trans (congrArg some (by kernel_rfl))
  f30 := Tryz.func162.trans (congrArg some (by kernel_rfl))
  f31 := Tryz.func163.trans (congrArg some (by kernel_rfl))
  f32 := Tryz.func164.trans (congrArg some (by kernel_rfl))
  f33 := Tryz.func165.trans (congrArg some (by kernel_rfl))
  f34 := Tryz.func182.trans (congrArg some (by kernel_rfl))
  f35 := Tryz.func183.trans (congrArg some (by kernel_rfl))
  f36 := Tryz.func184.trans (congrArg some (by kernel_rfl))
  f37 := Tryz.func185.trans (congrArg some (by kernel_rfl))
  f38 := Tryz.func186.trans (congrArg some (by kernel_rfl))
  f39 := Tryz.func191.trans (congrArg some (by kernel_rfl))
  t0 := Tryz.underlying0
  a0 := Tryz.isAgg0
  z0 := Tryz.sizeOf0
  v0 := Tryz.zeroValue0
  i0 := by kernel_rfl
  t3 := Tryz.underlying3
  a3 := Tryz.isAgg3
  z3 := Tryz.sizeOf3
  v3 := Tryz.zeroValue3
  i3 := by kernel_rfl
  t4 := Tryz.underlying4
  a4 := Tryz.isAgg4
  z4 := Tryz.sizeOf4
  v4 := Tryz.zeroValue4
  i4 := by kernel_rfl
  t5 := Tryz.underlying5
  a5 := Tryz.isAgg5
  z5 := Tryz.sizeOf5
  v5 := Tryz.zeroValue5
  i5 := by kernel_rfl
  t9 := Tryz.underlying9
  a9 := Tryz.isAgg9
  z9 := Tryz.sizeOf9
  v9 := Tryz.zeroValue9
  i9 := by kernel_rfl
  t12 := Tryz.underlying12
  a12 := Tryz.isAgg12
  z12 := Tryz.sizeOf12
  v12 := Tryz.zeroValue12
  i12 := by kernel_rfl
  t17 := Tryz.underlying17
  a17 := Tryz.isAgg17
  z17 := Tryz.sizeOf17
  v17 := Tryz.zeroValue17
  i17 := by kernel_rfl
  t20 := Tryz.underlying20
  a20 := Tryz.isAgg20
  z20 := Tryz.sizeOf20
  v20 := Tryz.zeroValue20
  i20 := by kernel_rfl
  t26 := Tryz.underlying103
  a26 := Tryz.isAgg103
  z26 := Tryz.sizeOf103
  v26 := Tryz.zeroValue103
  i26 := by kernel_rfl
  t32 := Tryz.underlying175
  a32 := Tryz.isAgg175
  z32 := Tryz.sizeOf175
  v32 := Tryz.zeroValue175
  i32 := by kernel_rfl
  t33 := Tryz.underlying176
  a33 := Tryz.isAgg176
  z33 := Tryz.sizeOf176
  v33 := Tryz.zeroValue176
  i33 := by kernel_rfl
  t35 := Tryz.underlying178
  a35 := Tryz.isAgg178
  z35 := Tryz.sizeOf178
  v35 := Tryz.zeroValue178
  i35 := by kernel_rfl
  t37 := Tryz.underlying180
  a37 := Tryz.isAgg180
  z37 := Tryz.sizeOf180
  v37 := Tryz.zeroValue180
  i37 := by kernel_rfl
  t41 := Tryz.underlying183
  a41 := Tryz.isAgg183
  z41 := Tryz.sizeOf183
  v41 := Tryz.zeroValue183
  i41 := by kernel_rfl
  t44 := Tryz.underlying186
  a44 := Tryz.isAgg186
  z44 := Tryz.sizeOf186
  v44 := Tryz.zeroValue186
  i44 := by kernel_rfl
  t49 := Tryz.underlying228
  a49 := Tryz.isAgg228
  z49 := Tryz.sizeOf228
  v49 := Tryz.zeroValue228
  i49 := by kernel_rfl
  t51 := Tryz.underlying174
  a51 := Tryz.isAgg174
  z51 := Tryz.sizeOf174
  v51 := Tryz.zeroValue174
  i51 := by kernel_rfl
  t53 := Tryz.underlying231
  a53 := Tryz.isAgg231
  z53 := Tryz.sizeOf231
  v53 := Tryz.zeroValue231
  i53 := by kernel_rfl
  t54 := Tryz.underlying232
  a54 := Tryz.isAgg232
  z54 := Tryz.sizeOf232
  v54 := Tryz.zeroValue232
  i54 := by kernel_rfl
  t58 := Tryz.underlying206
  a58 := Tryz.isAgg206
  z58 := Tryz.sizeOf206
  v58 := Tryz.zeroValue206
  i58 := by kernel_rfl
  t60 := Tryz.underlying257
  a60 := Tryz.isAgg257
  z60 := Tryz.sizeOf257
  v60 := Tryz.zeroValue257
  i60 := by kernel_rfl
  t64 := Tryz.underlying261
  a64 := Tryz.isAgg261
  z64 := Tryz.sizeOf261
  v64 := Tryz.zeroValue261
  i64 := by kernel_rfl
  t66 := Tryz.underlying267
  a66 := Tryz.isAgg267
  z66 := Tryz.sizeOf267
  v66 := Tryz.zeroValue267
  i66 := by kernel_rfl
  t67 := Tryz.underlying268
  a67 := Tryz.isAgg268
  z67 := Tryz.sizeOf268
  v67 := Tryz.zeroValue268
  i67 := by kernel_rfl
  t75 := Tryz.underlying294
  a75 := Tryz.isAgg294
  z75 := Tryz.sizeOf294
  v75 := Tryz.zeroValue294
  i75 := by kernel_rfl
  t76 := Tryz.underlying295
  a76 := Tryz.isAgg295
  z76 := Tryz.sizeOf295
  v76 := Tryz.zeroValue295
  i76 := by kernel_rfl
  t77 := Tryz.underlying296
  a77 := Tryz.isAgg296
  z77 := Tryz.sizeOf296
  v77 := Tryz.zeroValue296
  i77 := by kernel_rfl
  t78 := Tryz.underlying220
  a78 := Tryz.isAgg220
  z78 := Tryz.sizeOf220
  v78 := Tryz.zeroValue220
  i78 := by kernel_rfl
  t79 := Tryz.underlying297
  a79 := Tryz.isAgg297
  z79 := Tryz.sizeOf297
  v79 := Tryz.zeroValue297
  i79 := by kernel_rfl
  t80 := Tryz.underlying298
  a80 := Tryz.isAgg298
  z80 := Tryz.sizeOf298
  v80 := Tryz.zeroValue298
  i80 := by kernel_rfl
  t82 := Tryz.underlying300
  a82 := Tryz.isAgg300
  z82 := Tryz.sizeOf300
  v82 := Tryz.zeroValue300
  i82 := by kernel_rfl }

noncomputable def siT : TypeInfo := (Tryz.prog.info? 43).get (by kernel_rfl)
noncomputable def siE : TypeInfo := (Tryz.prog.info? 9).get (by kernel_rfl)
theorem siK (n : Nat) (h2 : 2 ≤ n) : Lib.swapperK n siE 24 = 4 := by
  have a : siE.hasPointers = true := by kernel_rfl
  have b : siE.bytes = 16 := by kernel_rfl
  have c : (n == 0) = false := by simp; omega
  have d : (n == 1) = false := by simp; omega
  simp [Lib.swapperK, a, b, c, d]
theorem swo_less : SWO lessB where
  irrefl := dn.less_irrefl
  trans := fun x y z h1 h2 => dn.less_trans h1 h2
  ntrans := fun x y z h1 h2 => by
    by_cases e1 : x = y
    · rw [e1]; exact h2
    · by_cases e2 : y = z
      · rw [← e2]; exact h1
      · exact dn.less_asymm (dn.less_trans (dn.less_of e2 h2) (dn.less_of e1 h1))
set_option maxHeartbeats 2000000 in
/-- The call's own order: it reads the box and two of the row's cells. -/
theorem less_names (blk off c Bs size : Nat) (W : World) (G : Nat → ByteArray) (hs : W.cell? ⟨Bs, 0, none⟩ = some (.slice (some ⟨blk, off, none⟩) size c))
    (hc : ∀ t, t < size → W.cell? ⟨blk, off + t, none⟩ = some (.string (G t))) (i j : Nat) (hi : i < size) (hj : j < size) :
    Calls Tryz.prog 63 #[.int .i64 i, .int .i64 j, .pointer (some ⟨Bs, 0, none⟩)] W fun e w' => e = .returned (.bool (lessB (G i) (G j))) ∧ ∃ q, w' = W.drewN q := by
  have ci := hc i hi
  have cj := hc j hj
  have hC := Lib.hid (fun W => dn.less_any (G i) (G j) W)
  clear hc
  generalize lessB (G i) (G j) = r at *
  generalize G i = x at *
  generalize G j = y at *
  go_enter Tryz.func63, Tryz.ntmps63
  go_wp2_with fail
  go_quiet ((go_at_call 64; with_reducible exact Calls.quiet_of_same (hC.out _)))
  go_wp2_with fail
  go_ret
  exact ⟨rfl, nq, rfl⟩
set_option maxHeartbeats 2000000 in
theorem sort_more (blk off c Bs : Nat) (d : Array ByteArray) (h2 : 2 ≤ d.size) (h12 : d.size < 4611686018427387904) (w : World) (hB : w.cell? ⟨Bs, 0, none⟩ = some (.slice (some ⟨blk, off, none⟩) d.size c)) (hne : Bs ≠ blk) (hH : Holds Value.string w blk off d) (hblk : blk < w.heap.size) :
    Calls Tryz.prog 62 #[.iface 43 (.slice (some ⟨blk, off, none⟩) d.size c), .func (.func 63) #[] #[.pointer (some ⟨Bs, 0, none⟩)]] w fun e w' =>
      e = .returned (.tuple #[]) ∧ ∃ d' n os, PermIn 0 d.size d d' ∧ SortedIn lessB 0 d.size d' ∧ w' = grow (putRow Value.string (Sort.ahead w n) blk off d') os := by
  have hBs : Bs < w.heap.size := World.block_lt_of_cell? _ _ hB
  have hless : LessReads Tryz.prog 63 #[.pointer (some ⟨Bs, 0, none⟩)] Value.string lessB blk off d.size w := by
    intro m os dk hs i j hi hj
    have e : sortWorld Value.string w blk off m dk os = putRow Value.string (grow (Sort.ahead w m) os) blk off dk := by
      unfold sortWorld; rw [putRow_grow _ (Sort.ahead w m) _ blk off _ hblk]
    have hHg : Holds Value.string (grow (Sort.ahead w m) os) blk off d := holds_grow _ _ _ blk off d hblk (holds_ahead _ _ _ _ _ _ hH)
    refine less_names blk off c Bs d.size _ (fun t => dk[t]!) ?_ (fun t ht => ?_) i j hi hj
    · rw [e, cell?_putRow_other _ _ blk off dk _ (Or.inl hne), cell?_grow _ _ _ (show Bs < w.heap.size from hBs)]
      exact hB
    · rw [e]; exact cell?_putRow _ _ blk off d dk hHg hs t (by omega)
  exact Any.sort_Slice_sorted sl6 43 9 siT siE (by kernel_rfl) (by kernel_rfl) (by kernel_rfl) (by kernel_rfl) 24 (fun _ => by kernel_rfl) (by kernel_rfl) (fun _ => by kernel_rfl) Value.string (fun _ => rfl) lessB swo_less 63 _
    (enters_of Tryz.func63 (by kernel_rfl) rfl) blk off c d h2 h12 150 (by rw [siK _ h2]; kernel_rfl) true
    (fun args W => run_callFunc_extern Tryz.func150 (by kernel_rfl) (by kernel_rfl) (by kernel_rfl) (e := Extern.ReflectliteSwapper.swap true) (by kernel_rfl) args W) _ hless hH hblk
set_option maxHeartbeats 2000000 in
theorem sort_few (p : Option Addr) (n c : Nat) (h1 : n ≤ 1) (cl : Array Value) (w : World) :
    Calls Tryz.prog 62 #[.iface 43 (.slice p n c), .func (.func 63) #[] cl] w fun e w' => e = .returned (.tuple #[]) ∧ ∃ os, w' = grow w os := by
  have hK : Lib.swapperK n siE 24 = n + 1 := by
    rcases Nat.eq_zero_or_pos n with h | h
    · subst h; simp [Lib.swapperK]
    · obtain rfl : n = 1 := by omega
      simp [Lib.swapperK]
  exact Any.sort_Slice_tiny sl6 43 9 siT siE (by kernel_rfl) (by kernel_rfl) (by kernel_rfl) (by kernel_rfl) 24 (fun _ => by kernel_rfl) p n c h1 (147 + n) (by
    rw [hK]
    rcases Nat.eq_zero_or_pos n with h | h
    · subst h; kernel_rfl
    · obtain rfl : n = 1 := by omega
      kernel_rfl) (.func 63) #[] cl w
end Go.Proofs.YtnnaoldpacbagaaGreat.mg
end
section
namespace Go.Proofs.YtnnaoldpacbagaaGreat.mg
open Go.RowKit
open Go.Proofs.YtnnaoldpacbagaaGreat.dn (En lget lset ldel nerr dotB Sorted lessB)
open Go.Proofs.YtnnaoldpacbagaaGreat.br (BS Ino Inv fresh)
open Go.Proofs.YtnnaoldpacbagaaGreat.cb (BrX RetW RetI No)
open Go.Proofs.YtnnaoldpacbagaaGreat.bl (Pq Only)
open Go.Maps (IsMap)
set_option linter.unusedVariables false
set_option linter.unusedSimpArgs false

theorem info9 : Tryz.prog.info? 9 = some ((Tryz.prog.info? 9).get (by kernel_rfl)) := by kernel_rfl
theorem info_parts9 : ∃ i : TypeInfo, Tryz.prog.info? 9 = some i ∧ i.zero = some (.string ⟨#[]⟩) ∧ i.size = 1 ∧ i.bytes = 16 := ⟨(Tryz.prog.info? 9).get (by kernel_rfl), by kernel_rfl, by kernel_rfl, by kernel_rfl, by kernel_rfl⟩
/-- Names read in a row of the call's own that may be written. -/
def NR (w : World) (lo : Nat) (A : Option Addr) (l : List ByteArray) : Prop := ∀ k x, l[k]? = some x → ∃ G, A = some ⟨G, 0, none⟩ ∧ lo ≤ G ∧ G < w.heap.size ∧ w.cell? ⟨G, k, none⟩ = some (.string x) ∧ w.frozen? ⟨G, k, none⟩ = false
theorem NR.same {w w' : World} {lo : Nat} {A : Option Addr} {l : List ByteArray} (h : NR w lo A l) (hs : w.heap.size ≤ w'.heap.size) (hk : ∀ b, lo ≤ b → b < w.heap.size → w'.heap[b]? = w.heap[b]?) : NR w' lo A l := fun k x hx => by
  obtain ⟨G, e, h1, h2, h3, h4⟩ := h k x hx
  exact ⟨G, e, h1, Nat.lt_of_lt_of_le h2 hs, (World.cell?_of_block (a := ⟨G, k, none⟩) (hk G h1 h2)).trans h3, (World.frozen?_of_block (a := ⟨G, k, none⟩) (hk G h1 h2)).trans h4⟩
theorem NR.below {w w' : World} {lo : Nat} {A : Option Addr} {l : List ByteArray} (h : NR w lo A l) (hb : Below w.heap.size w w') : NR w' lo A l := h.same hb.size fun b _ hb2 => hb.block b hb2
theorem NR.nil (w : World) (lo : Nat) (A : Option Addr) : NR w lo A [] := fun k x h => by cases h
def AllE (w : World) (U L : BS) (n : Nd) (e : Ending) (w' : World) : Prop :=
  ∃ A c l, e = .returned (.tuple #[.slice A l.length c, .int .i64 (lstV U L n)]) ∧ AllV U L n l ∧ NR w' w.heap.size A l ∧ l.length ≤ c ∧ c ≤ maxLen ∧ l.length ≤ 8000 ∧ Below w.heap.size w w'
theorem grown_below {w w' : World} (h : Below w.heap.size w w') : w.grownBy w' none := ⟨h.os, h.tape, h.output, h.size, fun k hk _ => h.block k hk⟩
theorem grown_set (w : World) (g i : Nat) (v : Value) : w.grownBy (w.setCell ⟨g, i, none⟩ v) (some g) := have h := (Below.refl 0 w).setCell (p := ⟨g, i, none⟩) (Nat.zero_le _) v
  ⟨h.os, h.tape, h.output, h.size, fun k hk hne => heap_set (fun e => hne (by rw [e]))⟩
theorem MapRN.keptG {w w' : World} {M r S cnt : Nat} {f : Nf} {left : ByteArray → Bool} {row : Option Nat} (h : MapRN w M r S f left cnt) (hg : w.grownBy w' row) (h1 : row ≠ some M) (h2 : row ≠ some r) : MapRN w' M r S f left cnt := by
  obtain ⟨D, lf, k1, k2, k3, k4⟩ := h
  exact ⟨D, lf, k1.kept hg h1.symm h2.symm, k2, k3, k4⟩
abbrev Ow (w : World) (B : Nat) (v : Value) (ns : List ByteArray) : Prop := w.ownsRow B 9 1 v ns.length (ns.map Value.string)
theorem Ow.same {w w' : World} {B : Nat} {v : Value} {ns : List ByteArray} (h : Ow w B v ns) (hk : ∀ g, B ≤ g → g < w.heap.size → w'.heap[g]? = w.heap[g]?) : Ow w' B v ns := by
  refine ⟨h.1, ?_⟩
  rcases h.2 with e | ⟨g, cap, cur, hv, hb, hg, r⟩
  · exact .inl e
  · exact .inr ⟨g, cap, cur, hv, hb, (hk g hb (Array.getElem?_eq_some_iff.1 hg).1).trans hg, r⟩
theorem Ow.below {w w' : World} {B : Nat} {v : Value} {ns : List ByteArray} (h : Ow w B v ns) (hb : Below w.heap.size w w') : Ow w' B v ns := h.same fun g _ hg => hb.block g hg
theorem Ow.grown {w w' : World} {B x : Nat} {v : Value} {ns : List ByteArray} (h : Ow w B v ns) (hg : w.grownBy w' (some x)) (hx : x < B) : Ow w' B v ns := h.same fun g h1 h2 => hg.block g h2 (fun e => by injection e with e; omega)
theorem Ow.form {w : World} {B : Nat} {v : Value} {ns : List ByteArray} (h : Ow w B v ns) : ∃ A c, v = .slice A ns.length c ∧ ns.length ≤ c ∧ c ≤ maxLen ∧ NR w B A ns := by
  rcases h.2 with ⟨hv, h0⟩ | ⟨g, cap, cur, hv, hb, hg, h1, h2, h3, h4⟩
  · have e : ns = [] := List.eq_nil_of_length_eq_zero h0
    subst e
    exact ⟨none, 0, hv, Nat.le_refl _, by unfold maxLen; omega, NR.nil _ _ _⟩
  · refine ⟨some ⟨g, 0, none⟩, cap, hv, h1, h2, fun k x hx => ⟨g, rfl, hb, (Array.getElem?_eq_some_iff.1 hg).1, ?_, ?_⟩⟩
    · have hk := (List.getElem?_eq_some_iff.1 hx).1
      have : cur[k]? = some (.string x) := by
        rw [← Array.getElem?_toList]
        have h5 : (cur.toList.take (ns.length * 1))[k]? = some (.string x) := by rw [h4, List.getElem?_map, hx]; rfl
        rw [List.getElem?_take] at h5
        split at h5
        · exact h5
        · cases h5
      simp [World.cell?, hg, this]
    · simp [World.frozen?, hg]
/-- What was collected: the names that lead somewhere and are not still to come. -/
structure Coll (U L : BS) (f : Nf) (left : ByteArray → Bool) (ns : List ByteArray) : Prop where
  nd : ns.Nodup
  mem : ∀ s, s ∈ ns ↔ (∃ p, f s = some p ∧ seenV U L p ≠ (0, 0)) ∧ left s = false
theorem Coll.start (U L : BS) (f : Nf) : Coll U L f (fun a => (f a).isSome) [] := ⟨List.nodup_nil, fun s => ⟨fun e => (nomatch e), fun ⟨⟨p, e, _⟩, h⟩ => by rw [e] at h; cases h⟩⟩
theorem Coll.skip {U L : BS} {f : Nf} {left : ByteArray → Bool} {ns : List ByteArray} (h : Coll U L f left ns) {x : ByteArray} {p : Nd} (hx : f x = some p) (hp : seenV U L p = (0, 0)) : Coll U L f (fun s => left s && !decide (s = x)) ns :=
  ⟨h.nd, fun s => by
    rw [h.mem s]
    refine ⟨fun ⟨h1, h2⟩ => ⟨h1, by rw [h2]; rfl⟩, fun ⟨h1, h2⟩ => ⟨h1, ?_⟩⟩
    obtain ⟨q, e, hq⟩ := h1
    by_cases es : s = x
    · subst es; rw [hx] at e; injection e with e; rw [← e] at hq; exact absurd hp hq
    · rw [decide_eq_false es] at h2; simpa using h2⟩
theorem Coll.add {U L : BS} {f : Nf} {left : ByteArray → Bool} {ns : List ByteArray} (h : Coll U L f left ns) {x : ByteArray} {p : Nd} (hx : f x = some p) (hl : left x = true) (hp : seenV U L p ≠ (0, 0)) : Coll U L f (fun s => left s && !decide (s = x)) (ns ++ [x]) := by
  have hn : x ∉ ns := fun e => by have := ((h.mem x).1 e).2; rw [hl] at this; cases this
  refine ⟨?_, fun s => ?_⟩
  · rw [List.nodup_append]
    exact ⟨h.nd, by simp, fun a ha b hb => by simp at hb; subst hb; exact fun e => hn (e ▸ ha)⟩
  · rw [List.mem_append, h.mem s]
    by_cases es : s = x
    · subst es
      rw [decide_eq_true rfl]
      exact ⟨fun _ => ⟨⟨p, hx, hp⟩, by simp⟩, fun _ => .inr (by simp)⟩
    · rw [decide_eq_false es]
      simp [es]
/-- Sorted they are all that is seen. -/
theorem Coll.all {U L : BS} {n : Nd} {r1 r2 : Nat} {left : ByteArray → Bool} {ns l : List ByteArray} (hU : Inv U r1) (hL : Inv L r2) (hl : lstV U L n = 0) (h : Coll U L (pairF U L n) left ns) (h0 : ∀ s, left s = false) (hp : l.Perm ns) (hs : l.Pairwise fun a b => lessB b a = false) : AllV U L n l := by
  refine ⟨?_, fun s => ?_⟩
  · have hn : l.Nodup := hp.nodup_iff.2 h.nd
    have := hs.and hn
    refine this.imp fun {a b} ⟨h1, h2⟩ => ?_
    rw [dn.less_total h2, h1]; rfl
  · rw [hp.mem_iff, h.mem s, seen_names hU hL n s hl]
    exact ⟨fun e => e.1, fun e => ⟨e, h0 s⟩⟩
end Go.Proofs.YtnnaoldpacbagaaGreat.mg
end
section
namespace Go.Proofs.YtnnaoldpacbagaaGreat.mg
open Go.Shelf Go.RowKit Go.Lib Go.Sort
open Go.Proofs.YtnnaoldpacbagaaGreat.dn (lessB)
set_option linter.unusedVariables false
set_option linter.unusedSimpArgs false

theorem heap_putRow {α : Type} [Inhabited α] (enc : α → Value) (w : World) (blk off : Nat) (d : Array α) {k : Nat} (h : k ≠ blk) : (putRow enc w blk off d).heap[k]? = w.heap[k]? := by
  unfold putRow mapBlock
  simp [Array.getElem?_modify, h.symm]
def SortE (w : World) (lo : Nat) (A : Option Addr) (ns : List ByteArray) (e : Ending) (w' : World) : Prop :=
  ∃ l : List ByteArray, e = .returned (.tuple #[]) ∧ l.Perm ns ∧ (l.Pairwise fun a b => lessB b a = false) ∧ NR w' lo A l ∧ Below lo w w'
theorem pair_few {ns : List ByteArray} (h : ns.length ≤ 1) : ns.Pairwise fun a b => lessB b a = false := by
  match ns, h with
  | [], _ => exact List.Pairwise.nil
  | [x], _ => exact List.pairwise_singleton _ _
  | x :: y :: r, h => simp at h
theorem sort_any {w : World} {lo gq c : Nat} {A : Option Addr} {ns : List ByteArray} (hN : NR w lo A ns) (hl : ns.length ≤ 8000) (hB : w.cell? ⟨gq, 0, none⟩ = some (.slice A ns.length c)) (hg : gq < lo) (hlo : lo ≤ w.heap.size) :
    Calls Tryz.prog 62 #[.iface 43 (.slice A ns.length c), .func (.func 63) #[] #[.pointer (some ⟨gq, 0, none⟩)]] w (SortE w lo A ns) := by
  by_cases h1 : ns.length ≤ 1
  · refine (sort_few A ns.length c h1 _ w).mono ?_
    rintro e w' ⟨rfl, os, rfl⟩
    refine ⟨ns, rfl, List.Perm.refl _, pair_few h1, hN.same (by simp) (fun b _ hb => heap_grow_old w os hb), ⟨rfl, rfl, rfl, by simp, fun k hk => heap_grow_old w os (by omega)⟩⟩
  · have h0 : ns[0]? = some ns[0] := List.getElem?_eq_getElem (by omega)
    obtain ⟨G, hA, hG1, hG2, _, _⟩ := hN 0 _ h0
    subst hA
    have hsz : ns.toArray.size = ns.length := by simp
    have hH : Holds Value.string w G 0 ns.toArray := fun j hj => by
      rw [hsz] at hj
      obtain ⟨G', e, _, _, h3, h4⟩ := hN j _ (List.getElem?_eq_getElem hj)
      injection e with e
      injection e with e
      subst e
      rw [Nat.zero_add]
      refine ⟨?_, h4⟩
      rw [h3, getElem!_pos _ j (by rw [hsz]; exact hj)]
      simp
    have hS := sort_more G 0 c gq ns.toArray (by rw [hsz]; omega) (by rw [hsz]; omega) w (by rw [hsz]; exact hB) (by omega) hH hG2
    rw [hsz] at hS
    refine hS.mono ?_
    rintro e w' ⟨rfl, d', n, os, hp, hso, rfl⟩
    obtain ⟨p1, _, p3⟩ := hp
    rw [hsz] at p1
    have hH2 : Holds Value.string (grow (putRow Value.string (Sort.ahead w n) G 0 d') os) G 0 d' := holds_grow _ _ _ _ _ _ (by rw [size_putRow]; exact hG2) (holds_putRow _ _ _ _ ns.toArray _ (holds_ahead _ _ _ _ _ _ hH) (by rw [hsz]; exact p1))
    refine ⟨d'.toList, rfl, ?_, ?_, ?_, ?_⟩
    · have e1 : d'.extract 0 ns.length = d' := by rw [← p1]; simp
      have e2 : ns.toArray.extract 0 ns.length = ns.toArray := by rw [← hsz]; simp
      rw [e1, e2] at p3
      simpa using p3
    · rw [List.pairwise_iff_getElem]
      intro i j hi hj hij
      have := hso i j (Nat.zero_le _) hij (by simpa [p1] using hj)
      rw [getElem!_pos _ j (by simpa using hj), getElem!_pos _ i (by simpa using hi)] at this
      simpa using this
    · intro k x hx
      have hk : k < d'.size := by have := (List.getElem?_eq_some_iff.1 hx).1; simpa using this
      obtain ⟨h3, h4⟩ := hH2 k hk
      rw [Nat.zero_add] at h3 h4
      refine ⟨G, rfl, hG1, by rw [size_grow, size_putRow]; show G < w.heap.size + _; omega, ?_, h4⟩
      rw [h3, getElem!_pos _ k hk]
      have : d'[k] = x := by
        have h5 := (List.getElem?_eq_some_iff.1 hx).2
        simpa using h5
      rw [this]
    · refine ⟨rfl, rfl, rfl, by rw [size_grow, size_putRow]; show w.heap.size ≤ w.heap.size + _; omega, fun k hk => ?_⟩
      rw [heap_grow_old _ _ (by rw [size_putRow]; show k < w.heap.size; omega), heap_putRow _ _ _ _ _ (by omega)]
      rfl
end Go.Proofs.YtnnaoldpacbagaaGreat.mg
end
