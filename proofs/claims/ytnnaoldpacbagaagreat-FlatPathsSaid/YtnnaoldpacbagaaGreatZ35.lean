/- A view's lines: each one's directory ahead of it, names rising, no path twice; mathematics. Maps of the call's own, by name: to a bool, to a name. A view's lines, walked through with three maps: what the maps say behind some lines. -/
import Derived.Test.YtnnaoldpacbagaaGreatZ32
import Derived.Test.YtnnaoldpacbagaaGreatZ24
import Derived.Laws.Strings3
section
namespace Go.Proofs.YtnnaoldpacbagaaGreat.fl
open Go.RowKit
open Go.Proofs.YtnnaoldpacbagaaGreat.dn (En lget lset ldel nerr dotB Sorted lessB)
open Go.Proofs.YtnnaoldpacbagaaGreat.br (BS Ino Inv Tree sumF fresh)
open Go.Proofs.YtnnaoldpacbagaaGreat.mg (Nd opq kindV lstV belV seenV pairV getV rootV AllV)
set_option linter.unusedVariables false
set_option linter.unusedSimpArgs false

/-- A line, its path as a directory's and a name. -/
structure Zn where
  q : ByteArray
  s : ByteArray
  kind : Int
  data : ByteArray
def Zn.path (z : Zn) : ByteArray := z.q ++ slB ++ z.s
def Zn.ln (z : Zn) : Ln := ⟨z.path, z.kind, z.data⟩
noncomputable def linesZ (U L : BS) : Nat → Nd → ByteArray → List Zn
  | 0, _, _ => []
  | d + 1, n, at_ => (namesV U L n).flatMap fun s => ⟨at_, s, kindV U L (getV U L n s).1, contV U L (getV U L n s).1⟩ :: linesZ U L d (getV U L n s).1 (at_ ++ slB ++ s)
theorem linesZ_ln (U L : BS) : ∀ (d : Nat) (n : Nd) (at_ : ByteArray), (linesZ U L d n at_).map Zn.ln = linesV U L d n at_
  | 0, _, _ => rfl
  | d + 1, n, at_ => by
    unfold linesZ linesV
    rw [List.map_flatMap]
    congr 1
    funext s
    rw [List.map_cons, linesZ_ln U L d]
    rfl
abbrev bl8 (s : ByteArray) : List UInt8 := s.data.toList
def noSl (s : ByteArray) : Prop := (47 : UInt8) ∉ bl8 s
theorem bl8_app (a b : ByteArray) : bl8 (a ++ b) = bl8 a ++ bl8 b := by
  unfold bl8
  rw [ByteArray.data_append, Array.toList_append]
theorem bl8_inj {a b : ByteArray} (h : bl8 a = bl8 b) : a = b := by rw [← Lib.mk_data a, ← Lib.mk_data b]; unfold bl8 at h; rw [h]
/-- What stands behind a directory's path. -/
def pre (q : ByteArray) (p : ByteArray) : Prop := (bl8 q ++ [47]) <+: bl8 p
theorem path_bl (z : Zn) : bl8 z.path = bl8 z.q ++ [47] ++ bl8 z.s := by unfold Zn.path; rw [bl8_app, bl8_app]; rfl
theorem sl_pre {a b : List UInt8} (ha : (47 : UInt8) ∉ a) (hb : (47 : UInt8) ∉ b) {r t : List UInt8} (h : a ++ 47 :: r = b ++ 47 :: t) : a = b := by
  induction a generalizing b with
  | nil =>
    cases b with
    | nil => rfl
    | cons y b =>
      simp only [List.nil_append, List.cons_append, List.cons.injEq] at h
      exact absurd (h.1 ▸ List.mem_cons_self) hb
  | cons x a ih =>
    cases b with
    | nil =>
      simp only [List.nil_append, List.cons_append, List.cons.injEq] at h
      exact absurd (h.1 ▸ List.mem_cons_self) ha
    | cons y b =>
      simp only [List.cons_append, List.cons.injEq] at h
      rw [h.1, ih (fun e => ha (List.mem_cons_of_mem _ e)) (fun e => hb (List.mem_cons_of_mem _ e)) h.2]
theorem sl_none {a b : List UInt8} (hb : (47 : UInt8) ∉ b) {r : List UInt8} (h : a ++ 47 :: r = b) : False := hb (h ▸ by simp)
/-- Is a directory's path there. -/
def hasDir (Z : List Zn) (p : ByteArray) : Prop := p = ⟨#[]⟩ ∨ ∃ z ∈ Z, z.kind = 2 ∧ z.path = p
/-- The last name in a directory. -/
def lastN (Z : List Zn) (q : ByteArray) : ByteArray := Z.foldl (fun a z => if z.q = q then z.s else a) ⟨#[]⟩
/-- What the law asks of a line behind others. -/
structure OkZ (Z : List Zn) (z : Zn) : Prop where
  new : ∀ y ∈ Z, y.path ≠ z.path
  dir : hasDir Z z.q
  up : lessB (lastN Z z.q) z.s = true
  k1 : 1 ≤ z.kind
  k3 : z.kind ≤ 3
  empty : z.kind = 2 → z.data = ⟨#[]⟩
  ns : noSl z.s
  sz : z.path.size ≤ 30000
def OkAll (P Z : List Zn) : Prop := ∀ i z, Z[i]? = some z → OkZ (P ++ Z.take i) z
theorem OkAll.nil (P : List Zn) : OkAll P [] := fun i z h => by cases h
theorem OkAll.cons {P Z : List Zn} {z : Zn} (h : OkZ P z) (k : OkAll (P ++ [z]) Z) : OkAll P (z :: Z) := fun i y hy => by
  cases i with
  | zero => injection hy with hy; subst hy; simpa using h
  | succ i =>
    have := k i y hy
    rw [List.append_assoc] at this
    exact this
theorem OkAll.app {P Z Y : List Zn} (h : OkAll P Z) (k : OkAll (P ++ Z) Y) : OkAll P (Z ++ Y) := fun i y hy => by
  by_cases hi : i < Z.length
  · rw [List.getElem?_append_left hi] at hy
    have := h i y hy
    rwa [List.take_append_of_le_length (Nat.le_of_lt hi)]
  · have hi' := Nat.le_of_not_lt hi
    rw [List.getElem?_append_right hi'] at hy
    have := k (i - Z.length) y hy
    rw [List.take_append, List.take_of_length_le hi', ← List.append_assoc]
    exact this
theorem lastN_app (Z Y : List Zn) (q : ByteArray) (h : ∀ y ∈ Y, y.q ≠ q) : lastN (Z ++ Y) q = lastN Z q := by
  unfold lastN
  rw [List.foldl_append]
  generalize Z.foldl (fun a z => if z.q = q then z.s else a) ⟨#[]⟩ = a
  induction Y generalizing a with
  | nil => rfl
  | cons y Y ih =>
    rw [List.foldl_cons, if_neg (h y List.mem_cons_self)]
    exact ih (fun y hy => h y (List.mem_cons_of_mem _ hy)) a
theorem lastN_one (Z : List Zn) (z : Zn) : lastN (Z ++ [z]) z.q = z.s := by unfold lastN; rw [List.foldl_append, List.foldl_cons, List.foldl_nil, if_pos rfl]
theorem lastN_none {Z : List Zn} {q : ByteArray} (h : ∀ y ∈ Z, y.q ≠ q) : lastN Z q = ⟨#[]⟩ := by have := lastN_app [] Z q h; rwa [List.nil_append] at this
theorem hasDir.more {Z Y : List Zn} {p : ByteArray} (h : hasDir Z p) : hasDir (Z ++ Y) p := h.imp id fun ⟨z, a, b⟩ => ⟨z, List.mem_append.2 (.inl a), b⟩
theorem path_pre (z : Zn) : pre z.q z.path := ⟨bl8 z.s, by rw [path_bl]⟩
theorem pre_up {q s p : ByteArray} (h : pre (q ++ slB ++ s) p) : pre q p := by
  obtain ⟨t, h⟩ := h
  refine ⟨bl8 s ++ 47 :: t, ?_⟩
  rw [← h, bl8_app, bl8_app]
  show _ = bl8 q ++ [47] ++ bl8 s ++ [47] ++ t
  simp
theorem pre_two {q s s' p : ByteArray} (hs : noSl s) (hs' : noSl s') (h : pre (q ++ slB ++ s) p) (k : pre (q ++ slB ++ s') p) : s = s' := by
  obtain ⟨t, h⟩ := h
  obtain ⟨t', k⟩ := k
  rw [← h, bl8_app, bl8_app, bl8_app, bl8_app] at k
  have e : bl8 s' ++ 47 :: t' = bl8 s ++ 47 :: t := by
    have k' : bl8 q ++ [47] ++ (bl8 s' ++ 47 :: t') = bl8 q ++ [47] ++ (bl8 s ++ 47 :: t) := by
      have : bl8 slB = [47] := rfl
      rw [this] at k
      simpa [List.append_assoc] using k
    exact List.append_cancel_left k'
  exact (bl8_inj (sl_pre hs' hs e)).symm
theorem pre_name {q s s' : ByteArray} (hs' : noSl s') (h : pre (q ++ slB ++ s) (q ++ slB ++ s')) : False := by
  obtain ⟨t, h⟩ := h
  rw [bl8_app, bl8_app, bl8_app, bl8_app] at h
  have e : bl8 s ++ 47 :: t = bl8 s' := by
    have k' : bl8 q ++ [47] ++ (bl8 s ++ 47 :: t) = bl8 q ++ [47] ++ bl8 s' := by
      have : bl8 slB = [47] := rfl
      rw [this] at h
      simpa [List.append_assoc] using h
    exact List.append_cancel_left k'
  exact sl_none hs' e
theorem name_inj {q s s' : ByteArray} (h : q ++ slB ++ s = q ++ slB ++ s') : s = s' := by
  have := congrArg bl8 h
  rw [bl8_app, bl8_app, bl8_app, bl8_app] at this
  exact bl8_inj (List.append_cancel_left this)
theorem self_not {q s : ByteArray} (h : q ++ slB ++ s = q) : False := by
  have : (bl8 (q ++ slB ++ s)).length = (bl8 q).length := by rw [h]
  rw [bl8_app, bl8_app, List.length_append, List.length_append] at this
  have h1 : (bl8 slB).length = 1 := rfl
  omega
theorem pre_self {q : ByteArray} (h : pre q q) : False := by
  obtain ⟨t, h⟩ := h
  have := congrArg List.length h
  simp only [List.length_append, List.length_cons, List.length_nil] at this
  omega
/-- What is known of the lines ahead, where the names that are done are below those to come. -/
structure Ahead (P : List Zn) (at_ : ByteArray) (l : List ByteArray) : Prop where
  dir : hasDir P at_
  done : ∀ z ∈ P, pre at_ z.path → ∃ s', noSl s' ∧ (z.path = at_ ++ slB ++ s' ∨ pre (at_ ++ slB ++ s') z.path) ∧ ∀ s ∈ l, lessB s' s = true
  last : ∀ s ∈ l, lessB (lastN P at_) s = true
theorem less_nil {s : ByteArray} (h : s ≠ ⟨#[]⟩) : lessB ⟨#[]⟩ s = true := by
  have : bl8 s ≠ [] := fun e => h (bl8_inj (e.trans rfl))
  unfold lessB
  rw [Lib.toList_data, Lib.toList_data]
  unfold bl8 at this
  cases hs : s.data.toList with
  | nil => exact absurd hs this
  | cons x t => rfl
theorem name_ok {U L : BS} {r1 r2 : Nat} (hU : Inv U r1) (hL : Inv L r2) {n : Nd} {s : ByteArray} (h : (getV U L n s).2 = 0) : noSl s ∧ s ≠ ⟨#[]⟩ ∧ s.size ≤ 60 := by
  have h1 := wN_step hU hL n s h
  have one : ∀ {S : BS} {r : Nat} {d : Int}, Inv S r → got S d s ≠ 0 → nerr s.data.toList = 0 := fun {S r d} hI hg => by
    unfold got at hg
    split at hg
    · rename_i e
      obtain ⟨D, _, _, _, _, h4⟩ := br.get_ok e
      exact (hI.good D _ ((dn.lget_some (hI.sorted D)).1 h4)).1
    · exact absurd rfl hg
  have hn : nerr s.data.toList = 0 := by
    by_cases e : got U n.1 s = 0
    · exact one hL (d := n.2) (by omega)
    · exact one hU e
  refine ⟨?_, ?_, (cb.nerr_len hn).2⟩
  · intro hm
    have : nerr s.data.toList ≠ 0 := by
      unfold nerr
      split
      · decide
      · split
        · decide
        · rw [if_pos (.inr hm)]; decide
    exact this hn
  · rintro rfl
    have := (cb.nerr_len hn).1
    exact absurd this (by decide)
theorem kind_in {S : BS} {r : Nat} (hI : Inv S r) (i : Int) : 0 ≤ S.kindOf i ∧ S.kindOf i ≤ 4 := by
  unfold BS.kindOf
  split
  · exact hI.kinds _
  · exact ⟨by decide, by decide⟩
theorem kindV_in {U L : BS} {r1 r2 : Nat} (hU : Inv U r1) (hL : Inv L r2) {n : Nd} (h : kindV U L n ≠ 0) : 1 ≤ kindV U L n ∧ kindV U L n ≤ 3 := by
  obtain ⟨K, hK, hb⟩ : ∃ K : Int, (if n.1 ≠ 0 then U.kindOf n.1 else L.kindOf n.2) = K ∧ 0 ≤ K ∧ K ≤ 4 := ⟨_, rfl, by split; exact kind_in hU n.1; exact kind_in hL n.2⟩
  unfold kindV at h ⊢
  rw [hK] at h ⊢
  split at h
  · exact absurd rfl h
  · rename_i e
    rw [if_neg e]; omega
theorem names_leaf {U L : BS} {n : Nd} (h : kindV U L n ≠ 2) : namesV U L n = [] := by
  refine names_no ?_
  rcases mg.lst_cases U L n with ⟨a, _⟩ | ⟨_, a⟩ | ⟨a, _⟩
  · omega
  · exact absurd a h
  · omega
theorem linesZ_leaf {U L : BS} {d : Nat} {n : Nd} {at_ : ByteArray} (h : kindV U L n ≠ 2) : linesZ U L d n at_ = [] := by
  cases d with
  | zero => rfl
  | succ d => unfold linesZ; rw [names_leaf h]; rfl
theorem cont_dir {U L : BS} {n : Nd} (h : kindV U L n = 2) : contV U L n = ⟨#[]⟩ := by unfold contV; rw [h]; rfl
theorem OkAll.mem {P Z : List Zn} (h : OkAll P Z) {z : Zn} (hz : z ∈ Z) : ∃ Y, OkZ Y z := by
  obtain ⟨i, hi⟩ := List.mem_iff_getElem?.1 hz
  exact ⟨_, h i z hi⟩
theorem less_irr {s : ByteArray} (h : lessB s s = true) : False := by rw [dn.less_irrefl] at h; cases h
/-- One name's line and those below it. -/
noncomputable def lineN (U L : BS) (d : Nat) (n : Nd) (at_ s : ByteArray) : List Zn := ⟨at_, s, kindV U L (getV U L n s).1, contV U L (getV U L n s).1⟩ :: linesZ U L d (getV U L n s).1 (at_ ++ slB ++ s)
theorem size3 (a s : ByteArray) : (a ++ slB ++ s).size = a.size + 1 + s.size := by rw [ByteArray.size_append, ByteArray.size_append]; rfl
theorem linesZ_ok {U L : BS} {r : Nat} (hU : Inv U r) (hL : Inv L r) : ∀ (d : Nat) (n : Nd) (at_ : ByteArray) (P : List Zn), at_.size + 61 * d ≤ 30000 → Ahead P at_ (namesV U L n) →
    OkAll P (linesZ U L d n at_) ∧ ∀ z ∈ linesZ U L d n at_, pre at_ z.path
  | 0, _, _, _, _, _ => ⟨OkAll.nil _, fun z h => by cases h⟩
  | d + 1, n, at_, P, hd, hA => by
    obtain ⟨l0, hl0⟩ := allV_ex hU hL n
    have e0 := namesV_eq hl0
    unfold linesZ
    rw [e0] at hA ⊢
    have hg : ∀ s ∈ l0, (getV U L n s).2 = 0 := fun s hs => (hl0.mem s).1 hs
    have hr := hl0.rise
    clear e0 hl0
    show OkAll P (l0.flatMap (lineN U L d n at_)) ∧ ∀ z ∈ l0.flatMap (lineN U L d n at_), pre at_ z.path
    induction l0 generalizing P with
    | nil => exact ⟨OkAll.nil _, fun z h => by cases h⟩
    | cons s l ih =>
      obtain ⟨n1, n2, n3⟩ := name_ok hU hL (hg s List.mem_cons_self)
      have hk := kindV_in hU hL (mg.get_down hU hL n s (hg s List.mem_cons_self)).kind
      rw [List.pairwise_cons] at hr
      obtain ⟨z, ez⟩ : ∃ z : Zn, z = ⟨at_, s, kindV U L (getV U L n s).1, contV U L (getV U L n s).1⟩ := ⟨_, rfl⟩
      have zq : z.q = at_ := by rw [ez]
      have zs : z.s = s := by rw [ez]
      have zp : z.path = at_ ++ slB ++ s := by rw [ez]; rfl
      have hz : OkZ P z := by
        refine ⟨fun y hy e => ?_, zq ▸ hA.dir, by rw [zq, zs]; exact hA.last s List.mem_cons_self, by rw [ez]; exact hk.1, by rw [ez]; exact hk.2, fun e => by rw [ez] at e ⊢; exact cont_dir e, zs ▸ n1, by rw [zp, size3]; omega⟩
        rw [zp] at e
        have hp : pre at_ y.path := by have := path_pre z; rw [zq, zp, ← e] at this; exact this
        obtain ⟨s', a, b, c⟩ := hA.done y hy hp
        rw [e] at b
        rcases b with b | b
        · have := name_inj b; subst this; exact less_irr (c _ List.mem_cons_self)
        · exact pre_name n1 b
      have hno : ∀ y ∈ P ++ [z], pre (at_ ++ slB ++ s) y.path → False := fun y hy hp => by
        rcases List.mem_append.1 hy with hy | hy
        · obtain ⟨s', a, b, c⟩ := hA.done y hy (pre_up hp)
          rcases b with b | b
          · rw [b] at hp; exact pre_name a hp
          · have := pre_two n1 a hp b; subst this; exact less_irr (c _ List.mem_cons_self)
        · rw [List.mem_singleton] at hy; rw [hy, zp] at hp; exact pre_self hp
      have hB : OkAll (P ++ [z]) (linesZ U L d (getV U L n s).1 (at_ ++ slB ++ s)) ∧ ∀ y ∈ linesZ U L d (getV U L n s).1 (at_ ++ slB ++ s), pre (at_ ++ slB ++ s) y.path := by
        by_cases k2 : kindV U L (getV U L n s).1 = 2
        · refine linesZ_ok hU hL d (getV U L n s).1 (at_ ++ slB ++ s) (P ++ [z]) (by rw [size3]; omega) ⟨?_, fun y hy hp => (hno y hy hp).elim, fun s2 hs2 => ?_⟩
          · exact .inr ⟨z, List.mem_append.2 (.inr List.mem_cons_self), by rw [ez]; exact k2, zp⟩
          · rw [lastN_none fun y hy e => hno y hy (by have := path_pre y; rw [e] at this; exact this)]
            obtain ⟨lx, hlx⟩ := allV_ex hU hL (getV U L n s).1
            rw [namesV_eq hlx] at hs2
            exact less_nil (name_ok hU hL ((hlx.mem s2).1 hs2)).2.1
        · rw [linesZ_leaf k2]
          exact ⟨OkAll.nil _, fun z h => by cases h⟩
      have hC : Ahead (P ++ lineN U L d n at_ s) at_ l := by
        unfold lineN
        rw [← ez]
        refine ⟨hA.dir.more, fun y hy hp => ?_, fun s2 hs2 => ?_⟩
        · rcases List.mem_append.1 hy with hy | hy
          · obtain ⟨s', a, b, c⟩ := hA.done y hy hp
            exact ⟨s', a, b, fun s2 h2 => c s2 (List.mem_cons_of_mem _ h2)⟩
          · refine ⟨s, n1, ?_, hr.1⟩
            rcases List.mem_cons.1 hy with hy | hy
            · exact .inl (hy ▸ zp)
            · exact .inr (hB.2 y hy)
        · have e1 : P ++ z :: linesZ U L d (getV U L n s).1 (at_ ++ slB ++ s) = (P ++ [z]) ++ linesZ U L d (getV U L n s).1 (at_ ++ slB ++ s) := by simp
          rw [e1, lastN_app _ _ _ fun y hy e => ?_]
          · have := lastN_one P z
            rw [zq, zs] at this
            rw [this]
            exact hr.1 s2 hs2
          · obtain ⟨Y, hY⟩ := hB.1.mem hy
            have h1 := hB.2 y hy
            have h2 : y.path = at_ ++ slB ++ y.s := by rw [← e]; rfl
            rw [h2] at h1
            exact pre_name hY.ns h1
      obtain ⟨i1, i2⟩ := ih _ hC (fun s2 h2 => hg s2 (List.mem_cons_of_mem _ h2)) hr.2
      rw [List.flatMap_cons]
      refine ⟨OkAll.app ?_ i1, fun y hy => ?_⟩
      · unfold lineN
        rw [← ez]
        exact OkAll.cons hz hB.1
      · rcases List.mem_append.1 hy with hy | hy
        · unfold lineN at hy
          rw [← ez] at hy
          rcases List.mem_cons.1 hy with hy | hy
          · have := path_pre z
            rw [zq] at this
            rw [hy]; exact this
          · exact pre_up (hB.2 y hy)
        · exact i2 y hy
theorem top_ok {U L : BS} {r : Nat} (hU : Inv U r) (hL : Inv L r) (n : Nd) : OkAll [] (linesZ U L 202 n ⟨#[]⟩) :=
  (linesZ_ok hU hL 202 n ⟨#[]⟩ [] (by decide) ⟨.inl rfl, fun z h => (nomatch h), fun s hs => by
    obtain ⟨lx, hlx⟩ := allV_ex hU hL n
    rw [namesV_eq hlx] at hs
    exact less_nil (name_ok hU hL ((hlx.mem s).1 hs)).2.1⟩).1
end Go.Proofs.YtnnaoldpacbagaaGreat.fl
end
section
namespace Go.Proofs.YtnnaoldpacbagaaGreat.fl
open Go.RowKit
open Go.Maps (Keyed IsMap isMap_empty atKey_put_same atKey_put_other string_keyed has_put_same has_put_other atKey_of_not_has)
open Go.WideMaps (keyOf_string_mk string_of_keyOf)
open Go.Proofs.YtnnaoldpacbagaaGreat.mg (RV k9)
set_option linter.unusedVariables false
set_option linter.unusedSimpArgs false
set_option maxRecDepth 100000
def bput (f : ByteArray → Option Bool) (a : ByteArray) (v : Bool) : ByteArray → Option Bool := fun x => if x = a then some v else f x
/-- Block M is a map: at each name what f says. -/
def MapB (w : World) (M S : Nat) (f : (ByteArray → Option Bool)) : Prop :=
  ∃ D : DataW Value, w.ownsMap Tryz.prog 9 RV M S D ∧ IsMap D ∧ (∀ a : ByteArray, Maps.has D (.string a.data.toList) = (f a).isSome) ∧ (∀ (a : ByteArray) v zd, f a = some v → D.atKey (.string a.data.toList) zd = .held (.bool v))
theorem MapB.made (w : World) : MapB (w.alloc (.map #[] 0)) w.heap.size 0 (fun _ => none) := ⟨.map [], World.ownsMap_made _ _ _ _, isMap_empty, fun a => rfl, fun a v zd h => (nomatch h)⟩
theorem str_inj_B {a b : ByteArray} (h : Lit.string a.data.toList = Lit.string b.data.toList) : a = b := by
  injection h with h
  rw [← Lib.mk_data a, ← Lib.mk_data b, h]
section
variable {w : World} {M S : Nat} {f : (ByteArray → Option Bool)}
theorem MapB.lt (h : MapB w M S f) : M < w.heap.size := by obtain ⟨D, h, _⟩ := h; exact h.lt
theorem MapB.of_block {w' : World} (h : MapB w M S f) (hb : w'.heap[M]? = w.heap[M]?) : MapB w' M S f := by
  obtain ⟨D, ⟨es, clock, h1, h2⟩, r⟩ := h
  exact ⟨D, ⟨es, clock, hb.trans h1, h2⟩, r⟩
theorem MapB.below {w' : World} (h : MapB w M S f) (hb : Below w.heap.size w w') : MapB w' M S f := h.of_block (hb.block M h.lt)
theorem MapB.put (h : MapB w M S f) (hn : S ≤ 4000000) {a : ByteArray} (ha : a.size ≤ maxLen) (v : Bool) :
    ∃ w', (Instr.mapUpdate 76 (.map (some M)) (.string a) (.bool v)).run Tryz.prog w = .ok () w' ∧ MapB w' M (S + 1) (bput f a v) ∧ w.grownBy w' (some M) := by
  obtain ⟨D, h1, h2, h3, h4⟩ := h
  obtain ⟨w', hrun, hown, hg⟩ := h1.update (string_keyed k9) Tryz.underlying76 (by unfold maxLen; omega) (keyOf_string_mk k9 ha) (show RV (.bool v) = some (.held (.bool v), []) from rfl)
  refine ⟨w', hrun, ⟨_, hown, h2.put _ _, fun x => ?_, fun x u zd hx => ?_⟩, hg⟩
  · unfold bput
    by_cases e : x = a
    · subst e; rw [if_pos rfl, has_put_same h2 (show WideAt.IsKeyLit (.string x.data.toList) from trivial)]; rfl
    · rw [if_neg e, has_put_other (fun h => e (str_inj_B h)), h3]
  · unfold bput at hx
    by_cases e : x = a
    · subst e
      rw [if_pos rfl] at hx
      injection hx with hx
      subst hx
      exact atKey_put_same h2 (show WideAt.IsKeyLit (.string x.data.toList) from trivial) _ _
    · rw [if_neg e] at hx
      rw [atKey_put_other (fun h => e (str_inj_B h))]
      exact h4 x u zd hx
theorem MapB.look (h : MapB w M S f) {a : ByteArray} (ha : a.size ≤ maxLen) :
    (Instr.lookup 76 (.map (some M)) (.string a) false).run Tryz.prog w = .ok (.bool ((f a).getD false)) w := by
  obtain ⟨D, h1, h2, h3, h4⟩ := h
  obtain ⟨v, ps, hrun, hv⟩ := h1.lookup (string_keyed k9) Tryz.underlying76 (z := .bool false) (by kernel_rfl) (show RV (.bool false) = some (.held (.bool false), []) from rfl) (keyOf_string_mk k9 ha)
  rw [hrun]
  unfold RV at hv
  injection hv with hv
  injection hv with hv
  cases hf : f a with
  | some u => rw [h4 a u _ hf] at hv; injection hv with hv; rw [hv]; rfl
  | none =>
    rw [atKey_of_not_has (by rw [h3, hf]; rfl)] at hv
    injection hv with hv; rw [hv]; rfl
end
def tput (f : ByteArray → Option ByteArray) (a : ByteArray) (v : ByteArray) : ByteArray → Option ByteArray := fun x => if x = a then some v else f x
/-- Block M is a map: at each name what f says. -/
def MapT (w : World) (M S : Nat) (f : (ByteArray → Option ByteArray)) : Prop :=
  ∃ D : DataW Value, w.ownsMap Tryz.prog 9 RV M S D ∧ IsMap D ∧ (∀ a : ByteArray, Maps.has D (.string a.data.toList) = (f a).isSome) ∧ (∀ (a : ByteArray) v zd, f a = some v → D.atKey (.string a.data.toList) zd = .held (.string v))
theorem MapT.made (w : World) : MapT (w.alloc (.map #[] 0)) w.heap.size 0 (fun _ => none) := ⟨.map [], World.ownsMap_made _ _ _ _, isMap_empty, fun a => rfl, fun a v zd h => (nomatch h)⟩
theorem str_inj_T {a b : ByteArray} (h : Lit.string a.data.toList = Lit.string b.data.toList) : a = b := by
  injection h with h
  rw [← Lib.mk_data a, ← Lib.mk_data b, h]
section
variable {w : World} {M S : Nat} {f : (ByteArray → Option ByteArray)}
theorem MapT.lt (h : MapT w M S f) : M < w.heap.size := by obtain ⟨D, h, _⟩ := h; exact h.lt
theorem MapT.of_block {w' : World} (h : MapT w M S f) (hb : w'.heap[M]? = w.heap[M]?) : MapT w' M S f := by
  obtain ⟨D, ⟨es, clock, h1, h2⟩, r⟩ := h
  exact ⟨D, ⟨es, clock, hb.trans h1, h2⟩, r⟩
theorem MapT.below {w' : World} (h : MapT w M S f) (hb : Below w.heap.size w w') : MapT w' M S f := h.of_block (hb.block M h.lt)
theorem MapT.put (h : MapT w M S f) (hn : S ≤ 4000000) {a : ByteArray} (ha : a.size ≤ maxLen) (v : ByteArray) :
    ∃ w', (Instr.mapUpdate 77 (.map (some M)) (.string a) (.string v)).run Tryz.prog w = .ok () w' ∧ MapT w' M (S + 1) (tput f a v) ∧ w.grownBy w' (some M) := by
  obtain ⟨D, h1, h2, h3, h4⟩ := h
  obtain ⟨w', hrun, hown, hg⟩ := h1.update (string_keyed k9) Tryz.underlying77 (by unfold maxLen; omega) (keyOf_string_mk k9 ha) (show RV (.string v) = some (.held (.string v), []) from rfl)
  refine ⟨w', hrun, ⟨_, hown, h2.put _ _, fun x => ?_, fun x u zd hx => ?_⟩, hg⟩
  · unfold tput
    by_cases e : x = a
    · subst e; rw [if_pos rfl, has_put_same h2 (show WideAt.IsKeyLit (.string x.data.toList) from trivial)]; rfl
    · rw [if_neg e, has_put_other (fun h => e (str_inj_T h)), h3]
  · unfold tput at hx
    by_cases e : x = a
    · subst e
      rw [if_pos rfl] at hx
      injection hx with hx
      subst hx
      exact atKey_put_same h2 (show WideAt.IsKeyLit (.string x.data.toList) from trivial) _ _
    · rw [if_neg e] at hx
      rw [atKey_put_other (fun h => e (str_inj_T h))]
      exact h4 x u zd hx
theorem MapT.look (h : MapT w M S f) {a : ByteArray} (ha : a.size ≤ maxLen) :
    (Instr.lookup 77 (.map (some M)) (.string a) false).run Tryz.prog w = .ok (.string ((f a).getD ⟨#[]⟩)) w := by
  obtain ⟨D, h1, h2, h3, h4⟩ := h
  obtain ⟨v, ps, hrun, hv⟩ := h1.lookup (string_keyed k9) Tryz.underlying77 (z := .string ⟨#[]⟩) (by kernel_rfl) (show RV (.string ⟨#[]⟩) = some (.held (.string ⟨#[]⟩), []) from rfl) (keyOf_string_mk k9 ha)
  rw [hrun]
  unfold RV at hv
  injection hv with hv
  injection hv with hv
  cases hf : f a with
  | some u => rw [h4 a u _ hf] at hv; injection hv with hv; rw [hv]; rfl
  | none =>
    rw [atKey_of_not_has (by rw [h3, hf]; rfl)] at hv
    injection hv with hv; rw [hv]; rfl
end
end Go.Proofs.YtnnaoldpacbagaaGreat.fl
end
section
namespace Go.Proofs.YtnnaoldpacbagaaGreat.fl
open Go.RowKit
open Go.Proofs.YtnnaoldpacbagaaGreat.br (BS Ino Inv Tree sumF fresh)
set_option linter.unusedVariables false
set_option linter.unusedSimpArgs false

def stS (f : ByteArray → Option Bool) (z : Zn) : ByteArray → Option Bool := bput f z.path true
def stD (f : ByteArray → Option Bool) (z : Zn) : ByteArray → Option Bool := if z.kind = 2 then bput f z.path true else f
def stL (f : ByteArray → Option ByteArray) (z : Zn) : ByteArray → Option ByteArray := tput f z.q z.s
def seenF (Z : List Zn) : ByteArray → Option Bool := Z.foldl stS (fun _ => none)
def dirF (Z : List Zn) : ByteArray → Option Bool := Z.foldl stD (bput (fun _ => none) ⟨#[]⟩ true)
def lastF (Z : List Zn) : ByteArray → Option ByteArray := Z.foldl stL (fun _ => none)
theorem seen_no : ∀ (Z : List Zn) (f : ByteArray → Option Bool) (p : ByteArray), (∀ z ∈ Z, z.path ≠ p) → Z.foldl stS f p = f p
  | [], f, p, _ => rfl
  | z :: Z, f, p, h => by
    rw [List.foldl_cons, seen_no Z _ p fun y hy => h y (List.mem_cons_of_mem _ hy)]
    unfold stS bput
    rw [if_neg fun e => h z List.mem_cons_self e.symm]
theorem seen_look {Z : List Zn} {z : Zn} (h : OkZ Z z) : (seenF Z z.path).getD false = false := by
  unfold seenF; rw [seen_no Z _ _ h.new]; rfl
theorem dir_yes : ∀ (Z : List Zn) (f : ByteArray → Option Bool) (p : ByteArray), f p = some true ∨ (∃ z ∈ Z, z.kind = 2 ∧ z.path = p) → Z.foldl stD f p = some true
  | [], f, p, h => by rcases h with h | ⟨z, h, _⟩; exact h; cases h
  | z :: Z, f, p, h => by
    rw [List.foldl_cons]
    refine dir_yes Z _ p ?_
    unfold stD
    by_cases k : z.kind = 2
    · rw [if_pos k]
      unfold bput
      by_cases e : p = z.path
      · rw [if_pos e]; exact .inl rfl
      · rw [if_neg e]
        rcases h with h | ⟨y, hy, a, b⟩
        · exact .inl h
        · rcases List.mem_cons.1 hy with hy | hy
          · exact absurd (hy ▸ b).symm e
          · exact .inr ⟨y, hy, a, b⟩
    · rw [if_neg k]
      rcases h with h | ⟨y, hy, a, b⟩
      · exact .inl h
      · rcases List.mem_cons.1 hy with hy | hy
        · exact absurd (hy ▸ a) k
        · exact .inr ⟨y, hy, a, b⟩
theorem dir_look {Z : List Zn} {z : Zn} (h : OkZ Z z) : (dirF Z z.q).getD false = true := by
  unfold dirF
  rw [dir_yes Z _ z.q ?_]
  · rfl
  · rcases h.dir with e | e
    · rw [e]; exact .inl (by unfold bput; rw [if_pos rfl])
    · exact .inr e
theorem last_fold (q : ByteArray) : ∀ (Z : List Zn) (f : ByteArray → Option ByteArray) (a : ByteArray), (f q).getD ⟨#[]⟩ = a → (Z.foldl stL f q).getD ⟨#[]⟩ = Z.foldl (fun a z => if z.q = q then z.s else a) a
  | [], f, a, h => h
  | z :: Z, f, a, h => by
    rw [List.foldl_cons, List.foldl_cons]
    refine last_fold q Z _ _ ?_
    unfold stL tput
    by_cases e : q = z.q
    · rw [if_pos e, if_pos e.symm]; rfl
    · rw [if_neg e, if_neg (Ne.symm e)]; exact h
theorem last_look (Z : List Zn) (q : ByteArray) : (lastF Z q).getD ⟨#[]⟩ = lastN Z q := last_fold q Z _ _ rfl
theorem seenF_take {Z : List Zn} {i : Nat} {z : Zn} (h : Z[i]? = some z) : seenF (Z.take (i + 1)) = bput (seenF (Z.take i)) z.path true := by
  unfold seenF; rw [List.take_add_one, h, List.foldl_append]; rfl
theorem lastF_take {Z : List Zn} {i : Nat} {z : Zn} (h : Z[i]? = some z) : lastF (Z.take (i + 1)) = tput (lastF (Z.take i)) z.q z.s := by
  unfold lastF; rw [List.take_add_one, h, List.foldl_append]; rfl
theorem dirF_dir {Z : List Zn} {i : Nat} {z : Zn} (h : Z[i]? = some z) (k : z.kind = 2) : dirF (Z.take (i + 1)) = bput (dirF (Z.take i)) z.path true := by
  unfold dirF; rw [List.take_add_one, h, List.foldl_append]; show stD _ z = _; unfold stD; rw [if_pos k]
theorem dirF_not {Z : List Zn} {i : Nat} {z : Zn} (h : Z[i]? = some z) (k : z.kind ≠ 2) : dirF (Z.take (i + 1)) = dirF (Z.take i) := by
  unfold dirF; rw [List.take_add_one, h, List.foldl_append]; show stD _ z = _; unfold stD; rw [if_neg k]
theorem MapB.grown {w w' : World} {M S : Nat} {f : ByteArray → Option Bool} {row : Option Nat} (h : MapB w M S f) (hg : w.grownBy w' row) (hr : row ≠ some M) : MapB w' M S f := h.of_block (hg.block M h.lt (fun e => hr e.symm))
theorem MapT.grown {w w' : World} {M S : Nat} {f : ByteArray → Option ByteArray} {row : Option Nat} (h : MapT w M S f) (hg : w.grownBy w' row) (hr : row ≠ some M) : MapT w' M S f := h.of_block (hg.block M h.lt (fun e => hr e.symm))
theorem at_bl (b : ByteArray) (k : Nat) (h : k < b.size) : some (b[k]'h) = (bl8 b)[k]? := by
  unfold bl8
  rw [List.getElem?_eq_getElem (by simpa using h)]
  simp [ByteArray.getElem_eq_getElem_data]
theorem path_at {z : Zn} (hs : noSl z.s) {qn gk : Nat} (hq : z.q.size = qn) (hlt : qn + gk < z.path.size) : ((((z.path[qn + gk]'hlt).toNat : Nat) : Int) != 47) = decide (gk ≠ 0) := by
  have h := at_bl z.path (qn + gk) hlt
  rw [path_bl] at h
  have hl : (bl8 z.q).length = qn := by rw [← hq]; unfold bl8; simp
  generalize z.path[qn + gk]'hlt = x at *
  rw [List.append_assoc, List.getElem?_append_right (by omega), hl, show qn + gk - qn = gk from by omega] at h
  cases gk with
  | zero =>
    simp at h
    subst h
    rfl
  | succ k =>
    simp only [List.cons_append, List.nil_append, List.getElem?_cons_succ] at h
    have hm : x ∈ bl8 z.s := List.mem_of_getElem? h.symm
    have hx : x ≠ 47 := fun e => hs (e ▸ hm)
    have : x.toNat ≠ 47 := fun e => hx (UInt8.toNat_inj.1 e)
    simp only [ne_eq, Nat.add_eq_zero_iff, Nat.succ_ne_zero, and_false, not_false_eq_true, decide_true, bne_iff_ne]
    omega
theorem path_q {z : Zn} {qn : Nat} (hq : z.q.size = qn) : z.path.extract 0 qn = z.q := by
  refine bl8_inj ?_
  unfold bl8
  rw [ByteArray.data_extract, Array.toList_extract]
  have h := path_bl z
  unfold bl8 at h
  rw [h]
  have hl : (z.q.data.toList).length = qn := by rw [← hq]; simp
  simp [List.extract_eq_take_drop, ← hl]
theorem path_s {z : Zn} {qn n : Nat} (hq : z.q.size = qn) (hn : z.path.size = n) : z.path.extract (qn + 1) n = z.s := by
  refine bl8_inj ?_
  unfold bl8
  rw [ByteArray.data_extract, Array.toList_extract]
  have h := path_bl z
  have hl : (bl8 z.q).length = qn := by rw [← hq]; unfold bl8; simp
  have h2 : (bl8 z.path).length = n := by rw [← hn]; unfold bl8; simp
  unfold bl8 at h hl h2
  rw [h] at h2 ⊢
  rw [List.extract_eq_take_drop, List.append_assoc, ← hl]
  simp only [List.length_append, List.length_cons, List.length_nil] at h2
  have : z.q.data.toList ++ ([47] ++ z.s.data.toList) = (z.q.data.toList ++ [47]) ++ z.s.data.toList := by simp
  rw [this, List.drop_append_of_le_length (by simp), List.drop_of_length_le (by simp), List.nil_append, List.take_of_length_le (by omega)]
theorem cut_q {z : Zn} {pt : ByteArray} {qn sn : Nat} (hp : z.path = pt) (hq : z.q.size = qn) (hn : pt.size = qn + 1 + sn) (W : World) :
    (Instr.slice 9 (.string pt) none (some (.int .i64 (qn : Int))) none).run Tryz.prog W = .ok (.string z.q) W := by
  rw [run_slice_string_to_if W 9 pt .i64 (qn : Int) Tryz.underlying9, if_pos (by omega)]
  rw [Int.toNat_natCast, ← hp, path_q hq]
theorem cut_s {z : Zn} {pt : ByteArray} {qn sn : Nat} (hp : z.path = pt) (hq : z.q.size = qn) (hn : pt.size = qn + 1 + sn) (W : World) :
    (Instr.slice 9 (.string pt) (some (.int .i64 ((qn : Int) + 1))) none none).run Tryz.prog W = .ok (.string z.s) W := by
  rw [run_slice_string_from_if W 9 pt .i64 ((qn : Int) + 1) Tryz.underlying9, if_pos (by omega)]
  rw [show ((qn : Int) + 1).toNat = qn + 1 from by omega, ← hp, path_s hq rfl]
theorem less_two {a b : ByteArray} (h : dn.lessB a b = true) : Op.bytesLess b.toList a.toList = false ∧ (b.toList == a.toList) = false := by
  refine ⟨dn.less_asymm h, ?_⟩
  rw [beq_eq_false_iff_ne]
  intro e
  exact dn.less_ne h (dn.toList_inj e).symm
theorem bel_put {p M : Nat} {a w w' : World} (hp : a.heap.size = p) (h : Below p a w) (hg : w.grownBy w' (some M)) (hM : p ≤ M) : Below p a w' :=
  h.grown hg (hp ▸ h.size) (fun k e => by injection e with e; omega)
theorem bel_dn {p : Nat} {a w : World} (hp : a.heap.size = p) (h : Below p a w) (n : Nat) : Below p a (w.drewN n) := h.trans ((mg.bel_drewN w n).mono (hp ▸ h.size))
theorem ne_some {a b : Nat} (h : a ≠ b) : (some a : Option Nat) ≠ some b := fun e => h (Option.some.inj e)
end Go.Proofs.YtnnaoldpacbagaaGreat.fl
end
