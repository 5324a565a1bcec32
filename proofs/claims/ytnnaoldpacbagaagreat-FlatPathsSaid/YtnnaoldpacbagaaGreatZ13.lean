/- Two branches as one, as the document tells it: mathematics alone. Two branches as one: what the laws of the chapter ask, as mathematics. -/
import Derived.Test.YtnnaoldpacbagaaGreatZ12
section
namespace Go.Proofs.YtnnaoldpacbagaaGreat.mg
open Go.RowKit
open Go.Proofs.YtnnaoldpacbagaaGreat.dn (En lget lset ldel nerr dotB Sorted lessB)
open Go.Proofs.YtnnaoldpacbagaaGreat.br (BS Ino Inv)
set_option linter.unusedVariables false
set_option linter.unusedSimpArgs false

abbrev Nd := Int × Int
/-- Is an inode marked opaque? -/
def opq (U : BS) (u : Int) : Bool := decide (U.marksOf u % 2 = 1)
def kindV (U L : BS) (n : Nd) : Int := if (if n.1 ≠ 0 then U.kindOf n.1 else L.kindOf n.2) = 4 then 0 else (if n.1 ≠ 0 then U.kindOf n.1 else L.kindOf n.2)
def lstV (U L : BS) (n : Nd) : Int := if kindV U L n = 0 then 2 else if kindV U L n = 2 then 0 else 20
def belV (U : BS) (n : Nd) : Int := if opq U n.1 = true then 0 else n.2
def seenV (U L : BS) (p : Nd) : Nd :=
  if U.kindOf p.1 = 0 then (if L.kindOf p.2 = 4 then (0, 0) else (0, p.2))
  else if U.kindOf p.1 = 4 then (0, 0)
  else if U.kindOf p.1 = 2 ∧ L.kindOf p.2 = 2 ∧ opq U p.1 = false then p else (p.1, 0)
def pairV (U L : BS) (n : Nd) (s : ByteArray) : Nd := ((U.get n.1 s).1, (L.get (belV U n) s).1)
def getV (U L : BS) (n : Nd) (s : ByteArray) : Nd × Int :=
  if lstV U L n ≠ 0 then ((0, 0), lstV U L n)
  else if seenV U L (pairV U L n s) = (0, 0) then ((0, 0), 2) else (seenV U L (pairV U L n s), 0)
def rootV (U L : BS) (u l : Int) : Nd :=
  ((if U.kindOf u = 2 then u else 0), (if L.kindOf l = 2 ∧ opq U (if U.kindOf u = 2 then u else 0) = false then l else 0))
/-- The names that are seen, in order. -/
structure AllV (U L : BS) (n : Nd) (l : List ByteArray) : Prop where
  rise : l.Pairwise fun a b => lessB a b = true
  mem : ∀ s, s ∈ l ↔ (getV U L n s).2 = 0

theorem rise_ext : ∀ {l k : List ByteArray}, (l.Pairwise fun a b => lessB a b = true) → (k.Pairwise fun a b => lessB a b = true) → (∀ s, s ∈ l ↔ s ∈ k) → l = k
  | [], [], _, _, _ => rfl
  | [], b :: k, _, _, h => absurd ((h b).2 (List.mem_cons_self)) (by simp)
  | a :: l, [], _, _, h => absurd ((h a).1 (List.mem_cons_self)) (by simp)
  | a :: l, b :: k, hl, hk, h => by
    have hl' := List.pairwise_cons.1 hl
    have hk' := List.pairwise_cons.1 hk
    have e : a = b := by
      rcases List.mem_cons.1 ((h a).1 List.mem_cons_self) with e | e
      · exact e
      · rcases List.mem_cons.1 ((h b).2 List.mem_cons_self) with e2 | e2
        · exact e2.symm
        · have h1 := hk'.1 a e
          have h2 := hl'.1 b e2
          rw [dn.less_asymm h1] at h2
          cases h2
    subst e
    have : l = k := rise_ext hl'.2 hk'.2 fun s => by
      have hs := h s
      simp only [List.mem_cons] at hs
      refine ⟨fun e => ?_, fun e => ?_⟩
      · rcases hs.1 (.inr e) with e2 | e2
        · subst e2; exact absurd rfl (dn.less_ne (hl'.1 s e))
        · exact e2
      · rcases hs.2 (.inr e) with e2 | e2
        · subst e2; exact absurd rfl (dn.less_ne (hk'.1 s e))
        · exact e2
    rw [this]
theorem AllV.uniq {U L U' L' : BS} {n n' : Nd} {l k : List ByteArray} (h : AllV U L n l) (h' : AllV U' L' n' k) (he : ∀ s, (getV U L n s).2 = 0 ↔ (getV U' L' n' s).2 = 0) : l = k :=
  rise_ext h.rise h'.rise fun s => (h.mem s).trans ((he s).trans (h'.mem s).symm)
theorem AllV.same {U L : BS} {n : Nd} {l k : List ByteArray} (h : AllV U L n l) (h' : AllV U L n k) : l = k := h.uniq h' fun _ => Iff.rfl
theorem getV_lst {U L : BS} {n : Nd} {s : ByteArray} (h : lstV U L n ≠ 0) : getV U L n s = ((0, 0), lstV U L n) := by unfold getV; rw [if_pos h]
theorem AllV.none {U L : BS} {n : Nd} (h : lstV U L n ≠ 0) : AllV U L n [] := ⟨List.Pairwise.nil, fun s => by rw [getV_lst h]; simp [h]⟩
theorem AllV.nil_of {U L : BS} {n : Nd} {l : List ByteArray} (h : AllV U L n l) (hl : lstV U L n ≠ 0) : l = [] := h.same (AllV.none hl)
theorem lst_cases (U L : BS) (n : Nd) : (lstV U L n = 2 ∧ kindV U L n = 0) ∨ (lstV U L n = 0 ∧ kindV U L n = 2) ∨ (lstV U L n = 20 ∧ kindV U L n ≠ 0 ∧ kindV U L n ≠ 2) := by
  unfold lstV
  by_cases h1 : kindV U L n = 0
  · rw [if_pos h1]; exact .inl ⟨rfl, h1⟩
  · rw [if_neg h1]
    by_cases h2 : kindV U L n = 2
    · rw [if_pos h2]; exact .inr (.inl ⟨rfl, h2⟩)
    · rw [if_neg h2]; exact .inr (.inr ⟨rfl, h1, h2⟩)

/-! ### what is asked of a branch -/
section
variable {S : BS} {room : Nat}
theorem get_cases (hI : Inv S room) (d : Int) (s : ByteArray) : ((S.get d s).2 ≠ 0 ∧ (S.get d s).1 = 0) ∨ ((S.get d s).2 = 0 ∧ (∃ D : Nat, d = (D : Int) ∧ (S.ino D).kind = 2 ∧ ∃ I : Nat, lget s (S.ino D).dir = some (I : Int) ∧ (S.get d s).1 = (I : Int) ∧ 1 ≤ I ∧ S.isI (I : Int) = true ∧ (S.ino I).kind ≠ 0)) := by
  by_cases h : (S.get d s).2 = 0
  · refine .inr ⟨h, ?_⟩
    obtain ⟨D, e, h1, h2, h3, h4⟩ := br.get_ok h
    obtain ⟨k1, k2, I, e2, h5⟩ := hI.lead h4
    rw [e2] at h4
    refine ⟨D, e, h3, I, h4, e2, ?_⟩
    obtain ⟨i1, i2, i3, i4, i5⟩ := h5
    refine ⟨i1, ?_, ?_⟩
    · unfold BS.isI
      rw [br.at_nat, decide_eq_true_eq]
      exact ⟨by omega, by omega, i5⟩
    · exact i5
  · refine .inl ⟨h, ?_⟩
    unfold BS.get at h ⊢
    split
    · rfl
    · rename_i h1
      rw [if_neg h1] at h
      cases e : lget s (S.at d).dir with
      | none => rfl
      | some v => rw [e] at h; exact absurd rfl h
theorem kind_zero (S : BS) : S.kindOf 0 = 0 := by unfold BS.kindOf BS.isI; simp
theorem marks_zero (S : BS) : S.marksOf 0 = 0 := by unfold BS.marksOf BS.isI; simp
theorem opq_zero (S : BS) : opq S 0 = false := by unfold opq; rw [marks_zero]; rfl
theorem isI_kind {i : Int} (h : S.isI i = true) : S.kindOf i = (S.at i).kind ∧ (S.at i).kind ≠ 0 := by
  unfold BS.kindOf
  rw [if_pos h]
  refine ⟨rfl, ?_⟩
  unfold BS.isI at h
  rw [decide_eq_true_eq] at h
  exact h.2.2
theorem get_zero (hI : Inv S room) (d : Int) (s : ByteArray) : (S.get d s).1 = 0 ↔ (S.get d s).2 ≠ 0 := by
  rcases get_cases hI d s with ⟨h1, h2⟩ | ⟨h1, D, _, _, I, _, h3, h4, _⟩
  · exact ⟨fun _ => h1, fun _ => h2⟩
  · exact ⟨fun e => by omega, fun e => absurd h1 e⟩
theorem get_kind (hI : Inv S room) (d : Int) (s : ByteArray) : S.kindOf (S.get d s).1 = 0 ↔ (S.get d s).1 = 0 := by
  rcases get_cases hI d s with ⟨h1, h2⟩ | ⟨h1, D, _, _, I, _, h3, h4, h5, _⟩
  · rw [h2, kind_zero]
  · rw [h3]
    exact ⟨fun e => absurd ((isI_kind h5).1.symm.trans e) (isI_kind h5).2, fun e => by omega⟩
theorem get_none (d : Int) (s : ByteArray) (h : S.dirE d false ≠ 0) : S.get d s = (0, S.dirE d false) := by unfold BS.get; rw [if_pos h]
theorem dirE_kind (d : Int) : S.dirE d false = if S.kindOf d = 0 then 2 else if S.kindOf d = 2 then 0 else 20 := by
  unfold BS.dirE BS.kindOf
  cases h : S.isI d with
  | false => simp
  | true =>
    have := (isI_kind h).2
    by_cases h2 : (S.at d).kind = 2
    · simp [h2]
    · simp [h2, this]
theorem get_dir_err (d : Int) (s : ByteArray) (h : S.kindOf d = 2) : (S.get d s).2 = 0 ∨ (S.get d s).2 = 2 := by
  unfold BS.get
  rw [dirE_kind, h]
  simp only [if_neg (show ¬ ((2 : Int) = 0) by decide), if_pos, ne_eq, not_true_eq_false, if_false]
  cases lget s (S.at d).dir with
  | none => exact .inr rfl
  | some v => exact .inl rfl
end
end Go.Proofs.YtnnaoldpacbagaaGreat.mg
end
section
namespace Go.Proofs.YtnnaoldpacbagaaGreat.mg
open Go.RowKit
open Go.Proofs.YtnnaoldpacbagaaGreat.dn (En lget lset ldel nerr dotB Sorted lessB)
open Go.Proofs.YtnnaoldpacbagaaGreat.br (BS Ino Inv fresh)
set_option linter.unusedVariables false
set_option linter.unusedSimpArgs false

section
variable {S U L : BS} {room room2 : Nat}
theorem seen_none {u l : Int} (h : U.kindOf u = 0) : seenV U L (u, l) = if L.kindOf l = 4 then (0, 0) else (0, l) := by unfold seenV; dsimp only; rw [if_pos h]
theorem seen_white {u l : Int} (h : U.kindOf u = 4) : seenV U L (u, l) = (0, 0) := by unfold seenV; dsimp only; rw [h, if_neg (by decide), if_pos rfl]
theorem seen_both {u l : Int} (h : U.kindOf u = 2) (h1 : L.kindOf l = 2) (h2 : opq U u = false) : seenV U L (u, l) = (u, l) := by unfold seenV; dsimp only; rw [if_neg (by rw [h]; decide), if_neg (by rw [h]; decide), if_pos ⟨h, h1, h2⟩]
theorem seen_up {u l : Int} (h : U.kindOf u ≠ 0) (h4 : U.kindOf u ≠ 4) (h2 : ¬ (U.kindOf u = 2 ∧ L.kindOf l = 2 ∧ opq U u = false)) : seenV U L (u, l) = (u, 0) := by unfold seenV; dsimp only; rw [if_neg h, if_neg h4, if_neg h2]
theorem ne_up {u l : Int} (h : u ≠ 0) : ((u, l) : Nd) ≠ (0, 0) := fun e => h (congrArg Prod.fst e)
theorem ne_low {u l : Int} (h : l ≠ 0) : ((u, l) : Nd) ≠ (0, 0) := fun e => h (congrArg Prod.snd e)
theorem root_kind (hI : Inv S room) : S.kindOf 1 = 2 := by
  have h : S.isI 1 = true := by
    unfold BS.isI
    rw [decide_eq_true_eq]
    exact ⟨by decide, by decide, by rw [show S.at 1 = S.ino 1 from rfl, hI.root.1]; decide⟩
  rw [(isI_kind h).1]
  exact hI.root.1
theorem get_at_zero (S : BS) (s : ByteArray) : S.get 0 s = (0, 2) := by
  rw [get_none 0 s (by rw [dirE_kind, kind_zero]; decide), dirE_kind, kind_zero]; rfl
theorem fresh_kind : fresh.kindOf 1 = 2 := by decide
theorem fresh_opq (i : Int) : opq fresh i = false := by
  unfold opq
  have : fresh.marksOf i = 0 := by
    unfold BS.marksOf BS.at
    rw [br.fresh_ino]
    split
    · split <;> rfl
    · rfl
  rw [this]; rfl
theorem fresh_get (d : Int) (s : ByteArray) : (fresh.get d s).1 = 0 := by
  unfold BS.get BS.at
  rw [br.fresh_dir]
  split
  · rfl
  · rfl
theorem get_err (hI : Inv S room) (d : Int) (s : ByteArray) (h : S.kindOf d = 2) : ((S.get d s).1 = 0 ∧ (S.get d s).2 = 2) ∨ ((S.get d s).1 ≠ 0 ∧ (S.get d s).2 = 0 ∧ S.kindOf (S.get d s).1 ≠ 0) := by
  have h1 := get_zero hI d s
  have h2 := get_kind hI d s
  rcases get_dir_err d s h with h3 | h3
  · have h4 : (S.get d s).1 ≠ 0 := fun e => h1.1 e h3
    exact .inr ⟨h4, h3, fun e => h4 (h2.1 e)⟩
  · exact .inl ⟨h1.2 (by omega), h3⟩
/-- Under an upper directory without entries. -/
theorem alone_low (hI : Inv L room) (ino : Int) (s : ByteArray) (h : L.kindOf ino = 2) :
    getV fresh L (rootV fresh L 1 ino) s = if L.kindOf (L.get ino s).1 = 4 then ((0, 0), 2) else ((0, (L.get ino s).1), (L.get ino s).2) := by
  have hr : rootV fresh L 1 ino = (1, ino) := by unfold rootV; rw [if_pos fresh_kind, if_pos ⟨h, fresh_opq 1⟩]
  have hl : lstV fresh L (1, ino) = 0 := by unfold lstV kindV; dsimp only; rw [if_pos (show (1 : Int) ≠ 0 by decide), fresh_kind]; decide
  have hb : belV fresh (1, ino) = ino := by unfold belV; rw [fresh_opq]; rfl
  have hp : pairV fresh L (1, ino) s = (0, (L.get ino s).1) := by unfold pairV; rw [hb, fresh_get]
  have hs : seenV fresh L (0, (L.get ino s).1) = if L.kindOf (L.get ino s).1 = 4 then (0, 0) else (0, (L.get ino s).1) := by unfold seenV; rw [if_pos (kind_zero _)]
  rw [hr]
  unfold getV
  rw [if_neg (by rw [hl]; decide), hp, hs]
  by_cases h4 : L.kindOf (L.get ino s).1 = 4
  · rw [if_pos h4, if_pos h4, if_pos rfl]
  · rw [if_neg h4, if_neg h4]
    rcases get_err hI ino s h with ⟨h5, h6⟩ | ⟨h5, h6, _⟩
    · rw [if_pos (by rw [h5]), h5, h6]
    · rw [if_neg (fun e => h5 (congrArg Prod.snd e)), h6]
/-- Over a lower directory without entries. -/
theorem alone_up (hI : Inv U room) (ino : Int) (s : ByteArray) (h : U.kindOf ino = 2) :
    getV U fresh (rootV U fresh ino 1) s = if U.kindOf (U.get ino s).1 = 4 then ((0, 0), 2) else (((U.get ino s).1, 0), (U.get ino s).2) := by
  obtain ⟨x, hr⟩ : ∃ x, rootV U fresh ino 1 = (ino, x) := by unfold rootV; rw [if_pos h]; exact ⟨_, rfl⟩
  have h0 : ino ≠ 0 := fun e => by rw [e, kind_zero] at h; exact absurd h (by decide)
  have hl : lstV U fresh (ino, x) = 0 := by unfold lstV kindV; rw [if_pos (show (ino, x).1 ≠ 0 from h0), h]; decide
  have hp : pairV U fresh (ino, x) s = ((U.get ino s).1, 0) := by unfold pairV; rw [fresh_get]
  rw [hr]
  unfold getV
  rw [if_neg (by rw [hl]; decide), hp]
  rcases get_err hI ino s h with ⟨h5, h6⟩ | ⟨h5, h6, h7⟩
  · rw [h5, h6, seen_none (kind_zero U), kind_zero fresh, kind_zero U]; rfl
  · rw [h6]
    by_cases h4 : U.kindOf (U.get ino s).1 = 4
    · rw [if_pos h4, seen_white h4, if_pos rfl]
    · rw [if_neg h4, seen_up h7 h4 (fun e => by rw [kind_zero fresh] at e; exact absurd e.2.1 (by decide)), if_neg (ne_up h5)]
theorem root_one (hU : Inv U room) (hL : Inv L room2) : rootV U L 1 1 = (1, if opq U 1 = true then 0 else 1) := by
  unfold rootV
  rw [if_pos (root_kind hU), root_kind hL]
  cases opq U 1 <;> simp
theorem bel_root (hU : Inv U room) (hL : Inv L room2) : belV U (rootV U L 1 1) = if opq U 1 = true then 0 else 1 := by
  rw [root_one hU hL]
  unfold belV
  cases opq U 1 <;> simp
theorem lst_root (hU : Inv U room) (hL : Inv L room2) : lstV U L (rootV U L 1 1) = 0 := by
  rw [root_one hU hL]
  unfold lstV kindV
  dsimp only
  rw [if_pos (show (1 : Int) ≠ 0 by decide), root_kind hU]
  decide
theorem kind_root (hU : Inv U room) (hL : Inv L room2) : kindV U L (rootV U L 1 1) = 2 := by
  rw [root_one hU hL]
  unfold kindV
  dsimp only
  rw [if_pos (show (1 : Int) ≠ 0 by decide), root_kind hU]
  decide
theorem pair_root (hU : Inv U room) (hL : Inv L room2) (s : ByteArray) : pairV U L (rootV U L 1 1) s = ((U.get 1 s).1, if opq U 1 = true then 0 else (L.get 1 s).1) := by
  unfold pairV
  rw [bel_root hU hL, root_one hU hL]
  by_cases h : opq U 1 = true
  · rw [if_pos h, if_pos h, get_at_zero]
  · rw [if_neg h, if_neg h]
theorem get_root (hU : Inv U room) (hL : Inv L room2) (s : ByteArray) : getV U L (rootV U L 1 1) s = if seenV U L ((U.get 1 s).1, if opq U 1 = true then 0 else (L.get 1 s).1) = (0, 0) then ((0, 0), 2) else (seenV U L ((U.get 1 s).1, if opq U 1 = true then 0 else (L.get 1 s).1), 0) := by
  unfold getV
  rw [if_neg (by rw [lst_root hU hL]; decide), pair_root hU hL]
theorem hides_white (hU : Inv U room) (hL : Inv L room2) (s : ByteArray) (h : (U.get 1 s).2 = 0) (h4 : U.kindOf (U.get 1 s).1 = 4) : getV U L (rootV U L 1 1) s = ((0, 0), 2) := by
  rw [get_root hU hL, seen_white h4, if_pos rfl]
theorem hides_file (hU : Inv U room) (hL : Inv L room2) (s : ByteArray) (h : (U.get 1 s).2 = 0) (h4 : U.kindOf (U.get 1 s).1 ≠ 4) (h2 : U.kindOf (U.get 1 s).1 ≠ 2) : getV U L (rootV U L 1 1) s = (((U.get 1 s).1, 0), 0) := by
  have h5 : (U.get 1 s).1 ≠ 0 := fun e => (get_zero hU 1 s).1 e h
  have h6 : U.kindOf (U.get 1 s).1 ≠ 0 := fun e => h5 ((get_kind hU 1 s).1 e)
  rw [get_root hU hL, seen_up h6 h4 (fun e => h2 e.1), if_neg (ne_up h5)]
theorem hides_dir (hU : Inv U room) (hL : Inv L room2) (s : ByteArray) (h : (U.get 1 s).2 = 0) (h2 : U.kindOf (U.get 1 s).1 = 2) :
    getV U L (rootV U L 1 1) s = (((U.get 1 s).1, if opq U 1 = false ∧ opq U (U.get 1 s).1 = false ∧ L.kindOf (L.get 1 s).1 = 2 then (L.get 1 s).1 else 0), 0) := by
  have h5 : (U.get 1 s).1 ≠ 0 := fun e => (get_zero hU 1 s).1 e h
  have h6 : U.kindOf (U.get 1 s).1 ≠ 0 := by rw [h2]; decide
  have h4 : U.kindOf (U.get 1 s).1 ≠ 4 := by rw [h2]; decide
  rw [get_root hU hL]
  by_cases h1 : opq U 1 = true
  · rw [if_pos h1, seen_up h6 h4 (fun e => by rw [kind_zero L] at e; exact absurd e.2.1 (by decide)), if_neg (ne_up h5), if_neg (fun e => by rw [h1] at e; exact absurd e.1 (by decide))]
  · have h1' : opq U 1 = false := by simpa using h1
    rw [if_neg h1]
    by_cases h3 : L.kindOf (L.get 1 s).1 = 2 ∧ opq U (U.get 1 s).1 = false
    · rw [seen_both h2 h3.1 h3.2, if_neg (ne_up h5), if_pos ⟨h1', h3.2, h3.1⟩]
    · rw [seen_up h6 h4 (fun e => h3 ⟨e.2.1, e.2.2⟩), if_neg (ne_up h5), if_neg (fun e => h3 ⟨e.2.2, e.2.1⟩)]
theorem hides_none (hU : Inv U room) (hL : Inv L room2) (s : ByteArray) (h : (U.get 1 s).2 ≠ 0) :
    getV U L (rootV U L 1 1) s = if opq U 1 = true ∨ (L.get 1 s).2 ≠ 0 ∨ L.kindOf (L.get 1 s).1 = 4 then ((0, 0), 2) else ((0, (L.get 1 s).1), 0) := by
  have h5 : (U.get 1 s).1 = 0 := (get_zero hU 1 s).2 h
  rw [get_root hU hL, h5, seen_none (kind_zero U)]
  by_cases h1 : opq U 1 = true
  · rw [if_pos (show opq U 1 = true ∨ (L.get 1 s).2 ≠ 0 ∨ L.kindOf (L.get 1 s).1 = 4 from .inl h1), if_pos h1, kind_zero L]; rfl
  · rw [if_neg h1]
    by_cases h4 : L.kindOf (L.get 1 s).1 = 4
    · rw [if_pos h4, if_pos rfl, if_pos (.inr (.inr h4))]
    · rw [if_neg h4]
      by_cases h3 : (L.get 1 s).2 = 0
      · rw [if_neg (ne_low fun e => (get_zero hL 1 s).1 e h3), if_neg (fun e => by rcases e with e | e | e; exact h1 e; exact e h3; exact h4 e)]
      · rw [if_pos (by rw [(get_zero hL 1 s).2 h3]), if_pos (.inr (.inl h3))]
/-- What a name leads to has that name in each branch. -/
structure Down (U L : BS) (n x : Nd) (s : ByteArray) : Prop where
  some : x ≠ (0, 0)
  kind : kindV U L x ≠ 0
  up : x.1 ≠ 0 → U.get n.1 s = (x.1, 0)
  low : x.2 ≠ 0 → L.get n.2 s = (x.2, 0)
  both : x.1 ≠ 0 → x.2 ≠ 0 → U.kindOf x.1 = 2 ∧ L.kindOf x.2 = 2
theorem get_down (hU : Inv U room) (hL : Inv L room2) (n : Nd) (s : ByteArray) (h : (getV U L n s).2 = 0) : Down U L n (getV U L n s).1 s := by
  have hlst : lstV U L n = 0 := Classical.byContradiction fun e => by rw [getV_lst e] at h; exact e h
  unfold getV at h ⊢
  rw [if_neg (by rw [hlst]; decide)] at h ⊢
  by_cases hz : seenV U L (pairV U L n s) = (0, 0)
  · rw [if_pos hz] at h; exact absurd h (by decide)
  · rw [if_neg hz]
    dsimp only
    have hlow : ∀ l : Int, l = (L.get (belV U n) s).1 → l ≠ 0 → L.get n.2 s = (l, 0) ∧ L.kindOf l ≠ 0 := fun l e hl => by
      have hb : belV U n = n.2 := by
        unfold belV
        by_cases ho : opq U n.1 = true
        · exfalso
          unfold belV at e
          rw [if_pos ho, get_at_zero] at e
          exact hl e
        · rw [if_neg ho]
      rw [hb] at e
      have h2 : (L.get n.2 s).2 = 0 := Classical.byContradiction fun e2 => hl (by rw [e]; exact (get_zero hL _ _).2 e2)
      refine ⟨by rw [e, ← h2], fun e3 => hl ?_⟩
      rw [e] at e3 ⊢
      exact (get_kind hL _ _).1 e3
    have hup : ∀ u : Int, u = (U.get n.1 s).1 → u ≠ 0 → U.get n.1 s = (u, 0) ∧ U.kindOf u ≠ 0 := fun u e hu => by
      have h2 : (U.get n.1 s).2 = 0 := Classical.byContradiction fun e2 => hu (by rw [e]; exact (get_zero hU _ _).2 e2)
      refine ⟨by rw [e, ← h2], fun e3 => hu ?_⟩
      rw [e] at e3 ⊢
      exact (get_kind hU _ _).1 e3
    unfold pairV at hz ⊢
    obtain ⟨u, eu⟩ : ∃ u, (U.get n.1 s).1 = u := ⟨_, rfl⟩
    obtain ⟨l, el⟩ : ∃ l, (L.get (belV U n) s).1 = l := ⟨_, rfl⟩
    rw [eu, el] at hz ⊢
    by_cases k0 : U.kindOf u = 0
    · rw [seen_none k0] at hz ⊢
      by_cases k4 : L.kindOf l = 4
      · rw [if_pos k4] at hz; exact absurd rfl hz
      · rw [if_neg k4] at hz ⊢
        have hl : l ≠ 0 := fun e => hz (by rw [e])
        obtain ⟨g1, g2⟩ := hlow l el.symm hl
        exact ⟨hz, by unfold kindV; dsimp only; rw [if_neg (show ¬ ((0 : Int) ≠ 0) by decide), if_neg k4]; exact g2, fun e => absurd rfl e, fun _ => g1, fun e => absurd rfl e⟩
    · have hu : u ≠ 0 := fun e => k0 (by rw [e]; exact kind_zero U)
      obtain ⟨g1, g2⟩ := hup u eu.symm hu
      by_cases k4 : U.kindOf u = 4
      · rw [seen_white k4] at hz; exact absurd rfl hz
      · have hk : ∀ y : Int, kindV U L (u, y) ≠ 0 := fun y => by unfold kindV; dsimp only; rw [if_pos hu, if_neg k4]; exact k0
        by_cases hc : U.kindOf u = 2 ∧ L.kindOf l = 2 ∧ opq U u = false
        · rw [seen_both hc.1 hc.2.1 hc.2.2] at hz ⊢
          exact ⟨hz, hk l, fun _ => g1, fun e => (hlow l el.symm e).1, fun _ _ => ⟨hc.1, hc.2.1⟩⟩
        · rw [seen_up k0 k4 hc] at hz ⊢
          exact ⟨hz, hk 0, fun _ => g1, fun e => absurd rfl e, fun _ e => absurd rfl e⟩
/-- Where the upper branch has the same names, kinds and marks as far as the root's entries go. -/
theorem get_cong {U1 U2 : BS} (h1 : Inv U1 room) (h2 : Inv U2 room) (hL : Inv L room2) (s : ByteArray) (hg : U1.get 1 s = U2.get 1 s) (hk : U1.kindOf (U2.get 1 s).1 = U2.kindOf (U2.get 1 s).1) (ho : opq U1 (U2.get 1 s).1 = opq U2 (U2.get 1 s).1) (hr : opq U1 1 = opq U2 1) :
    getV U1 L (rootV U1 L 1 1) s = getV U2 L (rootV U2 L 1 1) s := by
  rw [get_root h1 hL, get_root h2 hL, hg, hr]
  have : seenV U1 L ((U2.get 1 s).1, if opq U2 1 = true then 0 else (L.get 1 s).1) = seenV U2 L ((U2.get 1 s).1, if opq U2 1 = true then 0 else (L.get 1 s).1) := by
    unfold seenV
    dsimp only
    rw [hk, ho]
  rw [this]
end
end Go.Proofs.YtnnaoldpacbagaaGreat.mg
end
