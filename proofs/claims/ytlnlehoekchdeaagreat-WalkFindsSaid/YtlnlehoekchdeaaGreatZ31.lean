/- Walking a tree by a path, plainly: what the document asks, and what is true of any tree. No number of a program's in it. Walking a tree, on: what is found, what is found behind it, and that links round and round end. What parsing makes of a text with something behind it or before it. A branch as a tree that is walked. Taking the first name off, whichever way. -/
import Derived.Test.YtlnlehoekchdeaaGreatZ27
import Derived.Test.YtlnlehoekchdeaaGreatZ30
section
namespace Go.Proofs.YtlnlehoekchdeaaGreat.wk
open Go.Proofs.YtlnlehoekchdeaaGreat.pa (Bs pnames pdirE perr nms comps)
set_option linter.unusedVariables false

/-- A tree as it is asked. -/
structure Tr where
  kind : Int → Int
  get : Int → ByteArray → Int × Int
  target : Int → ByteArray × Int
  parent : Int → Int
abbrev Rs := (Int × ByteArray × Int) × Int
def e0 : ByteArray := ⟨#[]⟩
def r0 : Int × ByteArray × Int := (0, e0, 0)
def pn (t : ByteArray) : List ByteArray := (pnames t.data.toList).map fun x => ⟨x.toArray⟩
def pd (t : ByteArray) : Bool := pdirE t.data.toList
def pe (t : ByteArray) : Int := perr t.data.toList
def slash (t : ByteArray) : Bool := t.data.toList.head? == some 47
def dot2 : ByteArray := ⟨#[46, 46]⟩
def dot1 : ByteArray := ⟨#[46]⟩
/-- m: how many links may still be followed. -/
def walkT (X : Tr) (fol : Bool) : Nat → Int → List ByteArray → Bool → Rs
  | _, a, [], _ => ((a, e0, a), 0)
  | m, a, n :: r, d =>
    if X.kind a ≠ 2 then (r0, 20)
    else if n = dot2 then walkT X fol m (X.parent a) r d
    else if n = dot1 then walkT X fol m a r d
    else if (X.get a n).2 ≠ 0 then (if (X.get a n).2 = 2 ∧ r = [] then ((a, n, 0), 2) else (r0, (X.get a n).2))
    else if X.kind (X.get a n).1 = 3 ∧ (r ≠ [] ∨ fol = true ∨ d = true) then
      if m = 0 then (r0, 40)
      else if (X.target (X.get a n).1).2 ≠ 0 then (r0, (X.target (X.get a n).1).2)
        else if pe (X.target (X.get a n).1).1 ≠ 0 then (r0, pe (X.target (X.get a n).1).1)
        else if 400 < (pn (X.target (X.get a n).1).1).length + r.length then (r0, 36)
        else walkT X fol (m - 1) (if slash (X.target (X.get a n).1).1 = true then 1 else a) (pn (X.target (X.get a n).1).1 ++ r) (if r = [] then d || pd (X.target (X.get a n).1).1 else d)
    else if r = [] then (if d = true ∧ X.kind (X.get a n).1 ≠ 2 then (r0, 20) else ((a, n, (X.get a n).1), 0))
    else walkT X fol m (X.get a n).1 r d
termination_by m _ ns _ => (m, ns.length)
decreasing_by all_goals first | (apply Prod.Lex.left; omega) | (apply Prod.Lex.right; simp)
theorem nn {p : Prop} (h : p) : ¬ ¬ p := fun k => k h

section
variable {X : Tr} {fol : Bool} {m : Nat} {a : Int} {n : ByteArray} {r : List ByteArray} {d : Bool}
def Lnk (X : Tr) (fol : Bool) (a : Int) (n : ByteArray) (r : List ByteArray) (d : Bool) : Prop := X.kind (X.get a n).1 = 3 ∧ (r ≠ [] ∨ fol = true ∨ d = true)
instance : Decidable (Lnk X fol a n r d) := by unfold Lnk; infer_instance
theorem w_nil : walkT X fol m a [] d = ((a, e0, a), 0) := by rw [walkT]
theorem w_kind (h : X.kind a ≠ 2) : walkT X fol m a (n :: r) d = (r0, 20) := by rw [walkT, if_pos h]
theorem w_dots (h : X.kind a = 2) : walkT X fol m a (dot2 :: r) d = walkT X fol m (X.parent a) r d := by rw [walkT, if_neg (by rw [h]; decide), if_pos rfl]
theorem w_dot (h : X.kind a = 2) : walkT X fol m a (dot1 :: r) d = walkT X fol m a r d := by rw [walkT, if_neg (by rw [h]; decide), if_neg (by decide), if_pos rfl]
theorem w_err (h : X.kind a = 2) (h1 : n ≠ dot2) (h2 : n ≠ dot1) (h3 : (X.get a n).2 ≠ 0) : walkT X fol m a (n :: r) d = (if (X.get a n).2 = 2 ∧ r = [] then ((a, n, 0), 2) else (r0, (X.get a n).2)) := by
  rw [walkT, if_neg (by rw [h]; decide), if_neg h1, if_neg h2, if_pos h3]
theorem w_loop (h : X.kind a = 2) (h1 : n ≠ dot2) (h2 : n ≠ dot1) (h3 : (X.get a n).2 = 0) (h4 : Lnk X fol a n r d) : walkT X fol 0 a (n :: r) d = (r0, 40) := by
  rw [walkT, if_neg (by rw [h]; decide), if_neg h1, if_neg h2, if_neg (by rw [h3]; decide), if_pos (show X.kind (X.get a n).1 = 3 ∧ (r ≠ [] ∨ fol = true ∨ d = true) from h4), if_pos rfl]
theorem w_link (h : X.kind a = 2) (h1 : n ≠ dot2) (h2 : n ≠ dot1) (h3 : (X.get a n).2 = 0) (h4 : Lnk X fol a n r d) :
    walkT X fol (m + 1) a (n :: r) d = if (X.target (X.get a n).1).2 ≠ 0 then (r0, (X.target (X.get a n).1).2)
        else if pe (X.target (X.get a n).1).1 ≠ 0 then (r0, pe (X.target (X.get a n).1).1)
        else if 400 < (pn (X.target (X.get a n).1).1).length + r.length then (r0, 36)
        else walkT X fol m (if slash (X.target (X.get a n).1).1 = true then 1 else a) (pn (X.target (X.get a n).1).1 ++ r) (if r = [] then d || pd (X.target (X.get a n).1).1 else d) := by
  rw [walkT, if_neg (by rw [h]; decide), if_neg h1, if_neg h2, if_neg (by rw [h3]; decide), if_pos (show X.kind (X.get a n).1 = 3 ∧ (r ≠ [] ∨ fol = true ∨ d = true) from h4), if_neg (Nat.succ_ne_zero m), Nat.add_sub_cancel]
theorem w_last (h : X.kind a = 2) (h1 : n ≠ dot2) (h2 : n ≠ dot1) (h3 : (X.get a n).2 = 0) (h4 : ¬ Lnk X fol a n [] d) : walkT X fol m a [n] d = if d = true ∧ X.kind (X.get a n).1 ≠ 2 then (r0, 20) else ((a, n, (X.get a n).1), 0) := by
  rw [walkT, if_neg (by rw [h]; decide), if_neg h1, if_neg h2, if_neg (by rw [h3]; decide), if_neg (show ¬ (X.kind (X.get a n).1 = 3 ∧ (([] : List ByteArray) ≠ [] ∨ fol = true ∨ d = true)) from h4), if_pos rfl]
theorem w_on (h : X.kind a = 2) (h1 : n ≠ dot2) (h2 : n ≠ dot1) (h3 : (X.get a n).2 = 0) (h4 : ¬ Lnk X fol a n r d) (h5 : r ≠ []) : walkT X fol m a (n :: r) d = walkT X fol m (X.get a n).1 r d := by
  rw [walkT, if_neg (by rw [h]; decide), if_neg h1, if_neg h2, if_neg (by rw [h3]; decide), if_neg (show ¬ (X.kind (X.get a n).1 = 3 ∧ (r ≠ [] ∨ fol = true ∨ d = true)) from h4), if_neg h5]
end

/-- One link more to follow changes nothing where the links did not run out. -/
theorem walk_more (X : Tr) (fol : Bool) (m : Nat) (a : Int) (ns : List ByteArray) (d : Bool) (h : (walkT X fol m a ns d).2 ≠ 40) : walkT X fol (m + 1) a ns d = walkT X fol m a ns d := by
  match ns with
  | [] => rw [w_nil, w_nil]
  | n :: r =>
    by_cases hk : X.kind a = 2
    case neg => rw [w_kind hk, w_kind hk]
    by_cases h1 : n = dot2
    · subst h1
      rw [w_dots hk] at h
      rw [w_dots hk, w_dots hk]
      exact walk_more X fol m _ r d h
    by_cases h2 : n = dot1
    · subst h2
      rw [w_dot hk] at h
      rw [w_dot hk, w_dot hk]
      exact walk_more X fol m _ r d h
    by_cases h3 : (X.get a n).2 = 0
    case neg => rw [w_err hk h1 h2 h3, w_err hk h1 h2 h3]
    by_cases h4 : Lnk X fol a n r d
    · match m with
      | 0 => rw [w_loop hk h1 h2 h3 h4] at h; exact absurd rfl h
      | k + 1 =>
        rw [w_link hk h1 h2 h3 h4] at h
        rw [w_link hk h1 h2 h3 h4, w_link hk h1 h2 h3 h4]
        by_cases g1 : (X.target (X.get a n).1).2 = 0
        case neg => rw [if_pos g1, if_pos g1]
        by_cases g2 : pe (X.target (X.get a n).1).1 = 0
        case neg => rw [if_neg (nn g1), if_neg (nn g1), if_pos g2, if_pos g2]
        by_cases g3 : 400 < (pn (X.target (X.get a n).1).1).length + r.length
        · rw [if_neg (nn g1), if_neg (nn g1), if_neg (nn g2), if_neg (nn g2), if_pos g3, if_pos g3]
        rw [if_neg (nn g1), if_neg (nn g2), if_neg g3] at h
        rw [if_neg (nn g1), if_neg (nn g1), if_neg (nn g2), if_neg (nn g2), if_neg g3, if_neg g3]
        exact walk_more X fol k _ _ _ h
    by_cases h5 : r = []
    · subst h5; rw [w_last hk h1 h2 h3 h4, w_last hk h1 h2 h3 h4]
    rw [w_on hk h1 h2 h3 h4 h5] at h
    rw [w_on hk h1 h2 h3 h4 h5, w_on hk h1 h2 h3 h4 h5]
    exact walk_more X fol m _ r d h
termination_by (m, ns.length)

/-- Where no link is found, following changes nothing. -/
theorem walk_plain (X : Tr) (m : Nat) (a : Int) (ns : List ByteArray) (d : Bool) :
    ((walkT X false m a ns d).2 = 0 ∧ X.kind (walkT X false m a ns d).1.2.2 = 3) ∨ walkT X true m a ns d = walkT X false m a ns d := by
  match ns with
  | [] => right; rw [w_nil, w_nil]
  | n :: r =>
    by_cases hk : X.kind a = 2
    case neg => right; rw [w_kind hk, w_kind hk]
    by_cases h1 : n = dot2
    · subst h1
      rw [w_dots hk, w_dots hk]
      exact walk_plain X m _ r d
    by_cases h2 : n = dot1
    · subst h2
      rw [w_dot hk, w_dot hk]
      exact walk_plain X m _ r d
    by_cases h3 : (X.get a n).2 = 0
    case neg => right; rw [w_err hk h1 h2 h3, w_err hk h1 h2 h3]
    by_cases h4 : Lnk X false a n r d
    · have h4' : Lnk X true a n r d := ⟨h4.1, .inr (.inl rfl)⟩
      match m with
      | 0 => right; rw [w_loop hk h1 h2 h3 h4, w_loop hk h1 h2 h3 h4']
      | k + 1 =>
        rw [w_link hk h1 h2 h3 h4, w_link hk h1 h2 h3 h4']
        by_cases g1 : (X.target (X.get a n).1).2 = 0
        case neg => right; rw [if_pos g1, if_pos g1]
        by_cases g2 : pe (X.target (X.get a n).1).1 = 0
        case neg => right; rw [if_neg (nn g1), if_neg (nn g1), if_pos g2, if_pos g2]
        by_cases g3 : 400 < (pn (X.target (X.get a n).1).1).length + r.length
        · right; rw [if_neg (nn g1), if_neg (nn g1), if_neg (nn g2), if_neg (nn g2), if_pos g3, if_pos g3]
        rw [if_neg (nn g1), if_neg (nn g1), if_neg (nn g2), if_neg (nn g2), if_neg g3, if_neg g3]
        exact walk_plain X k _ _ _
    by_cases h5 : r = []
    · subst h5
      rw [w_last hk h1 h2 h3 h4]
      by_cases g : X.kind (X.get a n).1 = 3
      · left
        have hd : d ≠ true := fun e => h4 ⟨g, .inr (.inr e)⟩
        rw [if_neg (fun e => hd e.1)]
        exact ⟨rfl, g⟩
      · right
        rw [w_last hk h1 h2 h3 (fun e => g e.1)]
    · have g : X.kind (X.get a n).1 ≠ 3 := fun e => h4 ⟨e, .inl h5⟩
      rw [w_on hk h1 h2 h3 h4 h5, w_on hk h1 h2 h3 (fun e => g e.1) h5]
      exact walk_plain X m _ r d
termination_by (m, ns.length)

/-- Dots in between. -/
inductive DR : List ByteArray → List ByteArray → Prop
  | nil : DR [] []
  | cons (x : ByteArray) {xs ys : List ByteArray} : DR xs ys → DR (x :: xs) (x :: ys)
  | dot (x : ByteArray) {xs ys : List ByteArray} : DR (x :: xs) ys → DR (x :: xs) (dot1 :: ys)
theorem DR.refl : ∀ l, DR l l
  | [] => .nil
  | x :: l => .cons x (DR.refl l)
theorem DR.pre {r s : List ByteArray} (h : DR r s) : ∀ l, DR (l ++ r) (l ++ s)
  | [] => h
  | x :: l => .cons x (h.pre l)
theorem DR.len {r s : List ByteArray} (h : DR r s) : r.length ≤ s.length := by
  induction h with
  | nil => exact Nat.le_refl _
  | cons x _ ih => simpa using ih
  | dot x _ ih => simp at ih ⊢; omega
theorem DR.nil_iff {r s : List ByteArray} (h : DR r s) : r = [] ↔ s = [] := by cases h <;> simp
theorem walk_dots (X : Tr) (fol : Bool) (m : Nat) (a : Int) (ns qs : List ByteArray) (d : Bool) (h : DR ns qs) :
    walkT X fol m a qs d = walkT X fol m a ns d ∨ (walkT X fol m a qs d).2 = 36 := by
  cases h with
  | nil => exact .inl rfl
  | dot x hd =>
    by_cases hk : X.kind a = 2
    case neg => rw [w_kind hk, w_kind hk]; exact .inl rfl
    rw [w_dot hk]
    exact walk_dots X fol m a _ _ d hd
  | cons n hr =>
    rename_i r s
    by_cases hk : X.kind a = 2
    case neg => rw [w_kind hk, w_kind hk]; exact .inl rfl
    by_cases h1 : n = dot2
    · subst h1
      rw [w_dots hk, w_dots hk]
      exact walk_dots X fol m _ r s d hr
    by_cases h2 : n = dot1
    · subst h2
      rw [w_dot hk, w_dot hk]
      exact walk_dots X fol m _ r s d hr
    by_cases h3 : (X.get a n).2 = 0
    case neg =>
      left
      rw [w_err hk h1 h2 h3, w_err hk h1 h2 h3]
      simp only [hr.nil_iff]
    by_cases h4 : Lnk X fol a n r d
    · have h4' : Lnk X fol a n s d := ⟨h4.1, h4.2.imp (fun e e1 => e (hr.nil_iff.2 e1)) id⟩
      match m with
      | 0 => left; rw [w_loop hk h1 h2 h3 h4, w_loop hk h1 h2 h3 h4']
      | k + 1 =>
        rw [w_link hk h1 h2 h3 h4, w_link hk h1 h2 h3 h4']
        by_cases g1 : (X.target (X.get a n).1).2 = 0
        case neg => left; rw [if_pos g1, if_pos g1]
        by_cases g2 : pe (X.target (X.get a n).1).1 = 0
        case neg => left; rw [if_neg (nn g1), if_neg (nn g1), if_pos g2, if_pos g2]
        by_cases g3 : 400 < (pn (X.target (X.get a n).1).1).length + s.length
        · right; rw [if_neg (nn g1), if_neg (nn g2), if_pos g3]
        have g3' : ¬ 400 < (pn (X.target (X.get a n).1).1).length + r.length := by have := hr.len; omega
        rw [if_neg (nn g1), if_neg (nn g1), if_neg (nn g2), if_neg (nn g2), if_neg g3, if_neg g3']
        have e : (if s = [] then d || pd (X.target (X.get a n).1).1 else d) = (if r = [] then d || pd (X.target (X.get a n).1).1 else d) := by simp only [hr.nil_iff]
        rw [e]
        exact walk_dots X fol k _ _ _ _ (hr.pre _)
    have h4' : ¬ Lnk X fol a n s d := fun e => h4 ⟨e.1, e.2.imp (fun e e1 => e (hr.nil_iff.1 e1)) id⟩
    by_cases h5 : r = []
    · have h6 := hr.nil_iff.1 h5
      subst h5; subst h6
      exact .inl rfl
    · rw [w_on hk h1 h2 h3 h4 h5, w_on hk h1 h2 h3 h4' (fun e => h5 (hr.nil_iff.2 e))]
      exact walk_dots X fol m _ r s d hr
termination_by (m, qs.length)
decreasing_by all_goals first | (apply Prod.Lex.left; omega) | (apply Prod.Lex.right; subst_vars; simp)
end Go.Proofs.YtlnlehoekchdeaaGreat.wk
end
section
namespace Go.Proofs.YtlnlehoekchdeaaGreat.wk
open Go.Proofs.YtlnlehoekchdeaaGreat.pa (Bs pnames pdirE perr nms comps comps_is)
set_option linter.unusedVariables false

theorem pn_ne (t : ByteArray) : ∀ n ∈ pn t, n ≠ e0 := by
  intro n hn
  unfold pn at hn
  rw [List.mem_map] at hn
  obtain ⟨x, hx, rfl⟩ := hn
  unfold pnames at hx
  split at hx
  · unfold nms at hx
    rw [List.mem_filter] at hx
    have h1 := (comps_is _ x hx.1).1
    intro e
    have : x.toArray = #[] := by
      have := congrArg ByteArray.data e
      simpa [e0] using this
    exact h1 (by simpa using this)
  · cases hx
/-- What keeps a walk among the inodes that are there. -/
structure Live (X : Tr) (Lv : Int → Prop) : Prop where
  root : Lv 1 ∧ X.kind 1 = 2
  get : ∀ a n, Lv a → X.kind a = 2 → (X.get a n).2 = 0 → Lv (X.get a n).1
  up : ∀ a, Lv a → X.kind a = 2 → Lv (X.parent a) ∧ X.kind (X.parent a) = 2
/-- What is found. -/
def Fnd (X : Tr) (fol d : Bool) (R : Rs) : Prop :=
  (R.2 = 0 ∧ R.1.2.1 = e0 ∧ R.1.1 = R.1.2.2 ∧ X.kind R.1.2.2 = 2) ∨
  (R.2 = 0 ∧ R.1.2.1 ≠ e0 ∧ X.get R.1.1 R.1.2.1 = (R.1.2.2, 0) ∧ (d = true → X.kind R.1.2.2 = 2) ∧ (fol = true → X.kind R.1.2.2 ≠ 3)) ∨
  (R.2 = 2 ∧ R.1.2.1 ≠ e0 ∧ (X.get R.1.1 R.1.2.1).2 = 2 ∧ R.1.2.2 = 0) ∨
  (R.2 ≠ 0 ∧ R.1 = r0)
theorem Fnd.mono {X : Tr} {fol d d' : Bool} {R : Rs} (h : Fnd X fol d R) (hd : d' = true → d = true) : Fnd X fol d' R := by
  rcases h with h | ⟨h1, h2, h3, h4, h5⟩ | h | h
  · exact .inl h
  · exact .inr (.inl ⟨h1, h2, h3, fun e => h4 (hd e), h5⟩)
  · exact .inr (.inr (.inl h))
  · exact .inr (.inr (.inr h))
theorem walk_has (X : Tr) {Lv : Int → Prop} (hL : Live X Lv) (fol : Bool) (m : Nat) (a : Int) (ns : List ByteArray) (d : Bool) (ha : Lv a) (he : ns = [] → X.kind a = 2) (hn : ∀ n ∈ ns, n ≠ e0) : Fnd X fol d (walkT X fol m a ns d) := by
  match ns with
  | [] => rw [w_nil]; exact .inl ⟨rfl, rfl, rfl, he rfl⟩
  | n :: r =>
    have hr : ∀ n ∈ r, n ≠ e0 := fun x hx => hn x (List.mem_cons_of_mem _ hx)
    by_cases hk : X.kind a = 2
    case neg => rw [w_kind hk]; exact .inr (.inr (.inr ⟨by show (20 : Int) ≠ 0; decide, rfl⟩))
    by_cases h1 : n = dot2
    · subst h1
      rw [w_dots hk]
      exact walk_has X hL fol m _ r d (hL.up a ha hk).1 (fun _ => (hL.up a ha hk).2) hr
    by_cases h2 : n = dot1
    · subst h2
      rw [w_dot hk]
      exact walk_has X hL fol m _ r d ha (fun _ => hk) hr
    by_cases h3 : (X.get a n).2 = 0
    case neg =>
      rw [w_err hk h1 h2 h3]
      split
      · rename_i h
        exact .inr (.inr (.inl ⟨rfl, hn n List.mem_cons_self, h.1, rfl⟩))
      · exact .inr (.inr (.inr ⟨h3, rfl⟩))
    by_cases h4 : Lnk X fol a n r d
    · match m with
      | 0 => rw [w_loop hk h1 h2 h3 h4]; exact .inr (.inr (.inr ⟨by show (40 : Int) ≠ 0; decide, rfl⟩))
      | k + 1 =>
        rw [w_link hk h1 h2 h3 h4]
        by_cases g1 : (X.target (X.get a n).1).2 = 0
        case neg => rw [if_pos g1]; exact .inr (.inr (.inr ⟨g1, rfl⟩))
        by_cases g2 : pe (X.target (X.get a n).1).1 = 0
        case neg => rw [if_neg (nn g1), if_pos g2]; exact .inr (.inr (.inr ⟨g2, rfl⟩))
        by_cases g3 : 400 < (pn (X.target (X.get a n).1).1).length + r.length
        · rw [if_neg (nn g1), if_neg (nn g2), if_pos g3]; exact .inr (.inr (.inr ⟨by show (36 : Int) ≠ 0; decide, rfl⟩))
        rw [if_neg (nn g1), if_neg (nn g2), if_neg g3]
        refine (walk_has X hL fol k _ _ _ ?_ ?_ ?_).mono ?_
        · split
          · exact hL.root.1
          · exact ha
        · intro _
          split
          · exact hL.root.2
          · exact hk
        · intro x hx
          rcases List.mem_append.1 hx with h | h
          · exact pn_ne _ x h
          · exact hr x h
        · intro e
          split
          · rw [e]; rfl
          · exact e
    by_cases h5 : r = []
    · subst h5
      rw [w_last hk h1 h2 h3 h4]
      split
      · exact .inr (.inr (.inr ⟨by show (20 : Int) ≠ 0; decide, rfl⟩))
      · rename_i h
        refine .inr (.inl ⟨rfl, hn n List.mem_cons_self, Prod.ext rfl h3, fun e => ?_, fun e e1 => h4 ⟨e1, .inr (.inl e)⟩⟩)
        by_cases g : X.kind (X.get a n).1 = 2
        · exact g
        · exact absurd ⟨e, g⟩ h
    · rw [w_on hk h1 h2 h3 h4 h5]
      exact walk_has X hL fol m _ r d (hL.get a n ha hk h3) (fun e => absurd e h5) hr
termination_by (m, ns.length)

/-- What a path with more behind it leads by. -/
theorem walk_on (X : Tr) (m : Nat) (a : Int) (ns rs : List ByteArray) (d : Bool) (hr : rs ≠ []) (h : (walkT X true m a ns true).2 = 0) :
    (∃ k, walkT X true m a (ns ++ rs) d = walkT X true k (walkT X true m a ns true).1.2.2 rs d) ∨ (walkT X true m a (ns ++ rs) d).2 = 36 := by
  match ns with
  | [] => rw [w_nil]; exact .inl ⟨m, rfl⟩
  | n :: r =>
    rw [List.cons_append]
    by_cases hk : X.kind a = 2
    case neg => rw [w_kind hk] at h; cases h
    by_cases h1 : n = dot2
    · subst h1
      rw [w_dots hk] at h
      rw [w_dots hk, w_dots hk]
      exact walk_on X m _ r rs d hr h
    by_cases h2 : n = dot1
    · subst h2
      rw [w_dot hk] at h
      rw [w_dot hk, w_dot hk]
      exact walk_on X m _ r rs d hr h
    by_cases h3 : (X.get a n).2 = 0
    case neg =>
      rw [w_err hk h1 h2 h3] at h
      split at h
      · cases h
      · exact absurd h h3
    have hne : r ++ rs ≠ [] := fun e => hr (List.append_eq_nil_iff.1 e).2
    by_cases h4 : Lnk X true a n r true
    · have h4' : Lnk X true a n (r ++ rs) d := ⟨h4.1, .inr (.inl rfl)⟩
      match m with
      | 0 => rw [w_loop hk h1 h2 h3 h4] at h; cases h
      | k + 1 =>
        rw [w_link hk h1 h2 h3 h4] at h
        rw [w_link hk h1 h2 h3 h4, w_link hk h1 h2 h3 h4']
        by_cases g1 : (X.target (X.get a n).1).2 = 0
        case neg => rw [if_pos g1] at h; exact absurd h g1
        by_cases g2 : pe (X.target (X.get a n).1).1 = 0
        case neg => rw [if_neg (nn g1), if_pos g2] at h; exact absurd h g2
        by_cases g3 : 400 < (pn (X.target (X.get a n).1).1).length + r.length
        · rw [if_neg (nn g1), if_neg (nn g2), if_pos g3] at h; cases h
        rw [if_neg (nn g1), if_neg (nn g2), if_neg g3] at h ⊢
        rw [if_neg (nn g1), if_neg (nn g2)]
        by_cases g4 : 400 < (pn (X.target (X.get a n).1).1).length + (r ++ rs).length
        · rw [if_pos g4]; exact .inr rfl
        rw [if_neg g4, if_neg hne, ← List.append_assoc]
        have e : (if r = [] then true || pd (X.target (X.get a n).1).1 else true) = true := by split <;> simp
        rw [e] at h ⊢
        exact walk_on X k _ _ rs d hr h
    have hk3 : X.kind (X.get a n).1 ≠ 3 := fun e => h4 ⟨e, .inr (.inl rfl)⟩
    rw [w_on hk h1 h2 h3 (fun e => hk3 e.1) hne]
    by_cases h5 : r = []
    · subst h5
      rw [w_last hk h1 h2 h3 h4] at h ⊢
      split at h
      · cases h
      · rename_i g
        rw [if_neg g]
        exact .inl ⟨m, rfl⟩
    · rw [w_on hk h1 h2 h3 h4 h5] at h ⊢
      exact walk_on X m _ r rs d hr h
termination_by (m, ns.length)

/-- With a slash behind or without. -/
theorem walk_dirs (X : Tr) (fol : Bool) (m : Nat) (a : Int) (ns : List ByteArray) (d : Bool) (h : (walkT X fol m a ns true).2 = 0) : walkT X true m a ns d = walkT X fol m a ns true := by
  match ns with
  | [] => rw [w_nil, w_nil]
  | n :: r =>
    by_cases hk : X.kind a = 2
    case neg => rw [w_kind hk] at h; cases h
    by_cases h1 : n = dot2
    · subst h1
      rw [w_dots hk] at h
      rw [w_dots hk, w_dots hk]
      exact walk_dirs X fol m _ r d h
    by_cases h2 : n = dot1
    · subst h2
      rw [w_dot hk] at h
      rw [w_dot hk, w_dot hk]
      exact walk_dirs X fol m _ r d h
    by_cases h3 : (X.get a n).2 = 0
    case neg =>
      rw [w_err hk h1 h2 h3] at h
      split at h
      · cases h
      · exact absurd h h3
    by_cases h4 : Lnk X fol a n r true
    · have h4' : Lnk X true a n r d := ⟨h4.1, .inr (.inl rfl)⟩
      match m with
      | 0 => rw [w_loop hk h1 h2 h3 h4] at h; cases h
      | k + 1 =>
        rw [w_link hk h1 h2 h3 h4] at h
        rw [w_link hk h1 h2 h3 h4, w_link hk h1 h2 h3 h4']
        by_cases g1 : (X.target (X.get a n).1).2 = 0
        case neg => rw [if_pos g1] at h; exact absurd h g1
        by_cases g2 : pe (X.target (X.get a n).1).1 = 0
        case neg => rw [if_neg (nn g1), if_pos g2] at h; exact absurd h g2
        by_cases g3 : 400 < (pn (X.target (X.get a n).1).1).length + r.length
        · rw [if_neg (nn g1), if_neg (nn g2), if_pos g3] at h; cases h
        rw [if_neg (nn g1), if_neg (nn g2), if_neg g3] at h
        rw [if_neg (nn g1), if_neg (nn g1), if_neg (nn g2), if_neg (nn g2), if_neg g3, if_neg g3]
        have e : (if r = [] then true || pd (X.target (X.get a n).1).1 else true) = true := by split <;> simp
        rw [e] at h ⊢
        exact walk_dirs X fol k _ _ _ h
    have hk3 : X.kind (X.get a n).1 ≠ 3 := fun e => h4 ⟨e, .inr (.inr rfl)⟩
    by_cases h5 : r = []
    · subst h5
      rw [w_last hk h1 h2 h3 h4] at h
      rw [w_last hk h1 h2 h3 h4, w_last hk h1 h2 h3 (fun e => hk3 e.1)]
      split at h
      · cases h
      · rename_i g
        rw [if_neg g, if_neg (fun e => g ⟨rfl, e.2⟩)]
    · rw [w_on hk h1 h2 h3 h4 h5] at h
      rw [w_on hk h1 h2 h3 h4 h5, w_on hk h1 h2 h3 (fun e => hk3 e.1) h5]
      exact walk_dirs X fol m _ r d h
termination_by (m, ns.length)
end Go.Proofs.YtlnlehoekchdeaaGreat.wk
end
section
namespace Go.Proofs.YtlnlehoekchdeaaGreat.wk
open Go.Proofs.YtlnlehoekchdeaaGreat.pa (Bs pnames pdirE perr pdir nms comps comps_mid comps_nil comps_one one_ne one_nil lastDots perr_zero pnames_ok pdirE_ok)
set_option linter.unusedVariables false

theorem comps_back (s : Bs) : comps (s ++ [47]) = comps s := by
  have := comps_mid s []
  rw [comps_nil, List.append_nil] at this
  exact this
theorem comps_front (s : Bs) : comps (47 :: s) = comps s := by
  have := comps_mid [] s
  rw [comps_nil, List.nil_append, List.nil_append] at this
  exact this
theorem nms_back (s : Bs) : nms (s ++ [47]) = nms s := by unfold nms; rw [comps_back]
theorem nms_front (s : Bs) : nms (47 :: s) = nms s := by unfold nms; rw [comps_front]
theorem one_dot : comps [46] = [[46]] := by rw [comps_one _ (by decide), one_ne _ (by decide)]
theorem one_dots : comps [46, 46] = [[46, 46]] := by rw [comps_one _ (by decide), one_ne _ (by decide)]
theorem comps_dot (s : Bs) : comps (s ++ [47, 46]) = comps s ++ [[46]] := by
  have := comps_mid s [46]
  rw [one_dot] at this
  exact this
theorem nms_dot (s : Bs) : nms (s ++ [47, 46]) = nms s := by
  unfold nms
  rw [comps_dot, List.filter_append]
  simp
theorem comps_up (s x : Bs) (h0 : x ≠ []) (h1 : ∀ c ∈ x, c ≠ 47) : comps (s ++ 47 :: (x ++ [47, 46, 46])) = comps s ++ [x, [46, 46]] := by
  rw [comps_mid]
  have := comps_mid x [46, 46]
  rw [one_dots, comps_one x h1, one_ne x h0] at this
  rw [this]
  rfl
theorem nms_up (s x : Bs) (h0 : x ≠ []) (h1 : ∀ c ∈ x, c ≠ 47) (h2 : x ≠ [46]) : nms (s ++ 47 :: (x ++ [47, 46, 46])) = nms s ++ [x, [46, 46]] := by
  unfold nms
  rw [comps_up s x h0 h1, List.filter_append]
  simp [h2]
theorem pdir_dot (s : Bs) : pdir (s ++ [47, 46]) = true := by
  unfold pdir lastDots
  rw [comps_dot]
  simp
theorem pdir_up (s x : Bs) (h0 : x ≠ []) (h1 : ∀ c ∈ x, c ≠ 47) : pdir (s ++ 47 :: (x ++ [47, 46, 46])) = true := by
  unfold pdir lastDots
  rw [comps_up s x h0 h1]
  simp
theorem perr_back {s : Bs} (h : perr (s ++ [47]) = 0) (hs : s ≠ []) : perr s = 0 := by
  rw [perr_zero] at h ⊢
  obtain ⟨h1, h2, h3, h4, h5⟩ := h
  rw [comps_back] at h4
  rw [nms_back] at h5
  refine ⟨hs, ?_, fun e => h3 (List.mem_append_left _ e), h4, h5⟩
  rw [List.length_append] at h2
  exact Nat.le_trans (Nat.le_add_right _ _) h2
theorem perr_dot {s : Bs} (h : perr (s ++ [47, 46]) = 0) (hs : s ≠ []) : perr s = 0 := by
  rw [perr_zero] at h ⊢
  obtain ⟨h1, h2, h3, h4, h5⟩ := h
  rw [comps_dot] at h4
  rw [nms_dot] at h5
  refine ⟨hs, ?_, fun e => h3 (List.mem_append_left _ e), fun x hx => h4 x (List.mem_append_left _ hx), h5⟩
  rw [List.length_append] at h2
  exact Nat.le_trans (Nat.le_add_right _ _) h2
/-- With a slash before it: the same, where it is short enough. -/
theorem perr_front {s : Bs} (hs : s ≠ []) (hl : s.length + 1 ≤ 400) : perr (47 :: s) = perr s := by
  unfold perr
  have hz : ((0 : UInt8) ∈ (47 :: s)) ↔ (0 : UInt8) ∈ s := by
    rw [List.mem_cons]
    exact ⟨fun h => h.elim (fun e => absurd e (by decide)) id, .inr⟩
  have e1 : ¬ (47 :: s = []) := by simp
  have e2 : ¬ 400 < (47 :: s).length := by rw [List.length_cons]; omega
  have e3 : ¬ 400 < s.length := by omega
  rw [if_neg e1, if_neg hs, if_neg e2, if_neg e3, comps_front, nms_front]
  simp only [hz]
theorem pdir_back (s : Bs) : pdir (s ++ [47]) = true := by
  unfold pdir
  have : Lib.hasSuffix (s ++ [47]) [47] = true := by simp [Lib.hasSuffix, List.isSuffixOf]
  rw [this]
  simp
theorem pdir_front {s : Bs} (hs : s ≠ []) : pdir (47 :: s) = pdir s := by
  unfold pdir
  have : Lib.hasSuffix (47 :: s) [47] = Lib.hasSuffix s [47] := by
    unfold Lib.hasSuffix List.isSuffixOf
    have e : ((47 :: s : Bs)).reverse = s.reverse ++ [47] := List.reverse_cons
    rw [e]
    cases h : s.reverse with
    | nil => exact absurd (List.reverse_eq_nil_iff.1 h) hs
    | cons c t => simp [List.isPrefixOf]
  rw [this, comps_front]
end Go.Proofs.YtlnlehoekchdeaaGreat.wk
end
section
namespace Go.Proofs.YtlnlehoekchdeaaGreat.cb
open Go.RowKit
open Go.Proofs.YtlnlehoekchdeaaGreat.br
open Go.Proofs.YtlnlehoekchdeaaGreat.dn (lget)
set_option linter.unusedVariables false
set_option linter.unusedSimpArgs false

def trS (S : BS) : wk.Tr := ⟨S.kindOf, S.get, S.targetOf, S.parentOf⟩
def LvS (S : BS) (a : Int) : Prop := ∃ k : Nat, a = (k : Int) ∧ 1 ≤ k ∧ k ≤ 200 ∧ (S.ino k).links ≠ 0
theorem get_yes {S : BS} {k : Nat} {n : ByteArray} (h : (S.get (k : Int) n).2 = 0) : lget n (S.ino k).dir = some (S.get (k : Int) n).1 := by
  unfold BS.get at h ⊢
  split at h
  · rename_i h1
    exact absurd h h1
  · rename_i h1
    rw [if_neg h1]
    rw [at_nat] at h ⊢
    cases hg : lget n (S.ino k).dir with
    | none => rw [hg] at h; cases h
    | some v => rfl
theorem live_of {S : BS} {room : Nat} (hG : br.Good S room) : wk.Live (trS S) (LvS S) := by
  obtain ⟨hI, hT⟩ := hG
  refine ⟨⟨⟨1, rfl, by decide, by decide, by rw [hI.root.2.1]; decide⟩, ?_⟩, ?_, ?_⟩
  · show S.kindOf ((1 : Nat) : Int) = 2
    rw [kind_of (by decide) (by decide)]; exact hI.root.1
  · rintro a n ⟨k, rfl, k1, k2, hl⟩ hk h
    obtain ⟨_, _, I, hv, i1, i2, _, il, _⟩ := hI.lead (get_yes h)
    exact ⟨I, hv, i1, i2, by omega⟩
  · rintro a ⟨k, rfl, k1, k2, hl⟩ hk
    have hk' : (S.ino k).kind = 2 := by
      have : S.kindOf (k : Int) = 2 := hk
      rwa [kind_of k1 k2] at this
    have hp : (trS S).parent (k : Int) = (S.ino k).parent := parent_of k1 k2 (by rw [hk']; decide)
    rw [hp]
    by_cases e : k = 1
    · subst e
      rw [hI.root.2.2]
      refine ⟨⟨1, rfl, by decide, by decide, hl⟩, ?_⟩
      show S.kindOf ((1 : Nat) : Int) = 2
      rw [kind_of (by decide) (by decide)]; exact hI.root.1
    · obtain ⟨deep, hd⟩ := hT
      obtain ⟨p, h1, h2, h3, _⟩ := hd k hk' hl e
      have hp1 : ¬ (p = 0 ∨ 200 < p) := fun h => by rw [hI.out p h] at h2; cases h2
      rw [h1]
      refine ⟨⟨p, rfl, by omega, by omega, h3⟩, ?_⟩
      show S.kindOf (p : Int) = 2
      rw [kind_of (by omega) (by omega)]; exact h2
end Go.Proofs.YtlnlehoekchdeaaGreat.cb
end
section
namespace Go.Proofs.YtlnlehoekchdeaaGreat.cb
open Go.RowKit
theorem size23 (W : World) : (sizeOf (Tryz.prog.elem 23)).run Tryz.prog W = .ok 1 W := by kernel_rfl
theorem run_tail (g0 o0 q c : Nat) (hl : q + 1 ≤ c) : ∃ ad' c', (∀ W, (Instr.slice 23 (.slice (some ⟨g0, o0, none⟩) (q + 1) c) (some (.int .i64 1)) none none).run Tryz.prog W = .ok (.slice (some ad') q c') W) ∧ ((q = 0 ∨ ad' = ⟨g0, o0 + 1, none⟩) ∧ q ≤ c') := by
  refine ⟨if c = 1 then ⟨g0, o0, none⟩ else ⟨g0, o0 + 1, none⟩, c - 1, fun W => ?_, ?_, by omega⟩
  · rw [run_slice_l (P := Tryz.prog) W 23 _ _ _ (by kernel_rfl) .i64 1 (by decide) (by omega), size23]
    by_cases hc : c = 1 <;> simp [Result.andThen, sliced, hc, Addr.add]
  · by_cases hc : c = 1
    · exact .inl (by omega)
    · rw [if_neg hc]; exact .inr rfl
end Go.Proofs.YtlnlehoekchdeaaGreat.cb
end
