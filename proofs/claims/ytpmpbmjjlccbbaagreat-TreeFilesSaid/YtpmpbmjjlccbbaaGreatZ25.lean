/- Part 25 of what is known of the program's functions and of the document's words: contracts, and the mathematics beneath them. -/
import Derived.Test.YtpmpbmjjlccbbaaGreatProg
import Derived.Test.YtpmpbmjjlccbbaaGreatZ22
import Derived.Test.YtpmpbmjjlccbbaaGreatZ20
import Derived.Test.YtpmpbmjjlccbbaaGreatZ24
set_option linter.unusedVariables false
set_option linter.unusedSimpArgs false
set_option maxRecDepth 100000
set_option maxHeartbeats 8000000
namespace Go.Proofs.YtpmpbmjjlccbbaaGreat.wk
open pa (Bs pnames pdirE perr nms comps)
structure Tr where
 kind : Int → Int
 get : Int → ByteArray → Int × Int
 target : Int → ByteArray × Int
 parent : Int → Int
abbrev Rs := (Int × ByteArray × Int) × Int
def e0 : ByteArray := ⟨#[]⟩
def r0 : Int × ByteArray × Int := (0, e0, 0)
def pn (t : ByteArray) : List ByteArray := (pnames t.data.toList).map fun x => ⟨x.toArray⟩
def pd (t : ByteArray) : Bool := pdirE t.data.toList
def pe (t : ByteArray) : Int := perr t.data.toList
def slash (t : ByteArray) : Bool := t.data.toList.head? == some 47
def dot2 : ByteArray := ⟨#[46, 46]⟩
def dot1 : ByteArray := ⟨#[46]⟩
def walkT (X : Tr) (fol : Bool) : Nat → Int → List ByteArray → Bool → Rs
 | _, a, [], _ => ((a, e0, a), 0)
 | m, a, n :: r, d =>
  if X.kind a ≠ 2 then (r0, 20)
  else if n = dot2 then walkT X fol m (X.parent a) r d
  else if n = dot1 then walkT X fol m a r d
  else if (X.get a n).2 ≠ 0 then (if (X.get a n).2 = 2 ∧ r = [] then ((a, n, 0), 2) else (r0, (X.get a n).2))
  else if X.kind (X.get a n).1 = 3 ∧ (r ≠ [] ∨ fol = true ∨ d = true) then
   if m = 0 then (r0, 40)
   else if (X.target (X.get a n).1).2 ≠ 0 then (r0, (X.target (X.get a n).1).2)
    else if pe (X.target (X.get a n).1).1 ≠ 0 then (r0, pe (X.target (X.get a n).1).1)
    else if 400 < (pn (X.target (X.get a n).1).1).length + r.length then (r0, 36)
    else walkT X fol (m - 1) (if slash (X.target (X.get a n).1).1 = true then 1 else a) (pn (X.target (X.get a n).1).1 ++ r) (if r = [] then d || pd (X.target (X.get a n).1).1 else d)
  else if r = [] then (if d = true ∧ X.kind (X.get a n).1 ≠ 2 then (r0, 20) else ((a, n, (X.get a n).1), 0))
  else walkT X fol m (X.get a n).1 r d
termination_by m _ ns _ => (m, ns.length)
decreasing_by all_goals first | (apply Prod.Lex.left; omega) | (apply Prod.Lex.right; simp)
theorem nn {p : Prop} (h : p) : ¬ ¬ p := fun k => k h
section
variable {X : Tr} {fol : Bool} {m : Nat} {a : Int} {n : ByteArray} {r : List ByteArray} {d : Bool}
def Lnk (X : Tr) (fol : Bool) (a : Int) (n : ByteArray) (r : List ByteArray) (d : Bool) : Prop := X.kind (X.get a n).1 = 3 ∧ (r ≠ [] ∨ fol = true ∨ d = true)
instance : Decidable (Lnk X fol a n r d) := by unfold Lnk; infer_instance
theorem w_nil : walkT X fol m a [] d = ((a, e0, a), 0) := by rw [walkT]
theorem w_kind (h : X.kind a ≠ 2) : walkT X fol m a (n :: r) d = (r0, 20) := by rw [walkT, if_pos h]
theorem w_dots (h : X.kind a = 2) : walkT X fol m a (dot2 :: r) d = walkT X fol m (X.parent a) r d := by rw [walkT, if_neg (by rw [h]; decide), if_pos rfl]
theorem w_dot (h : X.kind a = 2) : walkT X fol m a (dot1 :: r) d = walkT X fol m a r d := by rw [walkT, if_neg (by rw [h]; decide), if_neg (by decide), if_pos rfl]
theorem w_err (h : X.kind a = 2) (h1 : n ≠ dot2) (h2 : n ≠ dot1) (h3 : (X.get a n).2 ≠ 0) : walkT X fol m a (n :: r) d = (if (X.get a n).2 = 2 ∧ r = [] then ((a, n, 0), 2) else (r0, (X.get a n).2)) := by
 rw [walkT, if_neg (by rw [h]; decide), if_neg h1, if_neg h2, if_pos h3]
theorem w_loop (h : X.kind a = 2) (h1 : n ≠ dot2) (h2 : n ≠ dot1) (h3 : (X.get a n).2 = 0) (h4 : Lnk X fol a n r d) : walkT X fol 0 a (n :: r) d = (r0, 40) := by
 rw [walkT, if_neg (by rw [h]; decide), if_neg h1, if_neg h2, if_neg (by rw [h3]; decide), if_pos (show X.kind (X.get a n).1 = 3 ∧ (r ≠ [] ∨ fol = true ∨ d = true) from h4), if_pos rfl]
theorem w_link (h : X.kind a = 2) (h1 : n ≠ dot2) (h2 : n ≠ dot1) (h3 : (X.get a n).2 = 0) (h4 : Lnk X fol a n r d) :
  walkT X fol (m + 1) a (n :: r) d = if (X.target (X.get a n).1).2 ≠ 0 then (r0, (X.target (X.get a n).1).2)
   else if pe (X.target (X.get a n).1).1 ≠ 0 then (r0, pe (X.target (X.get a n).1).1)
   else if 400 < (pn (X.target (X.get a n).1).1).length + r.length then (r0, 36)
   else walkT X fol m (if slash (X.target (X.get a n).1).1 = true then 1 else a) (pn (X.target (X.get a n).1).1 ++ r) (if r = [] then d || pd (X.target (X.get a n).1).1 else d) := by
 rw [walkT, if_neg (by rw [h]; decide), if_neg h1, if_neg h2, if_neg (by rw [h3]; decide), if_pos (show X.kind (X.get a n).1 = 3 ∧ (r ≠ [] ∨ fol = true ∨ d = true) from h4), if_neg (Nat.succ_ne_zero m), Nat.add_sub_cancel]
theorem w_last (h : X.kind a = 2) (h1 : n ≠ dot2) (h2 : n ≠ dot1) (h3 : (X.get a n).2 = 0) (h4 : ¬ Lnk X fol a n [] d) : walkT X fol m a [n] d = if d = true ∧ X.kind (X.get a n).1 ≠ 2 then (r0, 20) else ((a, n, (X.get a n).1), 0) := by
 rw [walkT, if_neg (by rw [h]; decide), if_neg h1, if_neg h2, if_neg (by rw [h3]; decide), if_neg (show ¬ (X.kind (X.get a n).1 = 3 ∧ (([] : List ByteArray) ≠ [] ∨ fol = true ∨ d = true)) from h4), if_pos rfl]
theorem w_on (h : X.kind a = 2) (h1 : n ≠ dot2) (h2 : n ≠ dot1) (h3 : (X.get a n).2 = 0) (h4 : ¬ Lnk X fol a n r d) (h5 : r ≠ []) : walkT X fol m a (n :: r) d = walkT X fol m (X.get a n).1 r d := by
 rw [walkT, if_neg (by rw [h]; decide), if_neg h1, if_neg h2, if_neg (by rw [h3]; decide), if_neg (show ¬ (X.kind (X.get a n).1 = 3 ∧ (r ≠ [] ∨ fol = true ∨ d = true)) from h4), if_neg h5]
end
end Go.Proofs.YtpmpbmjjlccbbaaGreat.wk
namespace Go.Proofs.YtpmpbmjjlccbbaaGreat.wk
open pa (Bs pnames pdirE perr nms comps comps_is)
theorem pn_ne (t : ByteArray) : ∀ n ∈ pn t, n ≠ e0 := by
 intro n hn
 unfold pn at hn
 rw [List.mem_map] at hn
 obtain ⟨x, hx, rfl⟩ := hn
 unfold pnames at hx
 split at hx
 ·unfold nms at hx
  rw [List.mem_filter] at hx
  have h1 := (comps_is _ x hx.1).1
  intro e
  have : x.toArray = #[] := by
   have := congrArg ByteArray.data e
   simpa [e0] using this
  exact h1 (by simpa using this)
 ·cases hx
structure Live (X : Tr) (Lv : Int → Prop) : Prop where
 root : Lv 1 ∧ X.kind 1 = 2
 get : ∀ a n, Lv a → X.kind a = 2 → (X.get a n).2 = 0 → Lv (X.get a n).1
 up : ∀ a, Lv a → X.kind a = 2 → Lv (X.parent a) ∧ X.kind (X.parent a) = 2
def Fnd (X : Tr) (fol d : Bool) (R : Rs) : Prop :=
 (R.2 = 0 ∧ R.1.2.1 = e0 ∧ R.1.1 = R.1.2.2 ∧ X.kind R.1.2.2 = 2) ∨
 (R.2 = 0 ∧ R.1.2.1 ≠ e0 ∧ X.get R.1.1 R.1.2.1 = (R.1.2.2, 0) ∧ (d = true → X.kind R.1.2.2 = 2) ∧ (fol = true → X.kind R.1.2.2 ≠ 3)) ∨
 (R.2 = 2 ∧ R.1.2.1 ≠ e0 ∧ (X.get R.1.1 R.1.2.1).2 = 2 ∧ R.1.2.2 = 0) ∨
 (R.2 ≠ 0 ∧ R.1 = r0)
theorem Fnd.mono {X : Tr} {fol d d' : Bool} {R : Rs} (h : Fnd X fol d R) (hd : d' = true → d = true) : Fnd X fol d' R := by
 rcases h with h | ⟨h1, h2, h3, h4, h5⟩ | h | h
 ·exact .inl h
 ·exact .inr (.inl ⟨h1, h2, h3, fun e => h4 (hd e), h5⟩)
 ·exact .inr (.inr (.inl h))
 ·exact .inr (.inr (.inr h))
theorem walk_has (X : Tr) {Lv : Int → Prop} (hL : Live X Lv) (fol : Bool) (m : Nat) (a : Int) (ns : List ByteArray) (d : Bool) (ha : Lv a) (he : ns = [] → X.kind a = 2) (hn : ∀ n ∈ ns, n ≠ e0) : Fnd X fol d (walkT X fol m a ns d) := by
 match ns with
 | [] => rw [w_nil]; exact .inl ⟨rfl, rfl, rfl, he rfl⟩
 | n :: r =>
  have hr : ∀ n ∈ r, n ≠ e0 := fun x hx => hn x (List.mem_cons_of_mem _ hx)
  by_cases hk : X.kind a = 2
  case neg => rw [w_kind hk]; exact .inr (.inr (.inr ⟨by show (20 : Int) ≠ 0; decide, rfl⟩))
  by_cases h1 : n = dot2
  ·subst h1
   rw [w_dots hk]
   exact walk_has X hL fol m _ r d (hL.up a ha hk).1 (fun _ => (hL.up a ha hk).2) hr
  by_cases h2 : n = dot1
  ·subst h2
   rw [w_dot hk]
   exact walk_has X hL fol m _ r d ha (fun _ => hk) hr
  by_cases h3 : (X.get a n).2 = 0
  case neg =>
   rw [w_err hk h1 h2 h3]
   split
   ·rename_i h
    exact .inr (.inr (.inl ⟨rfl, hn n List.mem_cons_self, h.1, rfl⟩))
   ·exact .inr (.inr (.inr ⟨h3, rfl⟩))
  by_cases h4 : Lnk X fol a n r d
  ·match m with
   | 0 => rw [w_loop hk h1 h2 h3 h4]; exact .inr (.inr (.inr ⟨by show (40 : Int) ≠ 0; decide, rfl⟩))
   | k + 1 =>
    rw [w_link hk h1 h2 h3 h4]
    by_cases g1 : (X.target (X.get a n).1).2 = 0
    case neg => rw [if_pos g1]; exact .inr (.inr (.inr ⟨g1, rfl⟩))
    by_cases g2 : pe (X.target (X.get a n).1).1 = 0
    case neg => rw [if_neg (nn g1), if_pos g2]; exact .inr (.inr (.inr ⟨g2, rfl⟩))
    by_cases g3 : 400 < (pn (X.target (X.get a n).1).1).length + r.length
    ·rw [if_neg (nn g1), if_neg (nn g2), if_pos g3]; exact .inr (.inr (.inr ⟨by show (36 : Int) ≠ 0; decide, rfl⟩))
    rw [if_neg (nn g1), if_neg (nn g2), if_neg g3]
    refine (walk_has X hL fol k _ _ _ ?_ ?_ ?_).mono ?_
    ·split
     ·exact hL.root.1
     ·exact ha
    ·intro _
     split
     ·exact hL.root.2
     ·exact hk
    ·intro x hx
     rcases List.mem_append.1 hx with h | h
     ·exact pn_ne _ x h
     ·exact hr x h
    ·intro e
     split
     ·rw [e]; rfl
     ·exact e
  by_cases h5 : r = []
  ·subst h5
   rw [w_last hk h1 h2 h3 h4]
   split
   ·exact .inr (.inr (.inr ⟨by show (20 : Int) ≠ 0; decide, rfl⟩))
   ·rename_i h
    refine .inr (.inl ⟨rfl, hn n List.mem_cons_self, Prod.ext rfl h3, fun e => ?_, fun e e1 => h4 ⟨e1, .inr (.inl e)⟩⟩)
    by_cases g : X.kind (X.get a n).1 = 2
    ·exact g
    ·exact absurd ⟨e, g⟩ h
  ·rw [w_on hk h1 h2 h3 h4 h5]
   exact walk_has X hL fol m _ r d (hL.get a n ha hk h3) (fun e => absurd e h5) hr
termination_by (m, ns.length)
end Go.Proofs.YtpmpbmjjlccbbaaGreat.wk
namespace Go.Proofs.YtpmpbmjjlccbbaaGreat.cb
open Go.RowKit
open br
open dn (lget)
def trS (S : BS) : wk.Tr := ⟨S.kindOf, S.get, S.targetOf, S.parentOf⟩
def LvS (S : BS) (a : Int) : Prop := ∃ k : Nat, a = (k : Int) ∧ 1 ≤ k ∧ k ≤ 200 ∧ (S.ino k).links ≠ 0
theorem get_yes {S : BS} {k : Nat} {n : ByteArray} (h : (S.get (k : Int) n).2 = 0) : lget n (S.ino k).dir = some (S.get (k : Int) n).1 := by
 unfold BS.get at h ⊢
 split at h
 ·rename_i h1
  exact absurd h h1
 ·rename_i h1
  rw [if_neg h1]
  rw [at_nat] at h ⊢
  cases hg : lget n (S.ino k).dir with
  | none => rw [hg] at h; cases h
  | some v => rfl
theorem live_of {S : BS} {room : Nat} (hG : br.Good S room) : wk.Live (trS S) (LvS S) := by
 obtain ⟨hI, hT⟩ := hG
 refine ⟨⟨⟨1, rfl, by decide, by decide, by rw [hI.root.2.1]; decide⟩, ?_⟩, ?_, ?_⟩
 ·show S.kindOf ((1 : Nat) : Int) = 2
  rw [kind_of (by decide) (by decide)]; exact hI.root.1
 ·rintro a n ⟨k, rfl, k1, k2, hl⟩ hk h
  obtain ⟨_, _, I, hv, i1, i2, _, il, _⟩ := hI.lead (get_yes h)
  exact ⟨I, hv, i1, i2, by omega⟩
 ·rintro a ⟨k, rfl, k1, k2, hl⟩ hk
  have hk' : (S.ino k).kind = 2 := by
   have : S.kindOf (k : Int) = 2 := hk
   rwa [kind_of k1 k2] at this
  have hp : (trS S).parent (k : Int) = (S.ino k).parent := parent_of k1 k2 (by rw [hk']; decide)
  rw [hp]
  by_cases e : k = 1
  ·subst e
   rw [hI.root.2.2]
   refine ⟨⟨1, rfl, by decide, by decide, hl⟩, ?_⟩
   show S.kindOf ((1 : Nat) : Int) = 2
   rw [kind_of (by decide) (by decide)]; exact hI.root.1
  ·obtain ⟨deep, hd⟩ := hT
   obtain ⟨p, h1, h2, h3, _⟩ := hd k hk' hl e
   have hp1 : ¬ (p = 0 ∨ 200 < p) := fun h => by rw [hI.out p h] at h2; cases h2
   rw [h1]
   refine ⟨⟨p, rfl, by omega, by omega, h3⟩, ?_⟩
   show S.kindOf (p : Int) = 2
   rw [kind_of (by omega) (by omega)]; exact h2
end Go.Proofs.YtpmpbmjjlccbbaaGreat.cb
namespace Go.Proofs.YtpmpbmjjlccbbaaGreat.cb
open Go.RowKit
theorem size23 (W : World) : (sizeOf (Tryz.prog.elem 48)).run Tryz.prog W = .ok 1 W := by kernel_rfl
theorem run_tail (g0 o0 q c : Nat) (hl : q + 1 ≤ c) : ∃ ad' c', (∀ W, (Instr.slice 48 (.slice (some ⟨g0, o0, none⟩) (q + 1) c) (some (.int .i64 1)) none none).run Tryz.prog W = .ok (.slice (some ad') q c') W) ∧ ((q = 0 ∨ ad' = ⟨g0, o0 + 1, none⟩) ∧ q ≤ c') := by
 refine ⟨if c = 1 then ⟨g0, o0, none⟩ else ⟨g0, o0 + 1, none⟩, c - 1, fun W => ?_, ?_, by omega⟩
 ·rw [run_slice_l (P := Tryz.prog) W 48 _ _ _ (by kernel_rfl) .i64 1 (by decide) (by omega), size23]
  by_cases hc : c = 1 <;> simp [Result.andThen, sliced, hc, Addr.add]
 ·by_cases hc : c = 1
  ·exact .inl (by omega)
  ·rw [if_neg hc]; exact .inr rfl
end Go.Proofs.YtpmpbmjjlccbbaaGreat.cb
