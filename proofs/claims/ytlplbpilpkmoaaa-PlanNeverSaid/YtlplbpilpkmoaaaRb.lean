/- How the claims to locks stand: the mathematics. -/
import Derived.Test.YtlplbpilpkmoaaaRa
namespace Go.Proofs.Ytlplbpilpkmoaaa.sc
open Go.RowKit Go.Shelf
set_option linter.unusedVariables false
set_option linter.unusedSimpArgs false

structure LG (H W : List Cl) : Prop where
  held : ∀ c ∈ H, c.held = true
  wait : ∀ c ∈ W, c.held = false
  one : ∀ c ∈ H, c.write = true → H = [c]
  nd : ((H ++ W).map (·.task)).Nodup
/-- The first that waits can't be let in. -/
def bar (H W : List Cl) : Prop := ∀ c r, W = c :: r → fitsB H c = false
def admT (T : Tk) (A : List Cl) : Tk := A.foldl (fun T c => (T.add c.task 1).put c.task 0) T
theorem admT_cons (T : Tk) (c : Cl) (A : List Cl) : admT T (c :: A) = admT ((T.add c.task 1).put c.task 0) A := rfl
theorem admT_st : ∀ (A : List Cl) (T : Tk) (k : Nat), (admT T A).st k = if k ∈ A.map (·.task) then 0 else T.st k
  | [], T, k => by simp [admT]
  | c :: A, T, k => by
    rw [admT_cons, admT_st A]
    by_cases h : k ∈ A.map (·.task)
    · simp only [List.map_cons, List.mem_cons]; rw [if_pos h, if_pos (.inr h)]
    · rw [if_neg h]
      by_cases e : k = c.task
      · rw [if_pos (by rw [List.map_cons, e]; simp)]; simp [Tk.put, e]
      · rw [if_neg (by rw [List.map_cons, List.mem_cons]; exact fun h2 => h2.elim e h)]; simp [Tk.put, Tk.add, e]
theorem admT_out : ∀ (A : List Cl) (T : Tk) (k : Nat), k ∉ A.map (·.task) → (admT T A).lk k = T.lk k
  | [], T, k, _ => rfl
  | c :: A, T, k, h => by
    rw [List.map_cons, List.mem_cons, not_or] at h
    rw [admT_cons, admT_out A _ k h.2]
    simp [Tk.put, Tk.add, h.1]
theorem admT_in : ∀ (A : List Cl) (T : Tk) (k : Nat), (A.map (·.task)).Nodup → k ∈ A.map (·.task) → (admT T A).lk k = wrap64 (T.lk k + 1)
  | [], T, k, _, h => by simp at h
  | c :: A, T, k, hn, h => by
    rw [List.map_cons, List.nodup_cons] at hn
    rw [admT_cons]
    by_cases e : k = c.task
    · rw [admT_out A _ k (by rw [e]; exact hn.1)]; simp [Tk.put, Tk.add, e]
    · rw [List.map_cons, List.mem_cons] at h
      rw [admT_in A _ k hn.2 (h.resolve_left e)]; simp [Tk.put, Tk.add, e]
theorem one_push {H : List Cl} {c : Cl} (h1 : ∀ d ∈ H, d.write = true → H = [d]) (hf : fitsB H c = true) : ∀ d ∈ H ++ [c.hold], d.write = true → H ++ [c.hold] = [d] := by
  intro d hd hw
  cases H with
  | nil => simp at hd; rw [hd]; rfl
  | cons a r =>
    have hf2 : (!c.write && !a.write) = true := hf
    simp only [Bool.and_eq_true, Bool.not_eq_true'] at hf2
    rcases List.mem_append.1 hd with h | h
    · have := h1 d h hw
      injection this with e1 e2
      rw [e1, hw] at hf2
      exact absurd hf2.2 (by simp)
    · simp at h
      rw [h] at hw
      have : c.write = true := hw
      rw [this] at hf2
      exact absurd hf2.1 (by simp)
theorem adm_wait : ∀ (W H : List Cl) (T : Tk), (∀ c ∈ W, c.held = false) → (∀ d ∈ H, d.write = true → H = [d]) →
    ∃ A R, W = A ++ R ∧ adm H W T = (H ++ A.map Cl.hold ++ R, admT T A) ∧ bar (H ++ A.map Cl.hold) R ∧ ∀ d ∈ H ++ A.map Cl.hold, d.write = true → H ++ A.map Cl.hold = [d]
  | [], H, T, _, h1 => ⟨[], [], rfl, by simp [adm, admT], (fun c r e => by cases e), by simpa using h1⟩
  | c :: r, H, T, hw, h1 => by
    have hc := hw c (by simp)
    by_cases hf : fitsB H c = true
    · obtain ⟨A, R, e1, e2, e3, e4⟩ := adm_wait r (H ++ [c.hold]) ((T.add c.task 1).put c.task 0) (fun d hd => hw d (by simp [hd])) (one_push h1 hf)
      refine ⟨c :: A, R, by rw [e1]; rfl, ?_, ?_, ?_⟩
      · rw [adm_fit hc hf, e2]; simp [admT_cons]
      · simpa using e3
      · simpa using e4
    · have hf : fitsB H c = false := by simpa using hf
      exact ⟨[], c :: r, rfl, by rw [adm_no hc hf]; simp [admT], fun d t e => by injection e with e1 e2; rw [← e1]; simpa using hf, by simpa using h1⟩
theorem hold_tasks (A : List Cl) : (A.map Cl.hold).map (·.task) = A.map (·.task) := by simp [List.map_map, Function.comp_def, Cl.hold]

structure Good0 (s : Sd) (l0 : Int) : Prop where
  lk : ∀ l, ∃ H W, s.cl l = H ++ W ∧ LG H W ∧ (l ≠ l0 → bar H W)
  wt : ∀ l, ∀ c ∈ s.cl l, c.held = false → s.T.st c.task = 1
  ex : ∀ k, k < s.n → s.T.st k = 1 → ∃ l, ∃ c ∈ s.cl l, c.task = k ∧ c.held = false
  un : ∀ l l' c c', c ∈ s.cl l → c' ∈ s.cl l' → c.held = false → c'.held = false → c.task = c'.task → l = l'
  fit : ∀ l, ∀ c ∈ s.cl l, c.task < s.n
structure Good (s : Sd) : Prop where
  lk : ∀ l, ∃ H W, s.cl l = H ++ W ∧ LG H W ∧ bar H W
  wt : ∀ l, ∀ c ∈ s.cl l, c.held = false → s.T.st c.task = 1
  ex : ∀ k, k < s.n → s.T.st k = 1 → ∃ l, ∃ c ∈ s.cl l, c.task = k ∧ c.held = false
  un : ∀ l l' c c', c ∈ s.cl l → c' ∈ s.cl l' → c.held = false → c'.held = false → c.task = c'.task → l = l'
  fit : ∀ l, ∀ c ∈ s.cl l, c.task < s.n
/-- What 'admit' does to a lock's claims. -/
structure Adm (s s' : Sd) (l : Int) (H A R : List Cl) : Prop where
  old : s.cl l = H ++ (A ++ R)
  new : s'.cl l = (H ++ A.map Cl.hold) ++ R
  tk : s'.T = admT s.T A
  oth : ∀ x, x ≠ l → s'.cl x = s.cl x
  n : s'.n = s.n
  N : s'.N = s.N
  lg0 : LG H (A ++ R)
  lg : LG (H ++ A.map Cl.hold) R
  br : bar (H ++ A.map Cl.hold) R
theorem admit_adm {s : Sd} {l : Int} {H W : List Cl} (e : s.cl l = H ++ W) (h : LG H W) : ∃ A R, W = A ++ R ∧ Adm s (s.admit l) l H A R := by
  obtain ⟨A, R, e1, e2, e3, e4⟩ := adm_wait W H s.T h.wait h.one
  have e5 : adm [] (s.cl l) s.T = (H ++ A.map Cl.hold ++ R, admT s.T A) := by rw [e, adm_pass _ _ _ _ h.held, List.nil_append, e2]
  refine ⟨A, R, e1, ⟨by rw [e, e1], ?_, ?_, fun x hx => ?_, rfl, rfl, by rw [← e1]; exact h, ⟨?_, ?_, e4, ?_⟩, e3⟩⟩
  · unfold Sd.admit; dsimp only; rw [upc_self, e5]
  · unfold Sd.admit; dsimp only; rw [e5]
  · unfold Sd.admit; dsimp only; rw [upc_ne hx]
  · intro c hc
    rcases List.mem_append.1 hc with h1 | h1
    · exact h.held c h1
    · obtain ⟨d, _, rfl⟩ := List.mem_map.1 h1; rfl
  · exact fun c hc => h.wait c (by rw [e1]; simp [hc])
  · have := h.nd
    rw [e1] at this
    rw [List.map_append, List.map_append] at this
    rw [List.map_append, List.map_append, hold_tasks, List.append_assoc]
    exact this
theorem nd_apart {α : Type} {A R : List α} (h : (A ++ R).Nodup) {x : α} (h1 : x ∈ A) (h2 : x ∈ R) : False := by
  rw [List.nodup_append] at h
  exact h.2.2 x h1 x h2 rfl
theorem Adm.sub {s s' : Sd} {l : Int} {H A R : List Cl} (h : Adm s s' l H A R) {x : Int} {c : Cl} (hc : c ∈ s'.cl x) (hh : c.held = false) : c ∈ s.cl x ∧ (x = l → c ∈ R) := by
  by_cases e : x = l
  · subst e
    rw [h.new] at hc
    rcases List.mem_append.1 hc with h1 | h1
    · rw [h.lg.held c h1] at hh; cases hh
    · exact ⟨by rw [h.old]; simp [h1], fun _ => h1⟩
  · rw [h.oth x e] at hc; exact ⟨hc, fun h => absurd h e⟩
theorem Adm.good {s s' : Sd} {l : Int} {H A R : List Cl} (h : Adm s s' l H A R) (hg : Good0 s l) : Good s' := by
  have hAR : ∀ c ∈ A ++ R, c ∈ s.cl l := fun c hc => by rw [h.old]; exact List.mem_append.2 (.inr hc)
  have hnd : ((A ++ R).map (·.task)).Nodup := by
    have := h.lg0.nd
    rw [List.map_append, List.nodup_append] at this
    exact this.2.1
  rw [List.map_append] at hnd
  refine ⟨fun x => ?_, fun x c hc hh => ?_, fun k hk hs => ?_, fun x x' c c' hc hc' h1 h2 h3 => hg.un x x' c c' (h.sub hc h1).1 (h.sub hc' h2).1 h1 h2 h3, fun x c hc => ?_⟩
  · by_cases e : x = l
    · subst e; exact ⟨_, R, h.new, h.lg, h.br⟩
    · obtain ⟨H1, W1, a, b, c⟩ := hg.lk x
      exact ⟨H1, W1, (h.oth x e).trans a, b, c e⟩
  · obtain ⟨h1, h2⟩ := h.sub hc hh
    rw [h.tk, admT_st, if_neg]
    · exact hg.wt x c h1 hh
    · intro hA
      obtain ⟨a, ha, e⟩ := List.mem_map.1 hA
      by_cases e2 : x = l
      · exact nd_apart hnd (List.mem_map.2 ⟨a, ha, e⟩) (List.mem_map.2 ⟨c, h2 e2, rfl⟩)
      · exact e2 (hg.un x l c a h1 (hAR a (by simp [ha])) hh (h.lg0.wait a (by simp [ha])) e.symm)
  · rw [h.tk, admT_st] at hs
    split at hs
    · cases hs
    · rename_i hA
      obtain ⟨x, c, h1, h2, h3⟩ := hg.ex k (by rw [← h.n]; exact hk) hs
      by_cases e : x = l
      · subst e
        rw [h.old] at h1
        rcases List.mem_append.1 h1 with h4 | h4
        · rw [h.lg0.held c h4] at h3; cases h3
        · rcases List.mem_append.1 h4 with h5 | h5
          · exact absurd (List.mem_map.2 ⟨c, h5, h2⟩) hA
          · exact ⟨x, c, by rw [h.new]; simp [h5], h2, h3⟩
      · exact ⟨x, c, by rw [h.oth x e]; exact h1, h2, h3⟩
  · by_cases e : x = l
    · subst e
      rw [h.new] at hc
      have hf := hg.fit x
      rw [h.old] at hf
      rw [h.n]
      rcases List.mem_append.1 hc with h1 | h1
      · rcases List.mem_append.1 h1 with h2 | h2
        · exact hf c (by simp [h2])
        · obtain ⟨d, hd, rfl⟩ := List.mem_map.1 h2
          exact hf d (by simp [hd])
      · exact hf c (by simp [h1])
    · rw [h.oth x e] at hc; rw [h.n]; exact hg.fit x c hc
theorem Good.zero {s : Sd} (h : Good s) (l : Int) : Good0 s l := ⟨fun x => by obtain ⟨H, W, a, b, c⟩ := h.lk x; exact ⟨H, W, a, b, fun _ => c⟩, h.wt, h.ex, h.un, h.fit⟩
theorem good_new (n : Nat) : Good (Sd.new n) :=
  ⟨fun l => ⟨[], [], rfl, ⟨fun c h => by simp at h, fun c h => by simp at h, fun c h => by simp at h, List.nodup_nil⟩, fun c r e => nomatch e⟩, fun l c h => by simp [Sd.new] at h, fun k _ h => by simp [Sd.new, Tk.ini] at h, fun l l' c c' h => by simp [Sd.new] at h, fun l c h => by simp [Sd.new] at h⟩
theorem has_iff {s : Sd} {k : Nat} {l : Int} : s.has k l = true ↔ ∃ c ∈ s.cl l, c.task = k ∧ c.held = true := by
  unfold Sd.has
  rw [List.any_eq_true]
  constructor
  · rintro ⟨c, h1, h2⟩
    rw [Bool.and_eq_true] at h2
    exact ⟨c, h1, of_decide_eq_true h2.1, h2.2⟩
  · rintro ⟨c, h1, h2, h3⟩
    exact ⟨c, h1, by rw [Bool.and_eq_true]; exact ⟨decide_eq_true h2, h3⟩⟩
section
variable {s : Sd}
/-- A claim that comes. -/
theorem Good.come (h : Good s) {k : Nat} {l : Int} {w : Bool} (hk : k < s.n) (hst : s.T.st k = 0) (hh : s.has k l = false) : Good0 (s.come k l w) l ∧ ∃ H W, s.cl l = H ++ W ∧ LG H W ∧ bar H W ∧ LG H (W ++ [⟨k, w, false⟩]) ∧ (s.come k l w).cl l = H ++ (W ++ [⟨k, w, false⟩]) := by
  have hno : ∀ c ∈ s.cl l, c.task ≠ k := fun c hc e => by
    cases hx : c.held with
    | true => exact absurd (has_iff.2 ⟨c, hc, e, hx⟩) (by simp [hh])
    | false => have := h.wt l c hc hx; rw [e, hst] at this; cases this
  have hno2 : ∀ x, ∀ c ∈ s.cl x, c.held = false → c.task ≠ k := fun x c hc hx e => by have := h.wt x c hc hx; rw [e, hst] at this; cases this
  obtain ⟨H, W, e1, e2, e3⟩ := h.lk l
  have ecl : (s.come k l w).cl l = H ++ (W ++ [⟨k, w, false⟩]) := by unfold Sd.come; dsimp only; rw [upc_self, e1, List.append_assoc]
  have eot : ∀ x, x ≠ l → (s.come k l w).cl x = s.cl x := fun x hx => by unfold Sd.come; dsimp only; rw [upc_ne hx]
  have hlg : LG H (W ++ [⟨k, w, false⟩]) := ⟨e2.held, fun c hc => by
      rcases List.mem_append.1 hc with h1 | h1
      · exact e2.wait c h1
      · simp at h1; rw [h1], e2.one, by
      rw [← List.append_assoc, List.map_append, List.nodup_append]
      refine ⟨e2.nd, by simp, fun a ha b hb e => ?_⟩
      simp at hb
      obtain ⟨c, hc, hce⟩ := List.mem_map.1 ha
      exact hno c (by rw [e1]; exact hc) (by rw [hce, e, hb])⟩
  have hst2 : ∀ x, (s.come k l w).T.st x = if x = k then 1 else s.T.st x := fun x => rfl
  have hmem : ∀ x c, c ∈ (s.come k l w).cl x → c ∈ s.cl x ∨ (x = l ∧ c = ⟨k, w, false⟩) := fun x c hc => by
    by_cases e : x = l
    · subst e
      rw [ecl, ← List.append_assoc] at hc
      rcases List.mem_append.1 hc with h1 | h1
      · left; rw [e1]; exact h1
      · right; simp at h1; exact ⟨rfl, h1⟩
    · rw [eot x e] at hc; exact .inl hc
  have hold : ∀ x c, c ∈ s.cl x → c ∈ (s.come k l w).cl x := fun x c hc => by
    by_cases e : x = l
    · subst e; rw [ecl, ← List.append_assoc, ← e1]; exact List.mem_append.2 (.inl hc)
    · rw [eot x e]; exact hc
  refine ⟨⟨fun x => ?_, fun x c hc hx => ?_, fun j hj hs => ?_, fun x x' c c' hc hc' h1 h2 h3 => ?_, fun x c hc => ?_⟩, H, W, e1, e2, e3, hlg, ecl⟩
  · by_cases e : x = l
    · subst e; exact ⟨H, _, ecl, hlg, fun h => absurd rfl h⟩
    · obtain ⟨H1, W1, a, b, c⟩ := h.lk x
      exact ⟨H1, W1, (eot x e).trans a, b, fun _ => c⟩
  · rw [hst2]
    rcases hmem x c hc with h1 | ⟨_, h1⟩
    · rw [if_neg (hno2 x c h1 hx)]; exact h.wt x c h1 hx
    · rw [h1]; simp
  · rw [hst2] at hs
    by_cases e : j = k
    · subst e; exact ⟨l, ⟨j, w, false⟩, by rw [ecl]; simp, rfl, rfl⟩
    · rw [if_neg e] at hs
      obtain ⟨x, c, h1, h2, h3⟩ := h.ex j hj hs
      exact ⟨x, c, hold x c h1, h2, h3⟩
  · rcases hmem x c hc with g1 | ⟨g1, g2⟩
    · rcases hmem x' c' hc' with g3 | ⟨g3, g4⟩
      · exact h.un x x' c c' g1 g3 h1 h2 h3
      · exact absurd (h3.trans (by rw [g4])) (hno2 x c g1 h1)
    · rcases hmem x' c' hc' with g3 | ⟨g3, g4⟩
      · exact absurd (h3.symm.trans (by rw [g2])) (hno2 x' c' g3 h2)
      · rw [g1, g3]
  · rcases hmem x c hc with h1 | ⟨_, h1⟩
    · exact h.fit x c h1
    · rw [h1]; exact hk
/-- A claim that goes. -/
theorem Good.gone (h : Good s) {k : Nat} {l : Int} (hh : s.has k l = true) : Good0 (s.gone k l) l ∧ ∃ H W, s.cl l = H ++ W ∧ LG H W ∧ bar H W ∧ LG (H.filter fun c => !decide (c.task = k)) W ∧ (s.gone k l).cl l = (H.filter fun c => !decide (c.task = k)) ++ W := by
  obtain ⟨d, hd1, hd2, hd3⟩ := has_iff.1 hh
  obtain ⟨H, W, e1, e2, e3⟩ := h.lk l
  have hdH : d ∈ H := by
    rw [e1] at hd1
    rcases List.mem_append.1 hd1 with h1 | h1
    · exact h1
    · rw [e2.wait d h1] at hd3; cases hd3
  have hnd := e2.nd
  rw [List.map_append] at hnd
  have hW : ∀ c ∈ W, c.task ≠ k := fun c hc e => nd_apart hnd (List.mem_map.2 ⟨d, hdH, hd2⟩) (List.mem_map.2 ⟨c, hc, e⟩)
  have hWf : W.filter (fun c => !decide (c.task = k)) = W := List.filter_eq_self.2 fun c hc => by simp [hW c hc]
  have ecl : (s.gone k l).cl l = (H.filter fun c => !decide (c.task = k)) ++ W := by unfold Sd.gone; dsimp only; rw [upc_self, e1, List.filter_append, hWf]
  have eot : ∀ x, x ≠ l → (s.gone k l).cl x = s.cl x := fun x hx => by unfold Sd.gone; dsimp only; rw [upc_ne hx]
  have hlg : LG (H.filter fun c => !decide (c.task = k)) W := ⟨fun c hc => e2.held c (List.mem_filter.1 hc).1, e2.wait, fun c hc hw => by
      have h1 := (List.mem_filter.1 hc)
      have h2 := e2.one c h1.1 hw
      have h3 : (!decide (c.task = k)) = true := h1.2
      rw [h2]; simp only [List.filter, h3], by
      rw [List.map_append]
      refine List.Nodup.sublist (List.Sublist.append ?_ (List.Sublist.refl _)) hnd
      exact (List.filter_sublist).map _⟩
  have hmem : ∀ x c, c ∈ (s.gone k l).cl x → c ∈ s.cl x := fun x c hc => by
    by_cases e : x = l
    · subst e
      rw [ecl] at hc
      rw [e1]
      rcases List.mem_append.1 hc with h1 | h1
      · exact List.mem_append.2 (.inl (List.mem_filter.1 h1).1)
      · exact List.mem_append.2 (.inr h1)
    · rw [eot x e] at hc; exact hc
  refine ⟨⟨fun x => ?_, fun x c hc hx => h.wt x c (hmem x c hc) hx, fun j hj hs => ?_, fun x x' c c' hc hc' => h.un x x' c c' (hmem x c hc) (hmem x' c' hc'), fun x c hc => h.fit x c (hmem x c hc)⟩, H, W, e1, e2, e3, hlg, ecl⟩
  · by_cases e : x = l
    · subst e; exact ⟨_, W, ecl, hlg, fun h => absurd rfl h⟩
    · obtain ⟨H1, W1, a, b, c⟩ := h.lk x
      exact ⟨H1, W1, (eot x e).trans a, b, fun _ => c⟩
  · obtain ⟨x, c, h1, h2, h3⟩ := h.ex j hj hs
    refine ⟨x, c, ?_, h2, h3⟩
    by_cases e : x = l
    · subst e
      rw [ecl]
      rw [e1] at h1
      rcases List.mem_append.1 h1 with h4 | h4
      · rw [e2.held c h4] at h3; cases h3
      · exact List.mem_append.2 (.inr h4)
    · rw [eot x e]; exact h1
theorem toNat_cast (k : Nat) : (k : Int).toNat = k := rfl
theorem lock_cases (h : Good s) (t l : Int) (w : Bool) : ((s.lock t l w).2.1 ≠ 0 ∧ (s.lock t l w).1 = false ∧ (s.lock t l w).2.2 = s) ∨
    ∃ k : Nat, t = (k : Int) ∧ k < s.n ∧ s.T.st k = 0 ∧ s.has k l = false ∧ s.lock t l w = (decide (((s.come k l w).admit l).T.st k = 0), 0, (s.come k l w).admit l) := by
  by_cases h1 : s.ok t ∧ s.T.st t.toNat = 0
  · by_cases h2 : s.has t.toNat l = true
    · left; unfold Sd.lock; rw [if_pos h1, if_pos h2]; exact ⟨by simp, rfl, rfl⟩
    · right
      obtain ⟨k, rfl, hk⟩ := ok_nat h1.1
      refine ⟨k, rfl, hk, h1.2, by simpa using h2, ?_⟩
      unfold Sd.lock; rw [if_pos h1, if_neg h2]; rfl
  · left; unfold Sd.lock; rw [if_neg h1]; exact ⟨by simp, rfl, rfl⟩
theorem unlock_cases (t l : Int) : ((s.unlock t l).1 ≠ 0 ∧ (s.unlock t l).2 = s) ∨ ∃ k : Nat, t = (k : Int) ∧ k < s.n ∧ s.has k l = true ∧ s.unlock t l = (0, (s.gone k l).admit l) := by
  by_cases h1 : s.ok t
  · by_cases h2 : s.has t.toNat l = true
    · right
      obtain ⟨k, rfl, hk⟩ := ok_nat h1
      refine ⟨k, rfl, hk, h2, ?_⟩
      unfold Sd.unlock; rw [if_pos h1, if_pos h2]; rfl
    · left; unfold Sd.unlock; rw [if_pos h1, if_neg h2]; exact ⟨by simp, rfl⟩
  · left; unfold Sd.unlock; rw [if_neg h1]; exact ⟨by simp, rfl⟩
theorem Good.lock (h : Good s) (t l : Int) (w : Bool) : Good (s.lock t l w).2.2 := by
  rcases lock_cases h t l w with ⟨_, _, e⟩ | ⟨k, rfl, hk, hst, hh, e⟩
  · rw [e]; exact h
  · rw [e]
    obtain ⟨g0, H, W, _, _, _, hlg, ecl⟩ := h.come (w := w) hk hst hh
    obtain ⟨A, R, _, ha⟩ := admit_adm ecl hlg
    exact ha.good g0
theorem Good.unlock (h : Good s) (t l : Int) : Good (s.unlock t l).2 := by
  rcases unlock_cases (s := s) t l with ⟨_, e⟩ | ⟨k, rfl, hk, hh, e⟩
  · rw [e]; exact h
  · rw [e]
    obtain ⟨g0, H, W, _, _, _, hlg, ecl⟩ := h.gone hh
    obtain ⟨A, R, _, ha⟩ := admit_adm ecl hlg
    exact ha.good g0
theorem Good.done (h : Good s) (t : Int) : Good (s.done t).2 := by
  unfold Sd.done
  split
  · rename_i h1
    split
    · exact h
    · refine ⟨h.lk, fun l c hc hx => ?_, fun k hk hs => ?_, h.un, h.fit⟩
      · show (if c.task = t.toNat then 2 else s.T.st c.task) = 1
        have := h.wt l c hc hx
        rw [if_neg (fun e => by rw [e, h1.2] at this; cases this)]; exact this
      · have hs2 : (if k = t.toNat then 2 else s.T.st k) = 1 := hs
        split at hs2
        · cases hs2
        · exact h.ex k hk hs2
  · exact h
theorem Good.act (h : Good s) (x : Ac) : Good (act s x) := by
  unfold sc.act
  split
  · exact h.lock _ _ _
  · split
    · exact h.unlock _ _
    · split
      · exact h.done _
      · exact h
theorem Good.tells (h : Good s) (l : Int) : ∃ H W, s.cl l = H ++ W ∧ LG H W ∧ bar H W ∧ s.heldL l = H ∧ s.queue l = W.map (·.task) := by
  obtain ⟨H, W, e1, e2, e3⟩ := h.lk l
  refine ⟨H, W, e1, e2, e3, ?_, ?_⟩
  · unfold Sd.heldL
    rw [e1, List.filter_append, List.filter_eq_self.2 (fun c hc => e2.held c hc), List.filter_eq_nil_iff.2 (fun c hc => by simp [e2.wait c hc]), List.append_nil]
  · unfold Sd.queue
    have a1 : H.filter (fun c => !c.held) = [] := List.filter_eq_nil_iff.2 (fun c hc => by simp [e2.held c hc])
    have a2 : W.filter (fun c => !c.held) = W := List.filter_eq_self.2 (fun c hc => by simp [e2.wait c hc])
    rw [e1, List.filter_append, a1, a2, List.nil_append]
end

end Go.Proofs.Ytlplbpilpkmoaaa.sc
