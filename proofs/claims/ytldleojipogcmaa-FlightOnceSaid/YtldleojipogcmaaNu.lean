/- Who has joined what: the mathematics of FlightOnce. -/
import Derived.Test.YtldleojipogcmaaNt
import Derived.Test.YtldleojipogcmaaNr
namespace Go.Proofs.Ytldleojipogcmaa.fl
open Go.RowKit
set_option linter.unusedVariables false
set_option linter.unusedSimpArgs false

/-- jn tells which flight each has joined. -/
structure Jn (s : Fs) (jn : Int → Option Int) : Prop where
  mem : ∀ a k, jn a = some k ↔ ∃ l xs, s.fl k = some (l, xs) ∧ a ∈ xs
  one : ∀ k l xs, s.fl k = some (l, xs) → xs.Nodup ∧ s.ab l = true ∧ jn l = none
  ab : ∀ a k, jn a = some k → s.ab a = true
  ld : ∀ k k' l xs xs', s.fl k = some (l, xs) → s.fl k' = some (l, xs') → k = k'
theorem Jn.new : Jn Fs.new fun _ => none := ⟨fun a k => ⟨fun h => (nomatch h), fun ⟨l, xs, h, _⟩ => (nomatch h)⟩, fun k l xs h => (nomatch h), fun a k h => (nomatch h), fun k k' l xs xs' h => (nomatch h)⟩
section
variable {s : Fs} {jn : Int → Option Int}
theorem Jn.result (h : Jn s jn) (who : Int) : Jn (s.result who).2.2 jn := ⟨h.mem, h.one, h.ab, h.ld⟩
theorem not_busy {who : Int} (hb : s.busy who = false) : s.ab who = false := by
  unfold Fs.busy at hb
  simp only [Bool.or_eq_false_iff] at hb
  exact hb.1
/-- Who comes leads. -/
theorem Jn.lead (h : Jn s jn) {k who : Int} (hb : s.busy who = false) (hf : s.fl k = none) : Jn (s.come k who) jn := by
  have hab := not_busy hb
  have hno : jn who = none := by
    cases e : jn who with
    | none => rfl
    | some y => rw [h.ab who y e] at hab; cases hab
  have hfl : (s.come k who).fl = upf s.fl k (some (who, [])) := by unfold Fs.come; rw [hf]; rfl
  have hnk : ∀ a, jn a ≠ some k := fun a e => by
    obtain ⟨l, xs, h1, _⟩ := (h.mem a k).1 e
    rw [hf] at h1; cases h1
  refine ⟨fun a y => ?_, fun y l xs e => ?_, fun a y e => ?_, fun y y' l xs xs' e e' => ?_⟩
  · rw [hfl]
    by_cases ey : y = k
    · subst ey
      rw [upf_self]
      exact ⟨fun e => absurd e (hnk a), fun ⟨l, xs, h1, h2⟩ => by injection h1 with h1; injection h1 with h3 h4; subst h4; cases h2⟩
    · rw [upf_ne ey]; exact h.mem a y
  · rw [hfl] at e
    show xs.Nodup ∧ upf s.ab who true l = true ∧ _
    by_cases ey : y = k
    · subst ey
      rw [upf_self] at e
      injection e with e
      injection e with e1 e2
      subst e1; subst e2
      exact ⟨.nil, upf_self _ _ _, hno⟩
    · rw [upf_ne ey] at e
      obtain ⟨h1, h2, h3⟩ := h.one y l xs e
      refine ⟨h1, ?_, h3⟩
      by_cases el : l = who
      · rw [el, upf_self]
      · rw [upf_ne el]; exact h2
  · show upf s.ab who true a = true
    by_cases el : a = who
    · rw [el, upf_self]
    · rw [upf_ne el]; exact h.ab a y e
  · rw [hfl] at e e'
    have key : ∀ z xs, z ≠ k → upf s.fl k (some (who, [])) z = some (who, xs) → False := fun z xs hz e2 => by
      rw [upf_ne hz] at e2
      rw [(h.one z who xs e2).2.1] at hab; cases hab
    by_cases ey : y = k
    · subst ey
      rw [upf_self] at e
      injection e with e
      injection e with e1 e2
      subst e1
      exact Classical.byContradiction fun hne => key y' xs' (fun e3 => hne e3.symm) e'
    · by_cases ey' : y' = k
      · subst ey'
        rw [upf_self] at e'
        injection e' with e'
        injection e' with e1 e2
        subst e1
        exact (key y xs ey e).elim
      · rw [upf_ne ey] at e
        rw [upf_ne ey'] at e'
        exact h.ld y y' l xs xs' e e'
/-- .. joins. -/
theorem Jn.join (h : Jn s jn) {k who l : Int} {xs : List Int} (hb : s.busy who = false) (hf : s.fl k = some (l, xs)) : Jn (s.come k who) (upf jn who (some k)) := by
  have hab := not_busy hb
  have hno : jn who = none := by
    cases e : jn who with
    | none => rfl
    | some y => rw [h.ab who y e] at hab; cases hab
  have hfl : (s.come k who).fl = upf s.fl k (some (l, xs ++ [who])) := by unfold Fs.come; rw [hf]; rfl
  have hnx : ∀ y l xs, s.fl y = some (l, xs) → who ∉ xs := fun y l xs e hm => by
    rw [(h.mem who y).2 ⟨l, xs, e, hm⟩] at hno; cases hno
  have hnl : ∀ y l xs, s.fl y = some (l, xs) → l ≠ who := fun y l xs e el => by
    rw [el] at e
    rw [(h.one y who xs e).2.1] at hab; cases hab
  refine ⟨fun a y => ?_, fun y l2 xs2 e => ?_, fun a y e => ?_, fun y y' l2 xs2 xs2' e e' => ?_⟩
  · rw [hfl]
    by_cases ey : y = k
    · subst ey
      rw [upf_self]
      by_cases ea : a = who
      · subst ea
        rw [upf_self]
        exact ⟨fun _ => ⟨l, _, rfl, by simp⟩, fun _ => rfl⟩
      · rw [upf_ne ea, h.mem a y, hf]
        constructor
        · rintro ⟨l2, xs2, e, hm⟩
          injection e with e
          injection e with e1 e2
          subst e1; subst e2
          exact ⟨l, _, rfl, by simp [hm]⟩
        · rintro ⟨l2, xs2, e, hm⟩
          injection e with e
          injection e with e1 e2
          subst e1; subst e2
          exact ⟨l, xs, rfl, by simpa [ea] using hm⟩
    · rw [upf_ne ey]
      by_cases ea : a = who
      · subst ea
        rw [upf_self]
        exact ⟨fun e => absurd (Option.some.inj e).symm ey, fun ⟨l2, xs2, e, hm⟩ => absurd hm (hnx y l2 xs2 e)⟩
      · rw [upf_ne ea]; exact h.mem a y
  · rw [hfl] at e
    show xs2.Nodup ∧ upf s.ab who true l2 = true ∧ upf jn who (some k) l2 = none
    by_cases ey : y = k
    · subst ey
      rw [upf_self] at e
      injection e with e
      injection e with e1 e2
      subst e1; subst e2
      obtain ⟨h1, h2, h3⟩ := h.one y l xs hf
      have hl := hnl y l xs hf
      refine ⟨List.nodup_append.2 ⟨h1, by simp, fun a ha b hb2 e => ?_⟩, by rw [upf_ne hl]; exact h2, by rw [upf_ne hl]; exact h3⟩
      rw [List.mem_singleton.1 hb2] at e
      exact hnx y l xs hf (e ▸ ha)
    · rw [upf_ne ey] at e
      obtain ⟨h1, h2, h3⟩ := h.one y l2 xs2 e
      have hl := hnl y l2 xs2 e
      exact ⟨h1, by rw [upf_ne hl]; exact h2, by rw [upf_ne hl]; exact h3⟩
  · show upf s.ab who true a = true
    by_cases el : a = who
    · rw [el, upf_self]
    · rw [upf_ne el]
      rw [upf_ne el] at e
      exact h.ab a y e
  · rw [hfl] at e e'
    have key : ∀ z xs, upf s.fl k (some (l, xs2)) z = some (l2, xs) → True := fun _ _ _ => trivial
    by_cases ey : y = k
    · subst ey
      rw [upf_self] at e
      injection e with e
      injection e with e1 e2
      subst e1
      by_cases ey' : y' = y
      · exact ey'.symm
      · rw [upf_ne ey'] at e'
        exact h.ld y y' l xs xs2' hf e'
    · rw [upf_ne ey] at e
      by_cases ey' : y' = k
      · subst ey'
        rw [upf_self] at e'
        injection e' with e'
        injection e' with e1 e2
        subst e1
        exact h.ld y y' l xs2 xs e hf
      · rw [upf_ne ey'] at e'
        exact h.ld y y' l2 xs2 xs2' e e'
/-- A flight lands. -/
theorem Jn.land (h : Jn s jn) {k l : Int} {xs : List Int} (hf : s.fl k = some (l, xs)) (e : Int) (K : Nat) : Jn (s.told k l xs e K) (fun a => if a ∈ xs then none else jn a) := by
  have hjx : ∀ a, a ∈ xs → jn a = some k := fun a ha => (h.mem a k).2 ⟨l, xs, hf, ha⟩
  have hfl : (s.told k l xs e K).fl = upf s.fl k none := rfl
  refine ⟨fun a y => ?_, fun y l2 xs2 e2 => ?_, fun a y e2 => ?_, fun y y' l2 xs2 xs2' e2 e3 => ?_⟩
  · rw [hfl]
    by_cases ey : y = k
    · subst ey
      rw [upf_self]
      refine ⟨fun e2 => ?_, fun ⟨l2, xs2, e2, _⟩ => (nomatch e2)⟩
      by_cases ha : a ∈ xs
      · rw [if_pos ha] at e2; cases e2
      · rw [if_neg ha] at e2
        obtain ⟨l2, xs2, h1, h2⟩ := (h.mem a y).1 e2
        rw [hf] at h1
        injection h1 with h1
        injection h1 with h3 h4
        subst h4
        exact absurd h2 ha
    · rw [upf_ne ey]
      by_cases ha : a ∈ xs
      · rw [if_pos ha]
        refine ⟨fun e2 => (nomatch e2), fun ⟨l2, xs2, e2, hm⟩ => ?_⟩
        have h1 := (h.mem a y).2 ⟨l2, xs2, e2, hm⟩
        rw [hjx a ha] at h1
        exact absurd (Option.some.inj h1).symm ey
      · rw [if_neg ha]; exact h.mem a y
  · rw [hfl] at e2
    by_cases ey : y = k
    · subst ey; rw [upf_self] at e2; cases e2
    · rw [upf_ne ey] at e2
      obtain ⟨h1, h2, h3⟩ := h.one y l2 xs2 e2
      have hl : l2 ≠ l := fun e4 => by rw [e4] at e2; exact ey (h.ld y k l xs2 xs e2 hf)
      have hx : l2 ∉ xs := fun hm => by rw [hjx l2 hm] at h3; cases h3
      refine ⟨h1, ?_, by rw [if_neg hx]; exact h3⟩
      show (s.ab l2 && !decide (l2 = l) && !decide (l2 ∈ xs)) = true
      simp [h2, hl, hx]
  · by_cases ha : a ∈ xs
    · rw [if_pos ha] at e2; cases e2
    · rw [if_neg ha] at e2
      have hl : a ≠ l := fun e4 => by rw [e4, (h.one k l xs hf).2.2] at e2; cases e2
      show (s.ab a && !decide (a = l) && !decide (a ∈ xs)) = true
      simp [h.ab a y e2, hl, ha]
  · rw [hfl] at e2 e3
    by_cases ey : y = k
    · subst ey; rw [upf_self] at e2; cases e2
    · by_cases ey' : y' = k
      · subst ey'; rw [upf_self] at e3; cases e3
      · rw [upf_ne ey] at e2
        rw [upf_ne ey'] at e3
        exact h.ld y y' l2 xs2 xs2' e2 e3
end
end Go.Proofs.Ytldleojipogcmaa.fl
