/- Who is busy flies or is owed: what every table keeps; who & 15. -/
import Derived.Test.YtldleojipogcmaaNq
import Derived.Laws.BitsAllLaws
namespace Go.Proofs.Ytldleojipogcmaa.fl
open Go.RowKit
set_option linter.unusedVariables false
set_option linter.unusedSimpArgs false

/-- Who flies has a place in a flight; whoever has joined, or is owed, is one of R. -/
structure Good (R : Int → Prop) (s : Fs) : Prop where
  ab : ∀ a, s.ab a = true → ∃ k l xs, s.fl k = some (l, xs) ∧ (a = l ∨ a ∈ xs)
  fl : ∀ k l xs, s.fl k = some (l, xs) → ∀ x ∈ xs, R x
  res : ∀ a, (s.res a).isSome = true → R a
theorem Good.new (R : Int → Prop) : Good R Fs.new := ⟨fun a h => (nomatch h), fun k l xs h => (nomatch h), fun a h => (nomatch h)⟩
section
variable {R : Int → Prop} {s : Fs}
theorem Good.join (h : Good R s) (k : Int) {who : Int} (hw : R who) : Good R (s.join k who).2.2 := by
  unfold Fs.join
  split
  · exact h
  · refine ⟨fun a ha => ?_, fun y l xs e => ?_, h.res⟩
    · change upf s.ab who true a = true at ha
      show ∃ y l xs, upf s.fl k _ y = _ ∧ _
      by_cases e : a = who
      · refine ⟨k, (more (s.fl k) who).1, (more (s.fl k) who).2, upf_self _ _ _, ?_⟩
        subst e
        cases s.fl k with
        | none => exact .inl rfl
        | some p => exact .inr (by simp [more])
      · rw [upf_ne e] at ha
        obtain ⟨y, l, xs, h1, h2⟩ := h.ab a ha
        by_cases e2 : y = k
        · subst e2
          refine ⟨y, l, xs ++ [who], by rw [upf_self, h1]; rfl, ?_⟩
          rcases h2 with h2 | h2
          · exact .inl h2
          · exact .inr (by simp [h2])
        · exact ⟨y, l, xs, by rw [upf_ne e2]; exact h1, h2⟩
    · change upf s.fl k _ y = _ at e
      by_cases e2 : y = k
      · subst e2
        rw [upf_self] at e
        injection e with e
        cases hf : s.fl y with
        | none =>
          rw [hf] at e
          unfold more at e
          injection e with e1 e3
          subst e3
          intro x hx; cases hx
        | some p =>
          obtain ⟨l0, xs0⟩ := p
          rw [hf] at e
          unfold more at e
          injection e with e1 e3
          subst e3
          intro x hx
          rcases List.mem_append.1 hx with h3 | h3
          · exact h.fl y l0 xs0 hf x h3
          · rw [List.mem_singleton.1 h3]; exact hw
      · rw [upf_ne e2] at e
        exact h.fl y l xs e
theorem Good.land (h : Good R s) (k who e : Int) : Good R (s.land k who e).2.2 := by
  unfold Fs.land
  cases hf : s.fl k with
  | none => exact h
  | some p =>
    obtain ⟨l, xs⟩ := p
    dsimp only
    split
    · refine ⟨fun a ha => ?_, fun y l2 xs2 e2 => ?_, fun a ha => ?_⟩
      · change (s.ab a && !decide (a = l) && !decide (a ∈ xs)) = true at ha
        simp only [Bool.and_eq_true, Bool.not_eq_true', decide_eq_false_iff_not] at ha
        obtain ⟨y, l2, xs2, h1, h2⟩ := h.ab a ha.1.1
        refine ⟨y, l2, xs2, ?_, h2⟩
        show upf s.fl k none y = _
        have : y ≠ k := by
          rintro rfl
          rw [hf] at h1
          injection h1 with h1
          injection h1 with h3 h4
          subst h3; subst h4
          rcases h2 with h2 | h2
          · exact ha.1.2 h2
          · exact ha.2 h2
        rw [upf_ne this]; exact h1
      · change upf s.fl k none y = _ at e2
        by_cases e3 : y = k
        · subst e3; rw [upf_self] at e2; cases e2
        · rw [upf_ne e3] at e2; exact h.fl y l2 xs2 e2
      · change (if a ∈ xs then some e else s.res a).isSome = true at ha
        by_cases hm : a ∈ xs
        · exact h.fl k l xs hf a hm
        · rw [if_neg hm] at ha; exact h.res a ha
    · exact h
theorem Good.result (h : Good R s) (who : Int) : Good R (s.result who).2.2 := by
  refine ⟨h.ab, h.fl, fun a ha => ?_⟩
  change (upf s.res who none a).isSome = true at ha
  by_cases e : a = who
  · subst e; rw [upf_self] at ha; cases ha
  · rw [upf_ne e] at ha; exact h.res a ha
theorem Good.act (h : Good R s) {x : Ac} (hw : R x.who) : Good R (act s x) := by
  unfold fl.act
  split
  · exact h.join _ hw
  · split
    · exact h.land _ _ _
    · split
      · exact h.result _
      · exact h
theorem Good.none (h : Good R s) (hf : ∀ k, s.fl k = none) (a : Int) : s.ab a = false := by
  cases e : s.ab a with
  | false => rfl
  | true =>
    obtain ⟨k, l, xs, h1, _⟩ := h.ab a e
    rw [hf k] at h1; cases h1
end
theorem i64_and15 (n : Int) : bits .and .i64 n 15 = n % 16 := by
  have h127 : (BitVec.ofInt 64 15).toNat = 2 ^ 4 - 1 := by decide
  have key : (BitVec.ofInt 64 n &&& BitVec.ofInt 64 15).toNat = (n % ((2 ^ 64 : Nat) : Int)).toNat % 2 ^ 4 := by
    rw [BitVec.toNat_and, BitVec.toNat_ofInt, h127, Nat.and_two_pow_sub_one_eq_mod]
  show IntKind.i64.wrap ((BitVec.ofInt 64 n &&& BitVec.ofInt 64 15).toNat : Nat) = n % 16
  rw [key, IntKind.wrap_i64]
  omega
theorem which16 (n : Int) : ∃ k : Nat, k < 16 ∧ bits .and .i64 n 15 = (k : Int) := ⟨(n % 16).toNat, by omega, by rw [i64_and15]; omega⟩
/-- A join's answer and who is busy behind it. -/
theorem join_busy2 (s : Fs) (k who : Int) : (s.join k who).2.1 = (if s.busy who then 16 else 0) ∧ (s.join k who).2.2.busy who = true := by
  unfold Fs.join
  by_cases h : s.busy who = true
  · rw [if_pos h, if_pos h]; exact ⟨rfl, h⟩
  · rw [if_neg h, if_neg h]
    refine ⟨rfl, ?_⟩
    unfold Fs.busy Fs.come
    dsimp only
    rw [upf_self]; rfl
/-- The flights that are left. -/
theorem land_lead {s : Fs} {k : Int} (h : (s.fl k).isSome = true) (e : Int) : (s.land k (s.lead k).1 e).2.1 = 0 ∧ ∀ y, ((s.land k (s.lead k).1 e).2.2.fl y).isSome = true ↔ (s.fl y).isSome = true ∧ y ≠ k := by
  cases hf : s.fl k with
  | none => rw [hf] at h; cases h
  | some p =>
    obtain ⟨l, xs⟩ := p
    have hl : (s.lead k).1 = l := by unfold Fs.lead; rw [hf]; rfl
    rw [hl]
    unfold Fs.land
    rw [hf]
    dsimp only
    rw [if_pos rfl]
    refine ⟨rfl, fun y => ?_⟩
    show (upf s.fl k none y).isSome = true ↔ _
    by_cases e2 : y = k
    · subst e2; rw [upf_self]; simp
    · rw [upf_ne e2]; simp [e2]
theorem TY.keys_len {w0 w : World} {P : Nat} {X : Nat → Prop} {s : Fs} {ks : List Int} (h : TY w0 w P X s) (hn : ks.Nodup) (hm : ∀ k, k ∈ ks ↔ (s.fl k).isSome = true) : ks.length ≤ s.N := by
  obtain ⟨A, B, C, tg, f, h, hx⟩ := h
  obtain ⟨n, S, hnN, D, hown, him, hhas, hat, hS⟩ := h.mA
  obtain ⟨h1, h2⟩ := intKeys_spec hown
  have hp : ks.Perm (intKeys D) := (List.perm_ext_iff_of_nodup hn h1).2 fun k => by rw [hm, h2, hhas, (h.row k).some_eq]
  rw [hp.length_eq]
  have hsz := hown.size_le
  obtain ⟨es, hD, _, _⟩ := hown.entries (Go.Maps.int_keyed k3)
  subst hD
  have : (intKeys (DataW.map es)).length = Maps.size (DataW.map es) := by rw [Maps.size_eq]; show (es.map _).length = _; simp
  omega
theorem lead_wf {w0 w : World} {P : Nat} {X : Nat → Prop} {s : Fs} (h : TY w0 w P X s) (k : Int) : Wf (s.lead k).1 := by
  unfold Fs.lead
  cases hf : s.fl k with
  | none => exact wfs (by decide) (by decide)
  | some p => exact (h.wf (l := p.1) (xs := p.2) hf).2.1
end Go.Proofs.Ytldleojipogcmaa.fl
