/- Tasks that take what they want in one order for all, and give it back in that order: the mathematics. -/
import Derived.Test.YtlplbpilpkmoaaaRn
namespace Go.Proofs.Ytlplbpilpkmoaaa.sc
open Go.RowKit Go.Shelf
set_option linter.unusedVariables false
set_option linter.unusedSimpArgs false

def upb (f : Nat → Bool) (t : Nat) (v : Bool) : Nat → Bool := fun x => if x = t then v else f x
theorem upb_self (f : Nat → Bool) (t : Nat) (v : Bool) : upb f t v t = v := by simp [upb]
theorem upb_ne {f : Nat → Bool} {t x : Nat} {v : Bool} (h : x ≠ t) : upb f t v x = f x := by simp [upb, h]
/-- Rows of locks, each rising by a rank that is one for all. -/
structure Rk (n : Nat) (M : Nat → Nat) (L : Nat → Nat → Int) (rk : Int → Nat) : Prop where
  m8 : ∀ t, t < n → M t ≤ 8
  inc : ∀ t, t < n → ∀ j k, j < k → k < M t → rk (L t j) < rk (L t k)
  top : ∀ t, t < n → ∀ k, k < M t → rk (L t k) < 1000
theorem Rk.inj {n : Nat} {M : Nat → Nat} {L : Nat → Nat → Int} {rk : Int → Nat} (h : Rk n M L rk) {t j k : Nat} (ht : t < n) (hj : j < M t) (hk : k < M t) (e : L t j = L t k) : j = k := by
  rcases Nat.lt_trichotomy j k with h1 | h1 | h1
  · have := h.inc t ht j k h1 hk; rw [e] at this; omega
  · exact h1
  · have := h.inc t ht k j h1 hj; rw [e] at this; omega
/-- What a task holds by then: the k-th of its row. -/
def HP (m a : Nat) (wn : Bool) (st k : Nat) : Prop := k < m ∧ ((a < m ∧ (k < a ∨ (k = a ∧ wn = true ∧ st = 0))) ∨ (m ≤ a ∧ a ≤ k + m))
def cntP (M : Nat → Nat) (L : Nat → Nat → Int) (s : Sd) (t : Nat) : Nat := ((List.range (M t)).filter fun k : Nat => s.has t (L t k)).length
structure PvC (M : Nat → Nat) (L : Nat → Nat → Int) (n : Nat) (s : Sd) (ax : Nat → Nat) (wx : Nat → Bool) : Prop where
  num : s.n = n
  le : ∀ t, t < n → ax t ≤ 2 * M t
  st3 : ∀ t, t < n → s.T.st t ≤ 2
  wt : ∀ t, t < n → ∀ l, Wait s t l → wx t = true ∧ ax t < M t ∧ l = L t (ax t)
  wn : ∀ t, t < n → wx t = true → ax t < M t ∧ (Wait s t (L t (ax t)) ∨ Hold s t (L t (ax t)))
  hd : ∀ t, t < n → ∀ l, Hold s t l ↔ ∃ k : Nat, l = L t k ∧ HP (M t) (ax t) (wx t) (s.T.st t) k
  dn : ∀ t, t < n → s.T.st t = 2 → ax t = 2 * M t
  lk : ∀ t, t < n → s.T.lk t = (cntP M L s t : Int)
structure Pv (M : Nat → Nat) (L : Nat → Nat → Int) (n : Nat) (s : Sd) (ax : Nat → Nat) (wx : Nat → Bool) : Prop where
  good : Good s
  c : PvC M L n s ax wx
section
variable {M : Nat → Nat} {L : Nat → Nat → Int} {rk : Int → Nat} {n : Nat} {s s' : Sd} {ax : Nat → Nat} {wx : Nat → Bool}
theorem cntP_le (s : Sd) (t : Nat) : cntP M L s t ≤ M t := by
  have := List.length_filter_le (fun k : Nat => s.has t (L t k)) (List.range (M t))
  simpa [cntP] using this
theorem cntP_same {t : Nat} (h : ∀ k : Nat, k < M t → (Hold s' t (L t k) ↔ Hold s t (L t k))) : cntP M L s' t = cntP M L s t := by
  unfold cntP
  congr 1
  refine List.filter_congr fun k hk => ?_
  have := h k (List.mem_range.1 hk)
  rw [Bool.eq_iff_iff, has_hold, has_hold]; exact this
/-- One more lock is held. -/
theorem cntP_more {t a : Nat} (ha : a < M t) (h0 : ¬ Hold s t (L t a)) (h : ∀ k : Nat, k < M t → (Hold s' t (L t k) ↔ Hold s t (L t k) ∨ k = a)) : cntP M L s' t = cntP M L s t + 1 := by
  have e : ((List.range (M t)).filter fun k : Nat => s.has t (L t k)) = ((List.range (M t)).filter fun k : Nat => s'.has t (L t k)).filter fun j => !decide (j = a) := by
    rw [List.filter_filter]
    refine List.filter_congr fun k hk => ?_
    have h1 := h k (List.mem_range.1 hk)
    rw [Bool.eq_iff_iff, Bool.and_eq_true, has_hold, has_hold, h1]
    simp only [Bool.not_eq_true', decide_eq_false_iff_not]
    constructor
    · intro h2; exact ⟨fun e => h0 (e ▸ h2), .inl h2⟩
    · rintro ⟨h2, h3⟩; exact h3.resolve_right h2
  have h2 := off_len (L := (List.range (M t)).filter fun k : Nat => s'.has t (L t k)) (k := a) (List.nodup_range.filter _) (List.mem_filter.2 ⟨List.mem_range.2 ha, has_hold.2 ((h a ha).2 (.inr rfl))⟩)
  have h3 : 0 < ((List.range (M t)).filter fun k : Nat => s'.has t (L t k)).length := List.length_pos_of_mem (List.mem_filter.2 ⟨List.mem_range.2 ha, has_hold.2 ((h a ha).2 (.inr rfl))⟩)
  unfold cntP
  rw [e, h2]
  omega
theorem pv_new (M : Nat → Nat) (L : Nat → Nat → Int) (n : Nat) : Pv M L n (Sd.new n) (fun _ => 0) (fun _ => false) := by
  have hno : ∀ t l, ¬ Hold (Sd.new n) t l := fun t l ⟨c, h, _⟩ => by simp [Sd.new] at h
  refine ⟨good_new n, ⟨rfl, fun t _ => by omega, fun t _ => by simp [Sd.new, Tk.ini], fun t _ l ⟨c, h, _⟩ => by simp [Sd.new] at h, fun t _ h => (by simp at h), fun t _ l => ⟨fun h => absurd h (hno t l), fun ⟨k, _, h1, h⟩ => ?_⟩, fun t _ h => by simp [Sd.new, Tk.ini] at h, fun t _ => ?_⟩⟩
  · rcases h with ⟨_, h | h⟩ | ⟨h, _⟩
    · omega
    · exact absurd h.2.1 (by simp)
    · omega
  · have : cntP M L (Sd.new n) t = 0 := by
      unfold cntP
      rw [List.filter_eq_nil_iff.2 (fun k _ => fun h => hno t _ (has_hold.1 h))]
      rfl
    rw [this]; rfl
/-- Letting in keeps it. -/
theorem PvC.adm {l : Int} {H A R : List Cl} (h : PvC M L n s ax wx) (hr : Rk n M L rk) (hg : Good0 s l) (ha : Adm s s' l H A R) : Pv M L n s' ax wx := by
  have hnd := ha.lg0.nd
  rw [List.map_append, List.map_append] at hnd
  have hnd2 : (A.map (·.task) ++ R.map (·.task)).Nodup := (List.nodup_append.1 hnd).2.1
  have hAn : (A.map (·.task)).Nodup := (List.nodup_append.1 hnd2).1
  have hAw : ∀ t, t ∈ A.map (·.task) → Wait s t l := fun t ht => by
    obtain ⟨c, h1, h2⟩ := List.mem_map.1 ht
    exact ⟨c, by rw [ha.old]; simp [h1], h2, ha.lg0.wait c (by simp [h1])⟩
  have hst : ∀ t, s'.T.st t = if t ∈ A.map (·.task) then 0 else s.T.st t := fun t => by rw [ha.tk, admT_st]
  have hhold : ∀ t x, Hold s' t x ↔ Hold s t x ∨ (x = l ∧ t ∈ A.map (·.task)) := fun t x => by
    constructor
    · rintro ⟨c, h1, h2, h3⟩
      by_cases e : x = l
      · subst e
        rw [ha.new] at h1
        rcases List.mem_append.1 h1 with h4 | h4
        · rcases List.mem_append.1 h4 with h5 | h5
          · exact .inl ⟨c, by rw [ha.old]; simp [h5], h2, h3⟩
          · obtain ⟨d, h6, rfl⟩ := List.mem_map.1 h5
            exact .inr ⟨rfl, List.mem_map.2 ⟨d, h6, h2⟩⟩
        · rw [ha.lg.wait c h4] at h3; cases h3
      · rw [ha.oth x e] at h1; exact .inl ⟨c, h1, h2, h3⟩
    · rintro (⟨c, h1, h2, h3⟩ | ⟨rfl, h1⟩)
      · by_cases e : x = l
        · subst e
          rw [ha.old] at h1
          rcases List.mem_append.1 h1 with h4 | h4
          · exact ⟨c, by rw [ha.new]; simp [h4], h2, h3⟩
          · rw [ha.lg0.wait c h4] at h3; cases h3
        · exact ⟨c, by rw [ha.oth x e]; exact h1, h2, h3⟩
      · obtain ⟨d, h6, h7⟩ := List.mem_map.1 h1
        exact ⟨d.hold, by rw [ha.new]; exact List.mem_append.2 (.inl (List.mem_append.2 (.inr (List.mem_map.2 ⟨d, h6, rfl⟩)))), h7, rfl⟩
  have hwait : ∀ t x, Wait s' t x ↔ Wait s t x ∧ ¬ (x = l ∧ t ∈ A.map (·.task)) := fun t x => by
    constructor
    · rintro ⟨c, h1, h2, h3⟩
      obtain ⟨h4, h5⟩ := ha.sub h1 h3
      exact ⟨⟨c, h4, h2, h3⟩, fun ⟨e, h6⟩ => nd_apart hnd2 h6 (List.mem_map.2 ⟨c, h5 e, h2⟩)⟩
    · rintro ⟨⟨c, h1, h2, h3⟩, h4⟩
      by_cases e : x = l
      · subst e
        rw [ha.old] at h1
        rcases List.mem_append.1 h1 with h5 | h5
        · rw [ha.lg0.held c h5] at h3; cases h3
        · rcases List.mem_append.1 h5 with h6 | h6
          · exact absurd ⟨rfl, List.mem_map.2 ⟨c, h6, h2⟩⟩ h4
          · exact ⟨c, by rw [ha.new]; simp [h6], h2, h3⟩
      · exact ⟨c, by rw [ha.oth x e]; exact h1, h2, h3⟩
  refine ⟨ha.good hg, ⟨ha.n.trans h.num, h.le, fun t ht => ?_, fun t ht x hw => h.wt t ht x ((hwait t x).1 hw).1, fun t ht hne => ?_, fun t ht x => ?_, fun t ht h2 => ?_, fun t ht => ?_⟩⟩
  · rw [hst]; split
    · omega
    · exact h.st3 t ht
  · obtain ⟨a2, a4⟩ := h.wn t ht hne
    refine ⟨a2, ?_⟩
    rcases a4 with a4 | a4
    · by_cases e : L t (ax t) = l ∧ t ∈ A.map (·.task)
      · exact .inr ((hhold t _).2 (.inr e))
      · exact .inl ((hwait t _).2 ⟨a4, e⟩)
    · exact .inr ((hhold t _).2 (.inl a4))
  · rw [hhold, h.hd t ht x]
    by_cases hA : t ∈ A.map (·.task)
    · obtain ⟨w1, w2, w3⟩ := h.wt t ht l (hAw t hA)
      have hs1 := wait_st hg.wt (hAw t hA)
      rw [hst, if_pos hA, hs1]
      constructor
      · rintro (⟨k, e, k1, k3⟩ | ⟨e, _⟩)
        · refine ⟨k, e, k1, ?_⟩
          rcases k3 with ⟨b1, b2 | b2⟩ | b2
          · exact .inl ⟨b1, .inl b2⟩
          · exact absurd b2.2.2 (by omega)
          · exact .inr b2
        · exact ⟨ax t, e.trans w3, w2, .inl ⟨w2, .inr ⟨rfl, w1, rfl⟩⟩⟩
      · rintro ⟨k, e, k1, k3⟩
        rcases k3 with ⟨b1, b2 | b2⟩ | b2
        · exact .inl ⟨k, e, k1, .inl ⟨b1, .inl b2⟩⟩
        · exact .inr ⟨by rw [e, w3, b2.1], hA⟩
        · exact .inl ⟨k, e, k1, .inr b2⟩
    · rw [hst, if_neg hA]
      constructor
      · rintro (h1 | ⟨_, h1⟩)
        · exact h1
        · exact absurd h1 hA
      · exact fun h1 => .inl h1
  · rw [hst] at h2
    split at h2
    · cases h2
    · exact h.dn t ht h2
  · rw [ha.tk]
    by_cases hA : t ∈ A.map (·.task)
    · obtain ⟨w1, w2, w3⟩ := h.wt t ht l (hAw t hA)
      have hs1 := wait_st hg.wt (hAw t hA)
      have hn0 : ¬ Hold s t (L t (ax t)) := fun hh => by
        obtain ⟨k, e, k1, k3⟩ := (h.hd t ht _).1 hh
        have e2 := hr.inj ht w2 k1 e
        rcases k3 with ⟨b1, b2 | b2⟩ | b2
        · omega
        · exact absurd b2.2.2 (by omega)
        · omega
      rw [admT_in _ _ _ hAn hA, h.lk t ht, cntP_more (M := M) (L := L) (s := s) (s' := s') w2 hn0 (fun k hk => by
        rw [hhold]
        constructor
        · rintro (h1 | ⟨h1, _⟩)
          · exact .inl h1
          · exact .inr (hr.inj ht hk w2 (h1.trans w3))
        · rintro (h1 | h1)
          · exact .inl h1
          · exact .inr ⟨by rw [h1, w3], hA⟩)]
      have := cntP_le (M := M) (L := L) s t
      have := hr.m8 t ht
      rw [wrap_small (by omega) (by omega)]
      omega
    · rw [admT_out _ _ _ hA, h.lk t ht, cntP_same (M := M) (L := L) (s := s) (s' := s') (fun k hk => by
        rw [hhold]
        exact ⟨fun h1 => h1.elim id (fun h2 => absurd h2.2 hA), fun h1 => .inl h1⟩)]
/-- It was let in: it looks at the next one. -/
theorem Pv.next (h : Pv M L n s ax wx) {t : Nat} (ht : t < n) (hw : wx t = true) (hst : s.T.st t = 0) : Pv M L n s (upn ax t (ax t + 1)) (upb wx t false) := by
  obtain ⟨a2, a4⟩ := h.c.wn t ht hw
  have hnw : ∀ l, ¬ Wait s t l := fun l hh => by have := wait_st h.good.wt hh; omega
  refine ⟨h.good, ⟨h.c.num, fun x hx => ?_, h.c.st3, fun x hx l hl => ?_, fun x hx hne => ?_, fun x hx l => ?_, fun x hx h2 => ?_, h.c.lk⟩⟩
  · by_cases e : x = t
    · subst e; rw [upn_self]; omega
    · rw [upn_ne e]; exact h.c.le x hx
  · by_cases e : x = t
    · subst e; exact absurd hl (hnw l)
    · rw [upn_ne e, upb_ne e]; exact h.c.wt x hx l hl
  · by_cases e : x = t
    · subst e; rw [upb_self] at hne; cases hne
    · rw [upb_ne e] at hne; rw [upn_ne e]; exact h.c.wn x hx hne
  · by_cases e : x = t
    · subst e
      rw [h.c.hd x hx l, upn_self, upb_self, hst, hw]
      constructor
      · rintro ⟨k, e1, k1, k3⟩
        refine ⟨k, e1, k1, ?_⟩
        rcases k3 with ⟨b1, b2⟩ | b2
        · by_cases h8 : ax x + 1 < M x
          · exact .inl ⟨h8, .inl (by omega)⟩
          · exact .inr (by omega)
        · omega
      · rintro ⟨k, e1, k1, k3⟩
        refine ⟨k, e1, k1, .inl ⟨a2, ?_⟩⟩
        rcases k3 with ⟨b1, b2 | b2⟩ | b2
        · by_cases h9 : k = ax x
          · exact .inr ⟨h9, rfl, rfl⟩
          · exact .inl (by omega)
        · cases b2.2.1
        · by_cases h9 : k = ax x
          · exact .inr ⟨h9, rfl, rfl⟩
          · exact .inl (by omega)
    · rw [h.c.hd x hx l, upn_ne e, upb_ne e]
  · by_cases e : x = t
    · subst e; omega
    · rw [upn_ne e]; exact h.c.dn x hx h2
/-- It takes a lock, or waits for it. -/
theorem Pv.lock (h : Pv M L n s ax wx) (hr : Rk n M L rk) {t : Nat} (ht : t < n) (hw : wx t = false) (hst : s.T.st t = 0) (h8 : ax t < M t) (b : Bool) :
    (s.lock (t : Int) (L t (ax t)) b).2.1 = 0 ∧ ((s.lock (t : Int) (L t (ax t)) b).1 = true → Pv M L n (s.lock (t : Int) (L t (ax t)) b).2.2 (upn ax t (ax t + 1)) wx) ∧ ((s.lock (t : Int) (L t (ax t)) b).1 = false → Pv M L n (s.lock (t : Int) (L t (ax t)) b).2.2 ax (upb wx t true)) := by
  have hnh : ¬ Hold s t (L t (ax t)) := fun hh => by
    obtain ⟨k, e, k1, k3⟩ := (h.c.hd t ht _).1 hh
    have e2 := hr.inj ht h8 k1 e
    rcases k3 with ⟨b1, b2 | b2⟩ | b2
    · omega
    · rw [hw] at b2; exact absurd b2.2.1 (by simp)
    · omega
  have hh0 : s.has t (L t (ax t)) = false := by
    cases e : s.has t (L t (ax t)) with
    | false => rfl
    | true => exact absurd (has_hold.1 e) hnh
  have hk : t < s.n := by rw [h.c.num]; exact ht
  have e : s.lock (t : Int) (L t (ax t)) b = (decide (((s.come t (L t (ax t)) b).admit (L t (ax t))).T.st t = 0), 0, (s.come t (L t (ax t)) b).admit (L t (ax t))) := by
    unfold Sd.lock
    rw [if_pos ⟨ok_of hk, by simpa using hst⟩, if_neg (by simpa using hh0)]
    rfl
  obtain ⟨g0, H, W, e1, e2, e3, hlg, ecl⟩ := h.good.come (w := b) hk hst hh0
  obtain ⟨A, R, _, ha⟩ := admit_adm ecl hlg
  have hst2 : ∀ x, (s.come t (L t (ax t)) b).T.st x = if x = t then 1 else s.T.st x := fun x => rfl
  have hmem : ∀ x c, c ∈ (s.come t (L t (ax t)) b).cl x ↔ c ∈ s.cl x ∨ (x = (L t (ax t)) ∧ c = ⟨t, b, false⟩) := fun x c => by
    by_cases ex : x = (L t (ax t))
    · subst ex
      rw [ecl, e1, ← List.append_assoc]
      constructor
      · intro hc
        rcases List.mem_append.1 hc with h1 | h1
        · exact .inl h1
        · exact .inr ⟨rfl, by simpa using h1⟩
      · rintro (h1 | ⟨_, h1⟩)
        · exact List.mem_append.2 (.inl h1)
        · exact List.mem_append.2 (.inr (by rw [h1]; simp))
    · have : (s.come t (L t (ax t)) b).cl x = s.cl x := by unfold Sd.come; dsimp only; rw [upc_ne ex]
      rw [this]; simp [ex]
  have hhold : ∀ x l, Hold (s.come t (L t (ax t)) b) x l ↔ Hold s x l := fun x l => by
    constructor
    · rintro ⟨c, h1, h2, h3⟩
      rcases (hmem l c).1 h1 with h4 | ⟨_, h4⟩
      · exact ⟨c, h4, h2, h3⟩
      · rw [h4] at h3; cases h3
    · rintro ⟨c, h1, h2, h3⟩
      exact ⟨c, (hmem l c).2 (.inl h1), h2, h3⟩
  have hwait : ∀ x l, Wait (s.come t (L t (ax t)) b) x l ↔ Wait s x l ∨ (x = t ∧ l = (L t (ax t))) := fun x l => by
    constructor
    · rintro ⟨c, h1, h2, h3⟩
      rcases (hmem l c).1 h1 with h4 | ⟨h5, h4⟩
      · exact .inl ⟨c, h4, h2, h3⟩
      · rw [h4] at h2; exact .inr ⟨h2.symm, h5⟩
    · rintro (⟨c, h1, h2, h3⟩ | ⟨h1, h2⟩)
      · exact ⟨c, (hmem l c).2 (.inl h1), h2, h3⟩
      · exact ⟨⟨t, b, false⟩, (hmem l _).2 (.inr ⟨h2, rfl⟩), h1.symm, rfl⟩
  have hnw : ∀ l, ¬ Wait s t l := fun l hh => by have := wait_st h.good.wt hh; omega
  have hc : PvC M L n (s.come t (L t (ax t)) b) ax (upb wx t true) := by
    refine ⟨h.c.num, h.c.le, fun x hx => ?_, fun x hx l hl => ?_, fun x hx hne => ?_, fun x hx l => ?_, fun x hx h2 => ?_, fun x hx => ?_⟩
    · rw [hst2]; split
      · omega
      · exact h.c.st3 x hx
    · rcases (hwait x l).1 hl with h1 | ⟨h1, h2⟩
      · have : x ≠ t := fun e5 => hnw l (e5 ▸ h1)
        rw [upb_ne this]; exact h.c.wt x hx l h1
      · subst h1; rw [upb_self]; exact ⟨rfl, h8, h2⟩
    · by_cases e5 : x = t
      · subst e5; exact ⟨h8, .inl ((hwait x _).2 (.inr ⟨rfl, rfl⟩))⟩
      · rw [upb_ne e5] at hne
        obtain ⟨a2, a4⟩ := h.c.wn x hx hne
        exact ⟨a2, a4.elim (fun h1 => .inl ((hwait x _).2 (.inl h1))) (fun h1 => .inr ((hhold x _).2 h1))⟩
    · rw [hhold, h.c.hd x hx l, hst2]
      by_cases e5 : x = t
      · subst e5
        rw [upb_self, if_pos rfl, hw, hst]
        constructor
        · rintro ⟨k, e6, k1, k3⟩
          refine ⟨k, e6, k1, ?_⟩
          rcases k3 with ⟨b1, b2 | b2⟩ | b2
          · exact .inl ⟨b1, .inl b2⟩
          · cases b2.2.1
          · exact .inr b2
        · rintro ⟨k, e6, k1, k3⟩
          refine ⟨k, e6, k1, ?_⟩
          rcases k3 with ⟨b1, b2 | b2⟩ | b2
          · exact .inl ⟨b1, .inl b2⟩
          · omega
          · exact .inr b2
      · rw [upb_ne e5, if_neg e5]
    · rw [hst2] at h2
      split at h2
      · cases h2
      · exact h.c.dn x hx h2
    · show s.T.lk x = _
      rw [h.c.lk x hx, cntP_same (M := M) (L := L) (s := s) (s' := s.come t (L t (ax t)) b) (fun k _ => hhold x _)]
  have hN := hc.adm hr g0 ha
  rw [e]
  refine ⟨rfl, fun hd => ?_, fun _ => hN⟩
  have hd2 : ((s.come t (L t (ax t)) b).admit (L t (ax t))).T.st t = 0 := of_decide_eq_true hd
  have := hN.next ht (by rw [upb_self]) hd2
  have e7 : upb (upb wx t true) t false = wx := by
    funext x
    by_cases e5 : x = t
    · subst e5; rw [upb_self, hw]
    · rw [upb_ne e5, upb_ne e5]
  rw [e7] at this
  exact this
/-- It gives a lock back. -/
theorem Pv.unlock (h : Pv M L n s ax wx) (hr : Rk n M L rk) {t : Nat} (ht : t < n) (hw : wx t = false) (hst : s.T.st t = 0) (h8 : M t ≤ ax t) (h16 : ax t < 2 * M t) :
    (s.unlock (t : Int) (L t (ax t - M t))).1 = 0 ∧ Pv M L n (s.unlock (t : Int) (L t (ax t - M t))).2 (upn ax t (ax t + 1)) wx := by
  obtain ⟨a0, hae⟩ : ∃ a0, ax t - M t = a0 := ⟨_, rfl⟩
  have ha8 : a0 < M t := by omega
  rw [hae]
  obtain ⟨a, hal⟩ : ∃ a, L t a0 = a := ⟨_, rfl⟩
  rw [hal]
  have hh : Hold s t a := (h.c.hd t ht _).2 ⟨a0, hal.symm, ha8, .inr (by omega)⟩
  have hh0 := has_hold.2 hh
  have hk : t < s.n := by rw [h.c.num]; exact ht
  have e : s.unlock (t : Int) a = (0, (s.gone t a).admit a) := by
    unfold Sd.unlock
    rw [if_pos (ok_of hk), if_pos (by simpa using hh0)]
    rfl
  obtain ⟨g0, H, W, e1, e2, e3, hlg, ecl⟩ := h.good.gone hh0
  obtain ⟨A, R, _, ha⟩ := admit_adm ecl hlg
  have hmem : ∀ x c, c ∈ (s.gone t a).cl x ↔ c ∈ s.cl x ∧ ¬ (x = a ∧ c.task = t) := fun x c => by
    by_cases ex : x = a
    · rw [ex]
      have : (s.gone t a).cl a = (s.cl a).filter fun c => !decide (c.task = t) := by unfold Sd.gone; dsimp only; rw [upc_self]
      rw [this, List.mem_filter]
      simp
    · have : (s.gone t a).cl x = s.cl x := by unfold Sd.gone; dsimp only; rw [upc_ne ex]
      rw [this]; simp [ex]
  have hhold : ∀ x l, Hold (s.gone t a) x l ↔ Hold s x l ∧ ¬ (l = a ∧ x = t) := fun x l => by
    constructor
    · rintro ⟨c, h1, h2, h3⟩
      obtain ⟨h4, h5⟩ := (hmem l c).1 h1
      exact ⟨⟨c, h4, h2, h3⟩, fun ⟨p, q⟩ => h5 ⟨p, h2.trans q⟩⟩
    · rintro ⟨⟨c, h1, h2, h3⟩, h4⟩
      exact ⟨c, (hmem l c).2 ⟨h1, fun ⟨p, q⟩ => h4 ⟨p, h2.symm.trans q⟩⟩, h2, h3⟩
  have hnw : ∀ l, ¬ Wait s t l := fun l hh => by have := wait_st h.good.wt hh; omega
  have hwait : ∀ x l, Wait (s.gone t a) x l ↔ Wait s x l := fun x l => by
    constructor
    · rintro ⟨c, h1, h2, h3⟩
      exact ⟨c, ((hmem l c).1 h1).1, h2, h3⟩
    · rintro ⟨c, h1, h2, h3⟩
      exact ⟨c, (hmem l c).2 ⟨h1, fun ⟨p, q⟩ => hnw l ⟨c, h1, q, h3⟩⟩, h2, h3⟩
  have hst2 : ∀ x, (s.gone t a).T.st x = s.T.st x := fun x => rfl
  have hc : PvC M L n (s.gone t a) (upn ax t (ax t + 1)) wx := by
    refine ⟨h.c.num, fun x hx => ?_, h.c.st3, fun x hx l hl => ?_, fun x hx hne => ?_, fun x hx l => ?_, fun x hx h2 => ?_, fun x hx => ?_⟩
    · by_cases e5 : x = t
      · subst e5; rw [upn_self]; omega
      · rw [upn_ne e5]; exact h.c.le x hx
    · have hl2 := (hwait x l).1 hl
      have : x ≠ t := fun e5 => hnw l (e5 ▸ hl2)
      rw [upn_ne this]; exact h.c.wt x hx l hl2
    · have : x ≠ t := fun e5 => by rw [e5, hw] at hne; cases hne
      rw [upn_ne this]
      obtain ⟨a2, a4⟩ := h.c.wn x hx hne
      exact ⟨a2, a4.elim (fun h1 => .inl ((hwait x _).2 h1)) (fun h1 => .inr ((hhold x _).2 ⟨h1, fun hq => this hq.2⟩))⟩
    · rw [hhold, h.c.hd x hx l, hst2]
      by_cases e5 : x = t
      · subst e5
        rw [upn_self]
        constructor
        · rintro ⟨⟨k, e6, k1, k3⟩, h5⟩
          have : k ≠ a0 := fun e7 => h5 ⟨by rw [e6, e7, hal], rfl⟩
          exact ⟨k, e6, k1, .inr (by omega)⟩
        · rintro ⟨k, e6, k1, k3⟩
          refine ⟨⟨k, e6, k1, .inr (by omega)⟩, fun ⟨p, _⟩ => ?_⟩
          have := hr.inj hx k1 ha8 (e6.symm.trans (p.trans hal.symm))
          omega
      · rw [upn_ne e5]
        exact ⟨fun h5 => h5.1, fun h5 => ⟨h5, fun hq => e5 hq.2⟩⟩
    · by_cases e5 : x = t
      · subst e5; rw [hst2] at h2; omega
      · rw [upn_ne e5]; exact h.c.dn x hx h2
    · show (if x = t then wrap64 (s.T.lk x + -1) else s.T.lk x) = _
      by_cases e5 : x = t
      · subst e5
        rw [if_pos rfl, h.c.lk x hx]
        have := cntP_more (M := M) (L := L) (s := s.gone x a) (s' := s) (t := x) ha8 (fun hq => ((hhold x _).1 hq).2 ⟨hal, rfl⟩) (fun k hk => by
          rw [hhold]
          constructor
          · intro h5
            by_cases e8 : k = a0
            · exact .inr e8
            · exact .inl ⟨h5, fun hq => e8 (hr.inj hx hk ha8 (hq.1.trans hal.symm))⟩
          · rintro (h5 | h5)
            · exact h5.1
            · rw [h5, hal]; exact hh)
        have h9 := cntP_le (M := M) (L := L) s x
        have h10 := hr.m8 x hx
        rw [wrap_small (by omega) (by omega)]
        omega
      · rw [if_neg e5, h.c.lk x hx, cntP_same (M := M) (L := L) (s := s) (s' := s.gone t a) (fun k hk => by rw [hhold]; exact ⟨fun h5 => h5.1, fun h5 => ⟨h5, fun hq => e5 hq.2⟩⟩)]
  rw [e]
  exact ⟨rfl, hc.adm hr g0 ha⟩
/-- It ends. -/
theorem Pv.done (h : Pv M L n s ax wx) {t : Nat} (ht : t < n) (hw : wx t = false) (hst : s.T.st t = 0) (h16 : ax t = 2 * M t) :
    (s.done (t : Int)).1 = 0 ∧ Pv M L n (s.done (t : Int)).2 ax wx ∧ (s.done (t : Int)).2.T.st t = 2 ∧ ∀ x, x ≠ t → (s.done (t : Int)).2.T.st x = s.T.st x := by
  have hk : t < s.n := by rw [h.c.num]; exact ht
  have hlk : s.T.lk t = 0 := by
    rw [h.c.lk t ht]
    have : cntP M L s t = 0 := by
      unfold cntP
      rw [List.filter_eq_nil_iff.2 (fun k hk8 => fun hh => by
        obtain ⟨j, e, k1, k3⟩ := (h.c.hd t ht _).1 (has_hold.1 hh)
        omega)]
      rfl
    rw [this]; rfl
  have e : s.done (t : Int) = (0, { s with T := s.T.put t 2 }) := by
    unfold Sd.done
    rw [if_pos ⟨ok_of hk, by simpa using hst⟩, if_neg (by rw [show (t : Int).toNat = t from rfl, hlk]; omega)]
    rfl
  have hg := h.good.done (t : Int)
  rw [e] at hg ⊢
  have hst2 : ∀ x, ({ s with T := s.T.put t 2 } : Sd).T.st x = if x = t then 2 else s.T.st x := fun x => rfl
  refine ⟨rfl, ⟨hg, ⟨h.c.num, h.c.le, fun x hx => ?_, h.c.wt, h.c.wn, fun x hx l => ?_, fun x hx h2 => ?_, h.c.lk⟩⟩, by rw [hst2]; simp, fun x hx => by rw [hst2, if_neg hx]⟩
  · rw [hst2]; split
    · omega
    · exact h.c.st3 x hx
  · rw [show Hold ({ s with T := s.T.put t 2 } : Sd) x l ↔ Hold s x l from Iff.rfl, h.c.hd x hx l, hst2]
    by_cases e5 : x = t
    · subst e5
      constructor
      · rintro ⟨k, e6, k1, k3⟩; exact ⟨k, e6, k1, .inr (by omega)⟩
      · rintro ⟨k, e6, k1, k3⟩; exact ⟨k, e6, k1, .inr (by omega)⟩
    · rw [if_neg e5]
  · rw [hst2] at h2
    by_cases e5 : x = t
    · subst e5; exact h16
    · rw [if_neg e5] at h2; exact h.c.dn x hx h2
/-- Where none is ready, none waits. -/
theorem Pv.never (h : Pv M L n s ax wx) (hr : Rk n M L rk) (h0 : ∀ t, t < n → s.T.st t ≠ 0) : ∀ (d t : Nat), t < n → s.T.st t = 1 → 1000 - rk (L t (ax t)) ≤ d → False
  | 0, t, ht, hs, hd => by
    obtain ⟨l, c, h1, h2, h3⟩ := h.good.ex t (by rw [h.c.num]; exact ht) hs
    have := (h.c.wt t ht l ⟨c, h1, h2, h3⟩).2.1
    have := hr.top t ht _ this
    omega
  | d + 1, t, ht, hs, hd => by
    obtain ⟨l, c, h1, h2, h3⟩ := h.good.ex t (by rw [h.c.num]; exact ht) hs
    obtain ⟨w1, w2, w3⟩ := h.c.wt t ht l ⟨c, h1, h2, h3⟩
    obtain ⟨H, W, e1, e2, e3⟩ := h.good.lk l
    rw [e1] at h1
    rcases List.mem_append.1 h1 with h4 | h4
    · rw [e2.held c h4] at h3; cases h3
    · have hH : H ≠ [] := bar_some e3 (by intro e; rw [List.map_eq_nil_iff] at e; rw [e] at h4; simp at h4)
      obtain ⟨a, ha⟩ := List.exists_mem_of_ne_nil H hH
      have hat : a.task < n := by rw [← h.c.num]; exact h.good.fit l a (by rw [e1]; simp [ha])
      obtain ⟨k, k0, k1, k3⟩ := (h.c.hd a.task hat l).1 ⟨a, by rw [e1]; simp [ha], rfl, e2.held a ha⟩
      have h00 := h0 a.task hat
      have h33 := h.c.st3 a.task hat
      by_cases hs1 : s.T.st a.task = 1
      · obtain ⟨l2, c2, p1, p2, p3⟩ := h.good.ex a.task (by rw [h.c.num]; exact hat) hs1
        have p4 := (h.c.wt a.task hat l2 ⟨c2, p1, p2, p3⟩).2.1
        have hk : k < ax a.task := by
          rcases k3 with ⟨b1, b2 | b2⟩ | b2
          · exact b2
          · exact absurd b2.2.2 h00
          · omega
        have h7 := hr.inc a.task hat k (ax a.task) hk p4
        have h8 := hr.top a.task hat _ p4
        rw [← k0, w3] at h7
        exact h.never hr h0 d a.task hat hs1 (by omega)
      · have := h.c.dn a.task hat (by omega)
        omega
theorem Pv.free (h : Pv M L n s ax wx) (hr : Rk n M L rk) (h0 : (s.at_ 0).length = 0) : (s.at_ 1).length = 0 := by
  refine Classical.byContradiction fun hne => ?_
  obtain ⟨t, ht⟩ := List.exists_mem_of_ne_nil (s.at_ 1) (fun e => hne (by rw [e]; rfl))
  obtain ⟨h1, h2⟩ := at_mem.1 ht
  rw [h.c.num] at h1
  refine h.never hr (fun x hx e => ?_) 1000 t h1 h2 (by omega)
  have : x ∈ s.at_ 0 := at_mem.2 ⟨by rw [h.c.num]; exact hx, e⟩
  rw [List.eq_nil_of_length_eq_zero h0] at this
  simp at this
end
/-- How many steps a task may still take. -/
def costP (M : Nat → Nat) (s : Sd) (ax : Nat → Nat) (wx : Nat → Bool) (t : Nat) : Nat := if s.T.st t = 2 then 0 else if ax t < M t then 3 * M t + 1 - 2 * ax t - (if wx t = true then 1 else 0) else 2 * M t + 1 - ax t
section
variable {M : Nat → Nat} {L : Nat → Nat → Int} {rk : Int → Nat} {n : Nat} {s s' : Sd} {ax : Nat → Nat} {wx : Nat → Bool} {t : Nat}
/-- One step of a task makes the sum less, whatever was let in. -/
theorem costP_step {ax' : Nat → Nat} {wx' : Nat → Bool} (ht : t < n) (hd : ∀ x, x < n → (s'.T.st x = 2 ↔ s.T.st x = 2 ∨ (x = t ∧ s'.T.st t = 2))) (ha : ∀ x, x ≠ t → ax' x = ax x) (hw : ∀ x, x ≠ t → wx' x = wx x) (hc : costP M s' ax' wx' t < costP M s ax wx t) : sumN n (costP M s' ax' wx') + 1 ≤ sumN n (costP M s ax wx) := by
  refine sum_lt n (fun x hx => ?_) ⟨t, ht, hc⟩
  by_cases e : x = t
  · subst e; exact Nat.le_of_lt hc
  · unfold costP
    rw [ha x e, hw x e]
    by_cases h2 : s.T.st x = 2
    · rw [if_pos h2, if_pos ((hd x hx).2 (.inl h2))]; exact Nat.le_refl _
    · rw [if_neg h2, if_neg (fun h3 => ((hd x hx).1 h3).elim h2 (fun h4 => e h4.1))]; exact Nat.le_refl _
theorem costP_start (h : ∀ t, t < n → M t ≤ 8) : sumN n (costP M (Sd.new n) (fun _ => 0) (fun _ => false)) ≤ n * 25 := by
  rw [← sum_const 25 n]
  refine sum_le n fun t ht => ?_
  have := h t ht
  unfold costP
  rw [if_neg (show ¬ ((Sd.new n).T.st t = 2) by simp [Sd.new, Tk.ini]), if_neg (show ¬ (false = true) by simp)]
  split <;> omega
theorem costP_val (h : s.T.st t ≠ 2) : costP M s ax wx t = if ax t < M t then 3 * M t + 1 - 2 * ax t - (if wx t = true then 1 else 0) else 2 * M t + 1 - ax t := by unfold costP; rw [if_neg h]
theorem costP_next (h : Pv M L n s ax wx) (ht : t < n) (hw : wx t = true) (hst : s.T.st t = 0) : sumN n (costP M s (upn ax t (ax t + 1)) (upb wx t false)) + 1 ≤ sumN n (costP M s ax wx) :=
  costP_step ht (fun x _ => ⟨.inl, fun h => h.elim id fun h2 => h2.1 ▸ h2.2⟩) (fun x hx => upn_ne hx) (fun x hx => upb_ne hx) (by
    have h1 := (h.c.wn t ht hw).1
    rw [costP_val (by omega), costP_val (by omega), upn_self, upb_self, if_pos h1, if_pos hw, if_neg (show ¬ (false = true) by simp)]
    split <;> omega)
theorem costP_got (h : Pv M L n s ax wx) {l : Int} {b : Bool} (ht : t < n) (hw : wx t = false) (hst : s.T.st t = 0) (h8 : ax t < M t) : sumN n (costP M (s.lock (t : Int) l b).2.2 (upn ax t (ax t + 1)) wx) + 1 ≤ sumN n (costP M s ax wx) :=
  costP_step ht (fun x _ => ⟨fun h2 => .inl ((lock_two h.good _ _ _ x).1 h2), fun h2 => h2.elim (fun h3 => (lock_two h.good _ _ _ x).2 h3) (fun h3 => h3.1 ▸ h3.2)⟩) (fun x hx => upn_ne hx) (fun x hx => rfl) (by
    rw [costP_val (fun h2 => by have := (lock_two h.good _ _ _ t).1 h2; omega), costP_val (by omega), upn_self, if_pos h8, hw, if_neg (show ¬ (false = true) by simp)]
    split <;> omega)
theorem costP_wait (h : Pv M L n s ax wx) {l : Int} {b : Bool} (ht : t < n) (hw : wx t = false) (hst : s.T.st t = 0) (h8 : ax t < M t) : sumN n (costP M (s.lock (t : Int) l b).2.2 ax (upb wx t true)) + 1 ≤ sumN n (costP M s ax wx) :=
  costP_step ht (fun x _ => ⟨fun h2 => .inl ((lock_two h.good _ _ _ x).1 h2), fun h2 => h2.elim (fun h3 => (lock_two h.good _ _ _ x).2 h3) (fun h3 => h3.1 ▸ h3.2)⟩) (fun x hx => rfl) (fun x hx => upb_ne hx) (by
    rw [costP_val (fun h2 => by have := (lock_two h.good _ _ _ t).1 h2; omega), costP_val (by omega), upb_self, if_pos h8, if_pos h8, hw, if_pos rfl, if_neg (show ¬ (false = true) by simp)]
    omega)
theorem costP_back (h : Pv M L n s ax wx) {l : Int} (ht : t < n) (hw : wx t = false) (hst : s.T.st t = 0) (h8 : M t ≤ ax t) (h16 : ax t < 2 * M t) : sumN n (costP M (s.unlock (t : Int) l).2 (upn ax t (ax t + 1)) wx) + 1 ≤ sumN n (costP M s ax wx) :=
  costP_step ht (fun x _ => ⟨fun h2 => .inl ((unlock_two h.good _ _ x).1 h2), fun h2 => h2.elim (fun h3 => (unlock_two h.good _ _ x).2 h3) (fun h3 => h3.1 ▸ h3.2)⟩) (fun x hx => upn_ne hx) (fun x hx => rfl) (by
    rw [costP_val (fun h2 => by have := (unlock_two h.good _ _ t).1 h2; omega), costP_val (by omega), upn_self, if_neg (show ¬ ax t < M t by omega), if_neg (show ¬ ax t + 1 < M t by omega)]
    omega)
theorem costP_done (ht : t < n) (hst : s.T.st t = 0) (h16 : ax t = 2 * M t) (h2 : s'.T.st t = 2) (ho : ∀ x, x ≠ t → s'.T.st x = s.T.st x) : sumN n (costP M s' ax wx) + 1 ≤ sumN n (costP M s ax wx) :=
  costP_step ht (fun x _ => by
    by_cases e : x = t
    · subst e; exact ⟨fun h => .inr ⟨rfl, h⟩, fun _ => h2⟩
    · rw [ho x e]; exact ⟨.inl, fun h => h.elim id (fun h3 => absurd h3.1 e)⟩) (fun x hx => rfl) (fun x hx => rfl) (by
    rw [costP_val (s := s) (by omega)]
    unfold costP
    rw [if_pos h2]
    split <;> (try split) <;> omega)
end
end Go.Proofs.Ytlplbpilpkmoaaa.sc
