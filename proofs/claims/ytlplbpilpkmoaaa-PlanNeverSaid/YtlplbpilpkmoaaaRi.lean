/- Tasks that take locks by rising numbers: the mathematics. -/
import Derived.Test.YtlplbpilpkmoaaaRd
namespace Go.Proofs.Ytlplbpilpkmoaaa.sc
open Go.RowKit Go.Shelf
set_option linter.unusedVariables false
set_option linter.unusedSimpArgs false

def Hold (s : Sd) (t : Nat) (l : Int) : Prop := ∃ c ∈ s.cl l, c.task = t ∧ c.held = true
def Wait (s : Sd) (t : Nat) (l : Int) : Prop := ∃ c ∈ s.cl l, c.task = t ∧ c.held = false
def upn (f : Nat → Nat) (t v : Nat) : Nat → Nat := fun x => if x = t then v else f x
theorem upn_self (f : Nat → Nat) (t v : Nat) : upn f t v t = v := by simp [upn]
theorem upn_ne {f : Nat → Nat} {t v x : Nat} (h : x ≠ t) : upn f t v x = f x := by simp [upn, h]
/-- What a task holds by then: st its state, a the lock it looks at, wn what it waits for. -/
def HC (Lk : Nat → Nat → Bool) (t a wn st k : Nat) : Prop := k < 8 ∧ Lk t k = true ∧ ((a < 8 ∧ (k < a ∨ (k = a ∧ wn ≠ 0 ∧ st = 0))) ∨ (8 ≤ a ∧ a ≤ k + 8))
def cntH (s : Sd) (t : Nat) : Nat := ((List.range 8).filter fun k : Nat => s.has t (k : Int)).length
structure NvC (Lk : Nat → Nat → Bool) (n : Nat) (s : Sd) (ax wx : Nat → Nat) : Prop where
  num : s.n = n
  le : ∀ t, t < n → ax t ≤ 16
  st3 : ∀ t, t < n → s.T.st t ≤ 2
  wt : ∀ t, t < n → ∀ l, Wait s t l → wx t = ax t + 1 ∧ ax t < 8 ∧ l = (ax t : Int)
  wn : ∀ t, t < n → wx t ≠ 0 → wx t = ax t + 1 ∧ ax t < 8 ∧ Lk t (ax t) = true ∧ (Wait s t (ax t : Int) ∨ Hold s t (ax t : Int))
  hd : ∀ t, t < n → ∀ l, Hold s t l ↔ ∃ k : Nat, l = (k : Int) ∧ HC Lk t (ax t) (wx t) (s.T.st t) k
  dn : ∀ t, t < n → s.T.st t = 2 → ax t = 16
  lk : ∀ t, t < n → s.T.lk t = (cntH s t : Int)
structure Nv (Lk : Nat → Nat → Bool) (n : Nat) (s : Sd) (ax wx : Nat → Nat) : Prop where
  good : Good s
  c : NvC Lk n s ax wx
theorem has_hold {s : Sd} {t : Nat} {l : Int} : s.has t l = true ↔ Hold s t l := has_iff
theorem cnt_le (s : Sd) (t : Nat) : cntH s t ≤ 8 := by
  have := List.length_filter_le (fun k : Nat => s.has t (k : Int)) (List.range 8)
  simpa [cntH] using this
theorem wrap_small {x : Int} (h0 : -100 ≤ x) (h1 : x ≤ 100) : wrap64 x = x := by unfold wrap64; omega
theorem cnt_same {s s' : Sd} {t : Nat} (h : ∀ k : Nat, k < 8 → (Hold s' t (k : Int) ↔ Hold s t (k : Int))) : cntH s' t = cntH s t := by
  unfold cntH
  congr 1
  refine List.filter_congr fun k hk => ?_
  have := h k (List.mem_range.1 hk)
  rw [Bool.eq_iff_iff, has_hold, has_hold]; exact this
/-- One more lock is held. -/
theorem cnt_more {s s' : Sd} {t a : Nat} (ha : a < 8) (h0 : ¬ Hold s t (a : Int)) (h : ∀ k : Nat, k < 8 → (Hold s' t (k : Int) ↔ Hold s t (k : Int) ∨ k = a)) : cntH s' t = cntH s t + 1 := by
  have e : ((List.range 8).filter fun k : Nat => s.has t (k : Int)) = ((List.range 8).filter fun k : Nat => s'.has t (k : Int)).filter fun j => !decide (j = a) := by
    rw [List.filter_filter]
    refine List.filter_congr fun k hk => ?_
    have h1 := h k (List.mem_range.1 hk)
    rw [Bool.eq_iff_iff, Bool.and_eq_true, has_hold, has_hold, h1]
    simp only [Bool.not_eq_true', decide_eq_false_iff_not]
    constructor
    · intro h2; exact ⟨fun e => h0 (e ▸ h2), .inl h2⟩
    · rintro ⟨h2, h3⟩; exact h3.resolve_right h2
  have h2 := off_len (L := (List.range 8).filter fun k : Nat => s'.has t (k : Int)) (k := a) (List.nodup_range.filter _) (List.mem_filter.2 ⟨List.mem_range.2 ha, has_hold.2 ((h a ha).2 (.inr rfl))⟩)
  have h3 : 0 < ((List.range 8).filter fun k : Nat => s'.has t (k : Int)).length := List.length_pos_of_mem (List.mem_filter.2 ⟨List.mem_range.2 ha, has_hold.2 ((h a ha).2 (.inr rfl))⟩)
  unfold cntH
  rw [e, h2]
  omega
theorem nv_new (Lk : Nat → Nat → Bool) (n : Nat) : Nv Lk n (Sd.new n) (fun _ => 0) (fun _ => 0) := by
  have hno : ∀ t l, ¬ Hold (Sd.new n) t l := fun t l ⟨c, h, _⟩ => by simp [Sd.new] at h
  refine ⟨good_new n, ⟨rfl, fun t _ => by omega, fun t _ => by simp [Sd.new, Tk.ini], fun t _ l ⟨c, h, _⟩ => by simp [Sd.new] at h, fun t _ h => absurd rfl h, fun t _ l => ⟨fun h => absurd h (hno t l), fun ⟨k, _, _, _, h⟩ => ?_⟩, fun t _ h => by simp [Sd.new, Tk.ini] at h, fun t _ => ?_⟩⟩
  · rcases h with ⟨_, h | h⟩ | ⟨h, _⟩
    · omega
    · exact absurd rfl h.2.1
    · omega
  · have : cntH (Sd.new n) t = 0 := by
      unfold cntH
      rw [List.filter_eq_nil_iff.2 (fun k _ => fun h => hno t _ (has_hold.1 h))]
      rfl
    rw [this]; rfl
section
variable {Lk : Nat → Nat → Bool} {n : Nat} {s s' : Sd} {ax wx : Nat → Nat}
theorem wait_st (h : ∀ l, ∀ c ∈ s.cl l, c.held = false → s.T.st c.task = 1) {t : Nat} {l : Int} (hw : Wait s t l) : s.T.st t = 1 := by
  obtain ⟨c, h1, h2, h3⟩ := hw
  exact h2 ▸ h l c h1 h3
/-- Letting in keeps it. -/
theorem NvC.adm {l : Int} {H A R : List Cl} (h : NvC Lk n s ax wx) (hg : Good0 s l) (ha : Adm s s' l H A R) : Nv Lk n s' ax wx := by
  have hnd := ha.lg0.nd
  rw [List.map_append, List.map_append] at hnd
  have hnd2 : (A.map (·.task) ++ R.map (·.task)).Nodup := (List.nodup_append.1 hnd).2.1
  have hAn : (A.map (·.task)).Nodup := (List.nodup_append.1 hnd2).1
  have hAw : ∀ t, t ∈ A.map (·.task) → Wait s t l := fun t ht => by
    obtain ⟨c, h1, h2⟩ := List.mem_map.1 ht
    exact ⟨c, by rw [ha.old]; simp [h1], h2, ha.lg0.wait c (by simp [h1])⟩
  have hst : ∀ t, s'.T.st t = if t ∈ A.map (·.task) then 0 else s.T.st t := fun t => by rw [ha.tk, admT_st]
  have hhold : ∀ t x, Hold s' t x ↔ Hold s t x ∨ (x = l ∧ t ∈ A.map (·.task)) := fun t x => by
    constructor
    · rintro ⟨c, h1, h2, h3⟩
      by_cases e : x = l
      · subst e
        rw [ha.new] at h1
        rcases List.mem_append.1 h1 with h4 | h4
        · rcases List.mem_append.1 h4 with h5 | h5
          · exact .inl ⟨c, by rw [ha.old]; simp [h5], h2, h3⟩
          · obtain ⟨d, h6, rfl⟩ := List.mem_map.1 h5
            exact .inr ⟨rfl, List.mem_map.2 ⟨d, h6, h2⟩⟩
        · rw [ha.lg.wait c h4] at h3; cases h3
      · rw [ha.oth x e] at h1; exact .inl ⟨c, h1, h2, h3⟩
    · rintro (⟨c, h1, h2, h3⟩ | ⟨rfl, h1⟩)
      · by_cases e : x = l
        · subst e
          rw [ha.old] at h1
          rcases List.mem_append.1 h1 with h4 | h4
          · exact ⟨c, by rw [ha.new]; simp [h4], h2, h3⟩
          · rw [ha.lg0.wait c h4] at h3; cases h3
        · exact ⟨c, by rw [ha.oth x e]; exact h1, h2, h3⟩
      · obtain ⟨d, h6, h7⟩ := List.mem_map.1 h1
        exact ⟨d.hold, by rw [ha.new]; exact List.mem_append.2 (.inl (List.mem_append.2 (.inr (List.mem_map.2 ⟨d, h6, rfl⟩)))), h7, rfl⟩
  have hwait : ∀ t x, Wait s' t x ↔ Wait s t x ∧ ¬ (x = l ∧ t ∈ A.map (·.task)) := fun t x => by
    constructor
    · rintro ⟨c, h1, h2, h3⟩
      obtain ⟨h4, h5⟩ := ha.sub h1 h3
      exact ⟨⟨c, h4, h2, h3⟩, fun ⟨e, h6⟩ => nd_apart hnd2 h6 (List.mem_map.2 ⟨c, h5 e, h2⟩)⟩
    · rintro ⟨⟨c, h1, h2, h3⟩, h4⟩
      by_cases e : x = l
      · subst e
        rw [ha.old] at h1
        rcases List.mem_append.1 h1 with h5 | h5
        · rw [ha.lg0.held c h5] at h3; cases h3
        · rcases List.mem_append.1 h5 with h6 | h6
          · exact absurd ⟨rfl, List.mem_map.2 ⟨c, h6, h2⟩⟩ h4
          · exact ⟨c, by rw [ha.new]; simp [h6], h2, h3⟩
      · exact ⟨c, by rw [ha.oth x e]; exact h1, h2, h3⟩
  refine ⟨ha.good hg, ⟨ha.n.trans h.num, h.le, fun t ht => ?_, fun t ht x hw => h.wt t ht x ((hwait t x).1 hw).1, fun t ht hne => ?_, fun t ht x => ?_, fun t ht h2 => ?_, fun t ht => ?_⟩⟩
  · rw [hst]; split
    · omega
    · exact h.st3 t ht
  · obtain ⟨a1, a2, a3, a4⟩ := h.wn t ht hne
    refine ⟨a1, a2, a3, ?_⟩
    rcases a4 with a4 | a4
    · by_cases e : (ax t : Int) = l ∧ t ∈ A.map (·.task)
      · exact .inr ((hhold t _).2 (.inr e))
      · exact .inl ((hwait t _).2 ⟨a4, e⟩)
    · exact .inr ((hhold t _).2 (.inl a4))
  · rw [hhold, h.hd t ht x]
    by_cases hA : t ∈ A.map (·.task)
    · obtain ⟨w1, w2, w3⟩ := h.wt t ht l (hAw t hA)
      have w4 := (h.wn t ht (by omega)).2.2.1
      have hs1 := wait_st hg.wt (hAw t hA)
      rw [hst, if_pos hA, hs1]
      constructor
      · rintro (⟨k, e, k1, k2, k3⟩ | ⟨e, _⟩)
        · refine ⟨k, e, k1, k2, ?_⟩
          rcases k3 with ⟨b1, b2 | b2⟩ | b2
          · exact .inl ⟨b1, .inl b2⟩
          · omega
          · exact .inr b2
        · exact ⟨ax t, e.trans w3, w2, w4, .inl ⟨w2, .inr ⟨rfl, by omega, rfl⟩⟩⟩
      · rintro ⟨k, e, k1, k2, k3⟩
        rcases k3 with ⟨b1, b2 | b2⟩ | b2
        · exact .inl ⟨k, e, k1, k2, .inl ⟨b1, .inl b2⟩⟩
        · exact .inr ⟨by rw [e, w3, b2.1], hA⟩
        · exact .inl ⟨k, e, k1, k2, .inr b2⟩
    · rw [hst, if_neg hA]
      constructor
      · rintro (h1 | ⟨_, h1⟩)
        · exact h1
        · exact absurd h1 hA
      · exact fun h1 => .inl h1
  · rw [hst] at h2
    split at h2
    · cases h2
    · exact h.dn t ht h2
  · rw [ha.tk]
    by_cases hA : t ∈ A.map (·.task)
    · obtain ⟨w1, w2, w3⟩ := h.wt t ht l (hAw t hA)
      have hs1 := wait_st hg.wt (hAw t hA)
      have hn0 : ¬ Hold s t (ax t : Int) := fun hh => by
        obtain ⟨k, e, k1, k2, k3⟩ := (h.hd t ht _).1 hh
        omega
      rw [admT_in _ _ _ hAn hA, h.lk t ht, cnt_more (s := s) (s' := s') w2 hn0 (fun k hk => by
        rw [hhold]
        constructor
        · rintro (h1 | ⟨h1, _⟩)
          · exact .inl h1
          · exact .inr (by omega)
        · rintro (h1 | h1)
          · exact .inl h1
          · exact .inr ⟨by rw [h1, w3], hA⟩)]
      have := cnt_le s t
      rw [wrap_small (by omega) (by omega)]
      omega
    · rw [admT_out _ _ _ hA, h.lk t ht, cnt_same (s := s) (s' := s') (fun k hk => by
        rw [hhold]
        exact ⟨fun h1 => h1.elim id (fun h2 => absurd h2.2 hA), fun h1 => .inl h1⟩)]
/-- It was let in: it looks at the next one. -/
theorem Nv.next (h : Nv Lk n s ax wx) {t : Nat} (ht : t < n) (hw : wx t ≠ 0) (hst : s.T.st t = 0) : Nv Lk n s (upn ax t (ax t + 1)) (upn wx t 0) := by
  obtain ⟨a1, a2, a3, a4⟩ := h.c.wn t ht hw
  have hnw : ∀ l, ¬ Wait s t l := fun l hh => by have := wait_st h.good.wt hh; omega
  refine ⟨h.good, ⟨h.c.num, fun x hx => ?_, h.c.st3, fun x hx l hl => ?_, fun x hx hne => ?_, fun x hx l => ?_, fun x hx h2 => ?_, h.c.lk⟩⟩
  · by_cases e : x = t
    · subst e; rw [upn_self]; omega
    · rw [upn_ne e]; exact h.c.le x hx
  · by_cases e : x = t
    · subst e; exact absurd hl (hnw l)
    · rw [upn_ne e, upn_ne e]; exact h.c.wt x hx l hl
  · by_cases e : x = t
    · subst e; rw [upn_self] at hne; exact absurd rfl hne
    · rw [upn_ne e] at hne ⊢; rw [upn_ne e]; exact h.c.wn x hx hne
  · by_cases e : x = t
    · subst e
      rw [h.c.hd x hx l, upn_self, upn_self, hst]
      constructor
      · rintro ⟨k, e1, k1, k2, k3⟩
        refine ⟨k, e1, k1, k2, ?_⟩
        rcases k3 with ⟨b1, b2⟩ | b2
        · by_cases h8 : ax x + 1 < 8
          · exact .inl ⟨h8, .inl (by omega)⟩
          · exact .inr (by omega)
        · omega
      · rintro ⟨k, e1, k1, k2, k3⟩
        refine ⟨k, e1, k1, k2, .inl ⟨a2, ?_⟩⟩
        rcases k3 with ⟨b1, b2 | b2⟩ | b2
        · by_cases h9 : k = ax x
          · exact .inr ⟨h9, hw, rfl⟩
          · exact .inl (by omega)
        · exact absurd rfl b2.2.1
        · by_cases h9 : k = ax x
          · exact .inr ⟨h9, hw, rfl⟩
          · exact .inl (by omega)
    · rw [h.c.hd x hx l, upn_ne e, upn_ne e]
  · by_cases e : x = t
    · subst e; omega
    · rw [upn_ne e]; exact h.c.dn x hx h2
/-- A lock that it doesn't want. -/
theorem Nv.skip (h : Nv Lk n s ax wx) {t : Nat} (ht : t < n) (hw : wx t = 0) (hst : s.T.st t = 0) (h16 : ax t < 16) (hL : ax t < 8 → Lk t (ax t) = false) (hL2 : 8 ≤ ax t → Lk t (ax t - 8) = false) : Nv Lk n s (upn ax t (ax t + 1)) wx := by
  have hnw : ∀ l, ¬ Wait s t l := fun l hh => by have := wait_st h.good.wt hh; omega
  refine ⟨h.good, ⟨h.c.num, fun x hx => ?_, h.c.st3, fun x hx l hl => ?_, fun x hx hne => ?_, fun x hx l => ?_, fun x hx h2 => ?_, h.c.lk⟩⟩
  · by_cases e : x = t
    · subst e; rw [upn_self]; omega
    · rw [upn_ne e]; exact h.c.le x hx
  · by_cases e : x = t
    · subst e; exact absurd hl (hnw l)
    · rw [upn_ne e]; exact h.c.wt x hx l hl
  · by_cases e : x = t
    · subst e; exact absurd hw hne
    · rw [upn_ne e]; exact h.c.wn x hx hne
  · by_cases e : x = t
    · subst e
      rw [h.c.hd x hx l, upn_self, hst, hw]
      constructor
      · rintro ⟨k, e1, k1, k2, k3⟩
        refine ⟨k, e1, k1, k2, ?_⟩
        rcases k3 with ⟨b1, b2 | b2⟩ | b2
        · by_cases h8 : ax x + 1 < 8
          · exact .inl ⟨h8, .inl (by omega)⟩
          · exact .inr (by omega)
        · exact absurd rfl b2.2.1
        · refine .inr ⟨by omega, ?_⟩
          by_cases h9 : k = ax x - 8
          · have := hL2 b2.1; rw [← h9, k2] at this; cases this
          · omega
      · rintro ⟨k, e1, k1, k2, k3⟩
        refine ⟨k, e1, k1, k2, ?_⟩
        rcases k3 with ⟨b1, b2 | b2⟩ | b2
        · by_cases h9 : k = ax x
          · have := hL (by omega); rw [← h9, k2] at this; cases this
          · exact .inl ⟨by omega, .inl (by omega)⟩
        · exact absurd rfl b2.2.1
        · by_cases h8 : ax x < 8
          · by_cases h9 : k = ax x
            · have := hL h8; rw [← h9, k2] at this; cases this
            · exact .inl ⟨h8, .inl (by omega)⟩
          · exact .inr (by omega)
    · rw [h.c.hd x hx l, upn_ne e]
  · by_cases e : x = t
    · subst e; omega
    · rw [upn_ne e]; exact h.c.dn x hx h2
/-- It takes a lock, or waits for it. -/
theorem Nv.lock (h : Nv Lk n s ax wx) {t : Nat} (ht : t < n) (hw : wx t = 0) (hst : s.T.st t = 0) (h8 : ax t < 8) (hL : Lk t (ax t) = true) (b : Bool) :
    (s.lock (t : Int) (ax t : Int) b).2.1 = 0 ∧ ((s.lock (t : Int) (ax t : Int) b).1 = true → Nv Lk n (s.lock (t : Int) (ax t : Int) b).2.2 (upn ax t (ax t + 1)) wx) ∧ ((s.lock (t : Int) (ax t : Int) b).1 = false → Nv Lk n (s.lock (t : Int) (ax t : Int) b).2.2 ax (upn wx t (ax t + 1))) := by
  have hnh : ¬ Hold s t (ax t : Int) := fun hh => by
    obtain ⟨k, e, k1, k2, k3⟩ := (h.c.hd t ht _).1 hh
    rcases k3 with ⟨b1, b2 | b2⟩ | b2
    · omega
    · exact b2.2.1 hw
    · omega
  have hh0 : s.has t (ax t : Int) = false := by
    cases e : s.has t (ax t : Int) with
    | false => rfl
    | true => exact absurd (has_hold.1 e) hnh
  have hk : t < s.n := by rw [h.c.num]; exact ht
  have e : s.lock (t : Int) (ax t : Int) b = (decide (((s.come t (ax t : Int) b).admit (ax t : Int)).T.st t = 0), 0, (s.come t (ax t : Int) b).admit (ax t : Int)) := by
    unfold Sd.lock
    rw [if_pos ⟨ok_of hk, by simpa using hst⟩, if_neg (by simpa using hh0)]
    rfl
  obtain ⟨g0, H, W, e1, e2, e3, hlg, ecl⟩ := h.good.come (w := b) hk hst hh0
  obtain ⟨A, R, _, ha⟩ := admit_adm ecl hlg
  have hst2 : ∀ x, (s.come t (ax t : Int) b).T.st x = if x = t then 1 else s.T.st x := fun x => rfl
  have hmem : ∀ x c, c ∈ (s.come t (ax t : Int) b).cl x ↔ c ∈ s.cl x ∨ (x = (ax t : Int) ∧ c = ⟨t, b, false⟩) := fun x c => by
    by_cases ex : x = (ax t : Int)
    · subst ex
      rw [ecl, e1, ← List.append_assoc]
      constructor
      · intro hc
        rcases List.mem_append.1 hc with h1 | h1
        · exact .inl h1
        · exact .inr ⟨rfl, by simpa using h1⟩
      · rintro (h1 | ⟨_, h1⟩)
        · exact List.mem_append.2 (.inl h1)
        · exact List.mem_append.2 (.inr (by rw [h1]; simp))
    · have : (s.come t (ax t : Int) b).cl x = s.cl x := by unfold Sd.come; dsimp only; rw [upc_ne ex]
      rw [this]; simp [ex]
  have hhold : ∀ x l, Hold (s.come t (ax t : Int) b) x l ↔ Hold s x l := fun x l => by
    constructor
    · rintro ⟨c, h1, h2, h3⟩
      rcases (hmem l c).1 h1 with h4 | ⟨_, h4⟩
      · exact ⟨c, h4, h2, h3⟩
      · rw [h4] at h3; cases h3
    · rintro ⟨c, h1, h2, h3⟩
      exact ⟨c, (hmem l c).2 (.inl h1), h2, h3⟩
  have hwait : ∀ x l, Wait (s.come t (ax t : Int) b) x l ↔ Wait s x l ∨ (x = t ∧ l = (ax t : Int)) := fun x l => by
    constructor
    · rintro ⟨c, h1, h2, h3⟩
      rcases (hmem l c).1 h1 with h4 | ⟨h5, h4⟩
      · exact .inl ⟨c, h4, h2, h3⟩
      · rw [h4] at h2; exact .inr ⟨h2.symm, h5⟩
    · rintro (⟨c, h1, h2, h3⟩ | ⟨h1, h2⟩)
      · exact ⟨c, (hmem l c).2 (.inl h1), h2, h3⟩
      · exact ⟨⟨t, b, false⟩, (hmem l _).2 (.inr ⟨h2, rfl⟩), h1.symm, rfl⟩
  have hnw : ∀ l, ¬ Wait s t l := fun l hh => by have := wait_st h.good.wt hh; omega
  have hc : NvC Lk n (s.come t (ax t : Int) b) ax (upn wx t (ax t + 1)) := by
    refine ⟨h.c.num, h.c.le, fun x hx => ?_, fun x hx l hl => ?_, fun x hx hne => ?_, fun x hx l => ?_, fun x hx h2 => ?_, fun x hx => ?_⟩
    · rw [hst2]; split
      · omega
      · exact h.c.st3 x hx
    · rcases (hwait x l).1 hl with h1 | ⟨h1, h2⟩
      · have : x ≠ t := fun e5 => hnw l (e5 ▸ h1)
        rw [upn_ne this]; exact h.c.wt x hx l h1
      · subst h1; rw [upn_self]; exact ⟨rfl, h8, h2⟩
    · by_cases e5 : x = t
      · subst e5; rw [upn_self]; exact ⟨rfl, h8, hL, .inl ((hwait x _).2 (.inr ⟨rfl, rfl⟩))⟩
      · rw [upn_ne e5] at hne ⊢
        obtain ⟨a1, a2, a3, a4⟩ := h.c.wn x hx hne
        exact ⟨a1, a2, a3, a4.elim (fun h1 => .inl ((hwait x _).2 (.inl h1))) (fun h1 => .inr ((hhold x _).2 h1))⟩
    · rw [hhold, h.c.hd x hx l, hst2]
      by_cases e5 : x = t
      · subst e5
        rw [upn_self, if_pos rfl, hw, hst]
        constructor
        · rintro ⟨k, e6, k1, k2, k3⟩
          refine ⟨k, e6, k1, k2, ?_⟩
          rcases k3 with ⟨b1, b2 | b2⟩ | b2
          · exact .inl ⟨b1, .inl b2⟩
          · exact absurd rfl b2.2.1
          · exact .inr b2
        · rintro ⟨k, e6, k1, k2, k3⟩
          refine ⟨k, e6, k1, k2, ?_⟩
          rcases k3 with ⟨b1, b2 | b2⟩ | b2
          · exact .inl ⟨b1, .inl b2⟩
          · omega
          · exact .inr b2
      · rw [upn_ne e5, if_neg e5]
    · rw [hst2] at h2
      split at h2
      · cases h2
      · exact h.c.dn x hx h2
    · show s.T.lk x = _
      rw [h.c.lk x hx, cnt_same (s := s) (s' := s.come t (ax t : Int) b) (fun k _ => hhold x _)]
  have hN := hc.adm g0 ha
  rw [e]
  refine ⟨rfl, fun hd => ?_, fun _ => hN⟩
  have hd2 : ((s.come t (ax t : Int) b).admit (ax t : Int)).T.st t = 0 := of_decide_eq_true hd
  have := hN.next ht (by rw [upn_self]; omega) hd2
  have e7 : upn (upn wx t (ax t + 1)) t 0 = wx := by
    funext x
    by_cases e5 : x = t
    · subst e5; rw [upn_self, hw]
    · rw [upn_ne e5, upn_ne e5]
  rw [e7] at this
  exact this
/-- It gives a lock back. -/
theorem Nv.unlock (h : Nv Lk n s ax wx) {t : Nat} (ht : t < n) (hw : wx t = 0) (hst : s.T.st t = 0) (h8 : 8 ≤ ax t) (h16 : ax t < 16) (hL : Lk t (ax t - 8) = true) :
    (s.unlock (t : Int) ((ax t - 8 : Nat) : Int)).1 = 0 ∧ Nv Lk n (s.unlock (t : Int) ((ax t - 8 : Nat) : Int)).2 (upn ax t (ax t + 1)) wx := by
  obtain ⟨a, hae⟩ : ∃ a, ax t - 8 = a := ⟨_, rfl⟩
  have ha8 : a < 8 := by omega
  rw [hae] at hL ⊢
  have hh : Hold s t (a : Int) := (h.c.hd t ht _).2 ⟨a, rfl, ha8, hL, .inr (by omega)⟩
  have hh0 := has_hold.2 hh
  have hk : t < s.n := by rw [h.c.num]; exact ht
  have e : s.unlock (t : Int) (a : Int) = (0, (s.gone t (a : Int)).admit (a : Int)) := by
    unfold Sd.unlock
    rw [if_pos (ok_of hk), if_pos (by simpa using hh0)]
    rfl
  obtain ⟨g0, H, W, e1, e2, e3, hlg, ecl⟩ := h.good.gone hh0
  obtain ⟨A, R, _, ha⟩ := admit_adm ecl hlg
  have hmem : ∀ x c, c ∈ (s.gone t (a : Int)).cl x ↔ c ∈ s.cl x ∧ ¬ (x = (a : Int) ∧ c.task = t) := fun x c => by
    by_cases ex : x = (a : Int)
    · subst ex
      have : (s.gone t (a : Int)).cl (a : Int) = (s.cl (a : Int)).filter fun c => !decide (c.task = t) := by unfold Sd.gone; dsimp only; rw [upc_self]
      rw [this, List.mem_filter]
      simp
    · have : (s.gone t (a : Int)).cl x = s.cl x := by unfold Sd.gone; dsimp only; rw [upc_ne ex]
      rw [this]; simp [ex]
  have hhold : ∀ x l, Hold (s.gone t (a : Int)) x l ↔ Hold s x l ∧ ¬ (l = (a : Int) ∧ x = t) := fun x l => by
    constructor
    · rintro ⟨c, h1, h2, h3⟩
      obtain ⟨h4, h5⟩ := (hmem l c).1 h1
      exact ⟨⟨c, h4, h2, h3⟩, fun ⟨p, q⟩ => h5 ⟨p, h2.trans q⟩⟩
    · rintro ⟨⟨c, h1, h2, h3⟩, h4⟩
      exact ⟨c, (hmem l c).2 ⟨h1, fun ⟨p, q⟩ => h4 ⟨p, h2.symm.trans q⟩⟩, h2, h3⟩
  have hnw : ∀ l, ¬ Wait s t l := fun l hh => by have := wait_st h.good.wt hh; omega
  have hwait : ∀ x l, Wait (s.gone t (a : Int)) x l ↔ Wait s x l := fun x l => by
    constructor
    · rintro ⟨c, h1, h2, h3⟩
      exact ⟨c, ((hmem l c).1 h1).1, h2, h3⟩
    · rintro ⟨c, h1, h2, h3⟩
      exact ⟨c, (hmem l c).2 ⟨h1, fun ⟨p, q⟩ => hnw l ⟨c, h1, q, h3⟩⟩, h2, h3⟩
  have hst2 : ∀ x, (s.gone t (a : Int)).T.st x = s.T.st x := fun x => rfl
  have hc : NvC Lk n (s.gone t (a : Int)) (upn ax t (ax t + 1)) wx := by
    refine ⟨h.c.num, fun x hx => ?_, h.c.st3, fun x hx l hl => ?_, fun x hx hne => ?_, fun x hx l => ?_, fun x hx h2 => ?_, fun x hx => ?_⟩
    · by_cases e5 : x = t
      · subst e5; rw [upn_self]; omega
      · rw [upn_ne e5]; exact h.c.le x hx
    · have hl2 := (hwait x l).1 hl
      have : x ≠ t := fun e5 => hnw l (e5 ▸ hl2)
      rw [upn_ne this]; exact h.c.wt x hx l hl2
    · have : x ≠ t := fun e5 => hne (e5 ▸ hw)
      rw [upn_ne this]
      obtain ⟨a1, a2, a3, a4⟩ := h.c.wn x hx hne
      exact ⟨a1, a2, a3, a4.elim (fun h1 => .inl ((hwait x _).2 h1)) (fun h1 => .inr ((hhold x _).2 ⟨h1, fun hq => this hq.2⟩))⟩
    · rw [hhold, h.c.hd x hx l, hst2]
      by_cases e5 : x = t
      · subst e5
        rw [upn_self]
        constructor
        · rintro ⟨⟨k, e6, k1, k2, k3⟩, h5⟩
          have : k ≠ a := fun e7 => h5 ⟨by rw [e6, e7], rfl⟩
          exact ⟨k, e6, k1, k2, .inr (by omega)⟩
        · rintro ⟨k, e6, k1, k2, k3⟩
          exact ⟨⟨k, e6, k1, k2, .inr (by omega)⟩, fun ⟨p, _⟩ => by omega⟩
      · rw [upn_ne e5]
        exact ⟨fun h5 => h5.1, fun h5 => ⟨h5, fun hq => e5 hq.2⟩⟩
    · by_cases e5 : x = t
      · subst e5; rw [hst2] at h2; omega
      · rw [upn_ne e5]; exact h.c.dn x hx h2
    · show (if x = t then wrap64 (s.T.lk x + -1) else s.T.lk x) = _
      by_cases e5 : x = t
      · subst e5
        rw [if_pos rfl, h.c.lk x hx]
        have := cnt_more (s := s.gone x (a : Int)) (s' := s) (t := x) ha8 (fun hq => ((hhold x _).1 hq).2 ⟨rfl, rfl⟩) (fun k hk => by
          rw [hhold]
          constructor
          · intro h5
            by_cases e8 : k = a
            · exact .inr e8
            · exact .inl ⟨h5, fun hq => e8 (by omega)⟩
          · rintro (h5 | h5)
            · exact h5.1
            · rw [h5]; exact hh)
        have h9 := cnt_le s x
        rw [wrap_small (by omega) (by omega)]
        omega
      · rw [if_neg e5, h.c.lk x hx, cnt_same (s := s) (s' := s.gone t (a : Int)) (fun k _ => by rw [hhold]; exact ⟨fun h5 => h5.1, fun h5 => ⟨h5, fun hq => e5 hq.2⟩⟩)]
  rw [e]
  exact ⟨rfl, hc.adm g0 ha⟩
/-- It ends. -/
theorem Nv.done (h : Nv Lk n s ax wx) {t : Nat} (ht : t < n) (hw : wx t = 0) (hst : s.T.st t = 0) (h16 : ax t = 16) :
    (s.done (t : Int)).1 = 0 ∧ Nv Lk n (s.done (t : Int)).2 ax wx ∧ (s.done (t : Int)).2.T.st t = 2 ∧ ∀ x, x ≠ t → (s.done (t : Int)).2.T.st x = s.T.st x := by
  have hk : t < s.n := by rw [h.c.num]; exact ht
  have hlk : s.T.lk t = 0 := by
    rw [h.c.lk t ht]
    have : cntH s t = 0 := by
      unfold cntH
      rw [List.filter_eq_nil_iff.2 (fun k hk8 => fun hh => by
        obtain ⟨j, e, k1, k2, k3⟩ := (h.c.hd t ht _).1 (has_hold.1 hh)
        omega)]
      rfl
    rw [this]; rfl
  have e : s.done (t : Int) = (0, { s with T := s.T.put t 2 }) := by
    unfold Sd.done
    rw [if_pos ⟨ok_of hk, by simpa using hst⟩, if_neg (by rw [show (t : Int).toNat = t from rfl, hlk]; omega)]
    rfl
  have hg := h.good.done (t : Int)
  rw [e] at hg ⊢
  have hst2 : ∀ x, ({ s with T := s.T.put t 2 } : Sd).T.st x = if x = t then 2 else s.T.st x := fun x => rfl
  refine ⟨rfl, ⟨hg, ⟨h.c.num, h.c.le, fun x hx => ?_, h.c.wt, h.c.wn, fun x hx l => ?_, fun x hx h2 => ?_, h.c.lk⟩⟩, by rw [hst2]; simp, fun x hx => by rw [hst2, if_neg hx]⟩
  · rw [hst2]; split
    · omega
    · exact h.c.st3 x hx
  · rw [show Hold ({ s with T := s.T.put t 2 } : Sd) x l ↔ Hold s x l from Iff.rfl, h.c.hd x hx l, hst2]
    by_cases e5 : x = t
    · subst e5
      constructor
      · rintro ⟨k, e6, k1, k2, k3⟩; exact ⟨k, e6, k1, k2, .inr (by omega)⟩
      · rintro ⟨k, e6, k1, k2, k3⟩; exact ⟨k, e6, k1, k2, .inr (by omega)⟩
    · rw [if_neg e5]
  · rw [hst2] at h2
    by_cases e5 : x = t
    · subst e5; exact h16
    · rw [if_neg e5] at h2; exact h.c.dn x hx h2
/-- Where none is ready, none waits. -/
theorem Nv.never (h : Nv Lk n s ax wx) (h0 : ∀ t, t < n → s.T.st t ≠ 0) : ∀ (d t : Nat), t < n → s.T.st t = 1 → 8 - ax t ≤ d → False
  | 0, t, ht, hs, hd => by
    obtain ⟨l, c, h1, h2, h3⟩ := h.good.ex t (by rw [h.c.num]; exact ht) hs
    have := (h.c.wt t ht l ⟨c, h1, h2, h3⟩).2.1
    omega
  | d + 1, t, ht, hs, hd => by
    obtain ⟨l, c, h1, h2, h3⟩ := h.good.ex t (by rw [h.c.num]; exact ht) hs
    obtain ⟨w1, w2, w3⟩ := h.c.wt t ht l ⟨c, h1, h2, h3⟩
    obtain ⟨H, W, e1, e2, e3⟩ := h.good.lk l
    rw [e1] at h1
    rcases List.mem_append.1 h1 with h4 | h4
    · rw [e2.held c h4] at h3; cases h3
    · have hH : H ≠ [] := bar_some e3 (by intro e; rw [List.map_eq_nil_iff] at e; rw [e] at h4; simp at h4)
      obtain ⟨a, ha⟩ := List.exists_mem_of_ne_nil H hH
      have hat : a.task < n := by rw [← h.c.num]; exact h.good.fit l a (by rw [e1]; simp [ha])
      obtain ⟨k, k0, k1, k2, k3⟩ := (h.c.hd a.task hat l).1 ⟨a, by rw [e1]; simp [ha], rfl, e2.held a ha⟩
      have h00 := h0 a.task hat
      have h33 := h.c.st3 a.task hat
      by_cases hs1 : s.T.st a.task = 1
      · obtain ⟨l2, c2, p1, p2, p3⟩ := h.good.ex a.task (by rw [h.c.num]; exact hat) hs1
        have p4 := (h.c.wt a.task hat l2 ⟨c2, p1, p2, p3⟩).2.1
        exact h.never h0 d a.task hat hs1 (by omega)
      · have := h.c.dn a.task hat (by omega)
        omega
theorem Nv.free (h : Nv Lk n s ax wx) (h0 : (s.at_ 0).length = 0) : (s.at_ 1).length = 0 := by
  refine Classical.byContradiction fun hne => ?_
  obtain ⟨t, ht⟩ := List.exists_mem_of_ne_nil (s.at_ 1) (fun e => hne (by rw [e]; rfl))
  obtain ⟨h1, h2⟩ := at_mem.1 ht
  rw [h.c.num] at h1
  refine h.never (fun x hx e => ?_) 8 t h1 h2 (by omega)
  have : x ∈ s.at_ 0 := at_mem.2 ⟨by rw [h.c.num]; exact hx, e⟩
  rw [List.eq_nil_of_length_eq_zero h0] at this
  simp at this
end
/-- How many steps a task may still take. -/
def cost (s : Sd) (ax wx : Nat → Nat) (t : Nat) : Nat := if s.T.st t = 2 then 0 else if ax t < 8 then 25 - 2 * ax t - (if wx t = 0 then 0 else 1) else 17 - ax t
def sumN : Nat → (Nat → Nat) → Nat
  | 0, _ => 0
  | n + 1, f => sumN n f + f n
theorem sum_le {f g : Nat → Nat} : ∀ n, (∀ t, t < n → f t ≤ g t) → sumN n f ≤ sumN n g
  | 0, _ => Nat.le_refl _
  | n + 1, h => Nat.add_le_add (sum_le n fun t ht => h t (by omega)) (h n (by omega))
theorem sum_lt {f g : Nat → Nat} : ∀ n, (∀ t, t < n → f t ≤ g t) → (∃ t, t < n ∧ f t < g t) → sumN n f < sumN n g
  | 0, _, ⟨t, h, _⟩ => by omega
  | n + 1, h, ⟨t, h1, h2⟩ => by
    by_cases e : t = n
    · subst e; exact Nat.add_lt_add_of_le_of_lt (sum_le t fun x hx => h x (by omega)) h2
    · exact Nat.add_lt_add_of_lt_of_le (sum_lt n (fun x hx => h x (by omega)) ⟨t, by omega, h2⟩) (h n (by omega))
theorem sum_const (c : Nat) : ∀ n, sumN n (fun _ => c) = n * c
  | 0 => by simp [sumN]
  | n + 1 => by rw [sumN, sum_const c n, Nat.succ_mul]
section
variable {Lk : Nat → Nat → Bool} {n : Nat} {s s' : Sd} {ax wx : Nat → Nat}
/-- One step of a task makes the sum less, whatever was let in. -/
theorem cost_step {ax' wx' : Nat → Nat} {t : Nat} (ht : t < n) (hd : ∀ x, x < n → (s'.T.st x = 2 ↔ s.T.st x = 2 ∨ (x = t ∧ s'.T.st t = 2))) (ha : ∀ x, x ≠ t → ax' x = ax x) (hw : ∀ x, x ≠ t → wx' x = wx x) (hc : cost s' ax' wx' t < cost s ax wx t) : sumN n (cost s' ax' wx') + 1 ≤ sumN n (cost s ax wx) := by
  refine sum_lt n (fun x hx => ?_) ⟨t, ht, hc⟩
  by_cases e : x = t
  · subst e; exact Nat.le_of_lt hc
  · unfold cost
    rw [ha x e, hw x e]
    by_cases h2 : s.T.st x = 2
    · rw [if_pos h2, if_pos ((hd x hx).2 (.inl h2))]; exact Nat.le_refl _
    · rw [if_neg h2, if_neg (fun h3 => ((hd x hx).1 h3).elim h2 (fun h4 => e h4.1))]; exact Nat.le_refl _
theorem cost_start (n : Nat) : sumN n (cost (Sd.new n) (fun _ => 0) (fun _ => 0)) ≤ n * 25 := by
  rw [← sum_const 25 n]
  exact sum_le n fun t _ => by simp [cost, Sd.new, Tk.ini]
theorem admit_two {s : Sd} {l : Int} {H W : List Cl} (e : s.cl l = H ++ W) (h : LG H W) (hw : ∀ l, ∀ c ∈ s.cl l, c.held = false → s.T.st c.task = 1) (x : Nat) : (s.admit l).T.st x = 2 ↔ s.T.st x = 2 := by
  obtain ⟨A, R, e1, ha⟩ := admit_adm e h
  rw [ha.tk, admT_st]
  split
  · rename_i hA
    obtain ⟨c, h1, h2⟩ := List.mem_map.1 hA
    have := hw l c (by rw [ha.old]; simp [h1]) (ha.lg0.wait c (by simp [h1]))
    rw [h2] at this
    omega
  · exact Iff.rfl
theorem lock_two (h : Good s) (t l : Int) (b : Bool) (x : Nat) : (s.lock t l b).2.2.T.st x = 2 ↔ s.T.st x = 2 := by
  rcases lock_cases h t l b with ⟨_, _, e⟩ | ⟨k, rfl, hk, hst, hh, e⟩
  · rw [e]
  · rw [e]
    obtain ⟨g0, H, W, e1, e2, e3, hlg, ecl⟩ := h.come (w := b) hk hst hh
    show ((s.come k l b).admit l).T.st x = 2 ↔ _
    rw [admit_two ecl hlg g0.wt]
    show (if x = k then 1 else s.T.st x) = 2 ↔ _
    by_cases e5 : x = k
    · rw [if_pos e5, e5, hst]; omega
    · rw [if_neg e5]
theorem unlock_two (h : Good s) (t l : Int) (x : Nat) : (s.unlock t l).2.T.st x = 2 ↔ s.T.st x = 2 := by
  rcases unlock_cases (s := s) t l with ⟨_, e⟩ | ⟨k, rfl, hk, hh, e⟩
  · rw [e]
  · rw [e]
    obtain ⟨g0, H, W, e1, e2, e3, hlg, ecl⟩ := h.gone hh
    show ((s.gone k l).admit l).T.st x = 2 ↔ _
    rw [admit_two ecl hlg g0.wt]
    exact Iff.rfl
end

end Go.Proofs.Ytlplbpilpkmoaaa.sc
