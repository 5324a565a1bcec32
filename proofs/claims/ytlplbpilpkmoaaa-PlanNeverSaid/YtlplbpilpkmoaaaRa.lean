/- Readers alone: the mathematics. -/
import Derived.Test.YtlplbpilpkmoaaaMn
import Derived.Test.YtlplbpilpkmoaaaMj
namespace Go.Proofs.Ytlplbpilpkmoaaa.sc
open Go.RowKit Go.Shelf
set_option linter.unusedVariables false
set_option linter.unusedSimpArgs false

theorem adm_pass : ∀ (H pre r : List Cl) (T : Tk), (∀ c ∈ H, c.held = true) → adm pre (H ++ r) T = adm (pre ++ H) r T
  | [], pre, r, T, _ => by simp
  | c :: H, pre, r, T, h => by
    rw [List.cons_append, adm_held (h c (by simp)), adm_pass H _ r T (fun d hd => h d (by simp [hd]))]
    simp
def rd (k : Nat) : Cl := ⟨k, false, true⟩
structure RS (s : Sd) (n : Nat) (H : List Nat) : Prop where
  num : s.n = n
  cl : s.cl 5 = H.map rd
  st : ∀ k, s.T.st k = 0
  nd : H.Nodup
  lt : ∀ k ∈ H, k < n
theorem RS.new (n : Nat) : RS (Sd.new n) n [] := ⟨rfl, rfl, fun _ => rfl, List.nodup_nil, fun k h => by simp at h⟩
theorem rd_held (H : List Nat) : ∀ c ∈ H.map rd, c.held = true := fun c hc => by
  obtain ⟨k, _, rfl⟩ := List.mem_map.1 hc; rfl
theorem rd_fits (H : List Nat) (t : Nat) : fitsB (H.map rd) ⟨t, false, false⟩ = true := by
  cases H with
  | nil => rfl
  | cons a r => rfl
section
variable {s : Sd} {n : Nat} {H : List Nat}
theorem RS.has (h : RS s n H) (t : Nat) : s.has t 5 = decide (t ∈ H) := by
  unfold Sd.has
  rw [h.cl, List.any_map]
  rw [Bool.eq_iff_iff, List.any_eq_true]
  constructor
  · rintro ⟨x, h1, h2⟩
    have : x = t := by have h3 : (decide (x = t) && true) = true := h2; simpa using h3
    subst this; simpa using h1
  · intro h1
    exact ⟨t, by simpa using h1, by simp [rd]⟩
theorem RS.lock (h : RS s n H) {t : Nat} (ht : t < n) (hn : t ∉ H) : (s.lock (t : Int) 5 false).1 = true ∧ (s.lock (t : Int) 5 false).2.1 = 0 ∧ RS (s.lock (t : Int) 5 false).2.2 n (H ++ [t]) := by
  have hs : s.lock (t : Int) 5 false = (decide (((s.come t 5 false).admit 5).T.st t = 0), 0, (s.come t 5 false).admit 5) := by
    unfold Sd.lock
    rw [if_pos ⟨ok_of (by rw [h.num]; exact ht), by simpa using h.st t⟩, if_neg (by rw [show (t : Int).toNat = t from rfl, h.has]; simpa using hn)]
    rfl
  have hc : (s.come t 5 false).cl 5 = H.map rd ++ [⟨t, false, false⟩] := by
    unfold Sd.come
    dsimp only
    rw [upc_self, h.cl]
  have ha : adm [] ((s.come t 5 false).cl 5) (s.come t 5 false).T = (H.map rd ++ [rd t], (((s.T.put t 1).add t 1).put t 0)) := by
    rw [hc, adm_pass _ _ _ _ (rd_held H), List.nil_append, adm_fit rfl (rd_fits H t)]
    rfl
  have hT : ((s.come t 5 false).admit 5).T = ((s.T.put t 1).add t 1).put t 0 := by unfold Sd.admit; rw [ha]
  have hst : ∀ k, ((s.come t 5 false).admit 5).T.st k = 0 := fun k => by
    rw [hT]
    have := h.st k
    by_cases e : k = t <;> simp [Tk.put, Tk.add, e, this]
  rw [hs]
  refine ⟨by simpa using hst t, rfl, ⟨h.num, ?_, hst, ?_, ?_⟩⟩
  · show upc (s.come t 5 false).cl 5 (adm [] ((s.come t 5 false).cl 5) (s.come t 5 false).T).1 5 = _
    rw [upc_self, ha]
    simp
  · rw [List.nodup_append]
    exact ⟨h.nd, by simp, fun a h1 b hb e => by simp at hb; subst hb; subst e; exact hn h1⟩
  · intro k hk
    rcases List.mem_append.1 hk with h1 | h1
    · exact h.lt k h1
    · simp at h1; subst h1; exact ht
theorem RS.unlock (h : RS s n H) {t : Nat} (hn : t ∈ H) : (s.unlock (t : Int) 5).1 = 0 ∧ RS (s.unlock (t : Int) 5).2 n (H.filter fun k => !decide (k = t)) := by
  have hs : s.unlock (t : Int) 5 = (0, (s.gone t 5).admit 5) := by
    unfold Sd.unlock
    rw [if_pos (ok_of (by rw [h.num]; exact h.lt t hn)), if_pos (by rw [show (t : Int).toNat = t from rfl, h.has]; simpa using hn)]
    rfl
  have hc : (s.gone t 5).cl 5 = (H.filter fun k => !decide (k = t)).map rd := by
    unfold Sd.gone
    dsimp only
    rw [upc_self, h.cl, List.filter_map]
    rfl
  have ha : adm [] ((s.gone t 5).cl 5) (s.gone t 5).T = ((H.filter fun k => !decide (k = t)).map rd, (s.gone t 5).T) := by
    rw [hc, ← List.append_nil ((H.filter fun k => !decide (k = t)).map rd), adm_pass _ _ _ _ (rd_held _), adm]
    simp
  rw [hs]
  refine ⟨rfl, ⟨h.num, ?_, ?_, h.nd.filter _, fun k hk => h.lt k (List.mem_filter.1 hk).1⟩⟩
  · show upc (s.gone t 5).cl 5 (adm [] ((s.gone t 5).cl 5) (s.gone t 5).T).1 5 = _
    rw [upc_self, ha]
  · intro k
    show (adm [] ((s.gone t 5).cl 5) (s.gone t 5).T).2.st k = 0
    rw [ha]
    exact h.st k
end
/-- The keys of a list, all with one value. -/
def inL (L : List Nat) (v : Value) : Int → Option Value := fun a => if ∃ k ∈ L, a = ((k : Nat) : Int) then some v else none
theorem inL_is {L : List Nat} {v : Value} {k : Nat} : inL L v (k : Int) = if k ∈ L then some v else none := by
  unfold inL
  by_cases h : k ∈ L
  · rw [if_pos ⟨k, h, rfl⟩, if_pos h]
  · rw [if_neg (fun ⟨j, h1, h2⟩ => h ((show k = j by omega) ▸ h1)), if_neg h]
theorem inL_snoc {L : List Nat} {v : Value} {k : Nat} : ups (inL L v) k v = inL (L ++ [k]) v := by
  funext a
  unfold ups inL
  by_cases h : a = (k : Int)
  · rw [if_pos h, if_pos ⟨k, by simp, h⟩]
  · rw [if_neg h]
    have : (∃ j ∈ L, a = ((j : Nat) : Int)) ↔ ∃ j ∈ L ++ [k], a = ((j : Nat) : Int) := by
      constructor
      · rintro ⟨j, h1, h2⟩; exact ⟨j, by simp [h1], h2⟩
      · rintro ⟨j, h1, h2⟩
        rcases List.mem_append.1 h1 with h3 | h3
        · exact ⟨j, h3, h2⟩
        · simp at h3; subst h3; exact absurd h2 h
    by_cases h2 : ∃ j ∈ L, a = ((j : Nat) : Int)
    · rw [if_pos h2, if_pos (this.1 h2)]
    · rw [if_neg h2, if_neg (fun e => h2 (this.2 e))]
theorem inL_off {L : List Nat} {v : Value} {k : Nat} : uno (inL L v) k = inL (L.filter fun j => !decide (j = k)) v := by
  funext a
  unfold uno inL
  by_cases h : a = (k : Int)
  · rw [if_pos h, if_neg]
    rintro ⟨j, h1, h2⟩
    have h3 := (List.mem_filter.1 h1).2
    have : j = k := by omega
    simp [this] at h3
  · rw [if_neg h]
    have : (∃ j ∈ L, a = ((j : Nat) : Int)) ↔ ∃ j ∈ L.filter (fun j => !decide (j = k)), a = ((j : Nat) : Int) := by
      constructor
      · rintro ⟨j, h1, h2⟩; exact ⟨j, List.mem_filter.2 ⟨h1, by simp; intro e; subst e; exact h h2⟩, h2⟩
      · rintro ⟨j, h1, h2⟩; exact ⟨j, (List.mem_filter.1 h1).1, h2⟩
    by_cases h2 : ∃ j ∈ L, a = ((j : Nat) : Int)
    · rw [if_pos h2, if_pos (this.1 h2)]
    · rw [if_neg h2, if_neg (fun e => h2 (this.2 e))]
theorem off_len {L : List Nat} {k : Nat} (hd : L.Nodup) (hk : k ∈ L) : (L.filter fun j => !decide (j = k)).length = L.length - 1 := by
  have h1 := List.length_erase_of_mem hk
  rw [hd.erase_eq_filter] at h1
  rw [← h1]
  refine congrArg List.length (List.filter_congr fun x _ => ?_)
  by_cases h : x = k <;> simp [h]

end Go.Proofs.Ytlplbpilpkmoaaa.sc
