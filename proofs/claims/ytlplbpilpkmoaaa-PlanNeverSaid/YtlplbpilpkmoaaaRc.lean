/- What a lock taken and given back leaves; who is let in: the mathematics. -/
import Derived.Test.YtlplbpilpkmoaaaRb
namespace Go.Proofs.Ytlplbpilpkmoaaa.sc
open Go.RowKit Go.Shelf
set_option linter.unusedVariables false
set_option linter.unusedSimpArgs false

theorem split_tells {s : Sd} {l : Int} {H W : List Cl} (e1 : s.cl l = H ++ W) (hh : ∀ c ∈ H, c.held = true) (hw : ∀ c ∈ W, c.held = false) : s.heldL l = H ∧ s.queue l = W.map (·.task) := by
  constructor
  · unfold Sd.heldL
    have a1 : H.filter (fun c => c.held) = H := List.filter_eq_self.2 hh
    have a2 : W.filter (fun c => c.held) = [] := List.filter_eq_nil_iff.2 (fun c hc => by simp [hw c hc])
    rw [e1, List.filter_append, a1, a2, List.append_nil]
  · unfold Sd.queue
    have a1 : H.filter (fun c => !c.held) = [] := List.filter_eq_nil_iff.2 (fun c hc => by simp [hh c hc])
    have a2 : W.filter (fun c => !c.held) = W := List.filter_eq_self.2 (fun c hc => by simp [hw c hc])
    rw [e1, List.filter_append, a1, a2, List.nil_append]
/-- What can't be let in stays. -/
theorem adm_bar {H W : List Cl} {c : Cl} {T : Tk} (hh : ∀ c ∈ H, c.held = true) (hw : ∀ d ∈ W, d.held = false) (hb : bar H W) (hc : c.held = false) (hx : W ≠ [] ∨ fitsB H c = false) : adm [] (H ++ (W ++ [c])) T = (H ++ (W ++ [c]), T) := by
  rw [adm_pass _ _ _ _ hh, List.nil_append]
  cases W with
  | nil =>
    rcases hx with h | h
    · exact absurd rfl h
    · rw [List.nil_append, adm_no hc h]
  | cons d r => rw [List.cons_append, adm_no (hw d (by simp)) (hb d r rfl)]
theorem at_put {s s' : Sd} {k : Nat} (hn : s'.n = s.n) (hst : ∀ x, s'.T.st x = if x = k then 1 else s.T.st x) : s'.at_ 0 = (s.at_ 0).filter fun j => !decide (j = k) := by
  unfold Sd.at_
  rw [hn, List.filter_filter]
  refine List.filter_congr fun x _ => ?_
  rw [hst]
  by_cases e : x = k <;> simp [e]
theorem at_mem {s : Sd} {what k : Nat} : k ∈ s.at_ what ↔ k < s.n ∧ s.T.st k = what := by unfold Sd.at_; simp
theorem at_nd (s : Sd) (what : Nat) : (s.at_ what).Nodup := List.nodup_range.filter _
theorem at_same {s s' : Sd} (hn : s'.n = s.n) (hst : ∀ x, s'.T.st x = s.T.st x) (what : Nat) : s'.at_ what = s.at_ what := by
  unfold Sd.at_
  rw [hn]
  exact List.filter_congr fun x _ => by rw [hst]
def BackE (s : Sd) (t l : Int) (w : Bool) : Prop :=
  ((s.lock t l w).2.1 ≠ 0 ∧ (s.lock t l w).1 = false ∧ (s.lock t l w).2.2 = s) ∨
  ((s.lock t l w).2.1 = 0 ∧ (s.lock t l w).1 = false ∧ ∃ k : Nat, t = (k : Int) ∧ (s.lock t l w).2.2.queue l = s.queue l ++ [k] ∧ ((s.lock t l w).2.2.at_ 0).length + 1 = (s.at_ 0).length) ∨
  ((s.lock t l w).2.1 = 0 ∧ (s.lock t l w).1 = true ∧ ((s.lock t l w).2.2.unlock t l).1 = 0 ∧ (∀ what, ((s.lock t l w).2.2.unlock t l).2.at_ what = s.at_ what) ∧ ((s.lock t l w).2.2.unlock t l).2.heldL l = s.heldL l ∧ ((s.lock t l w).2.2.unlock t l).2.queue l = s.queue l)
theorem lock_back {s : Sd} (h : Good s) (t l : Int) (w : Bool) : BackE s t l w := by
  rcases lock_cases h t l w with e | ⟨k, rfl, hk, hst, hh, e⟩
  · exact .inl e
  right
  obtain ⟨g0, H, W, e1, e2, e3, hlg, ecl⟩ := h.come (w := w) hk hst hh
  obtain ⟨q1, q2⟩ := split_tells e1 e2.held e2.wait
  have hst2 : ∀ x, (s.come k l w).T.st x = if x = k then 1 else s.T.st x := fun x => rfl
  by_cases hx : W ≠ [] ∨ fitsB H ⟨k, w, false⟩ = false
  · left
    have ha : adm [] ((s.come k l w).cl l) (s.come k l w).T = (H ++ (W ++ [⟨k, w, false⟩]), (s.come k l w).T) := by rw [ecl]; exact adm_bar e2.held e2.wait e3 rfl hx
    have hT : ((s.come k l w).admit l).T = (s.come k l w).T := by unfold Sd.admit; dsimp only; rw [ha]
    have hc : ((s.come k l w).admit l).cl l = H ++ (W ++ [⟨k, w, false⟩]) := by unfold Sd.admit; dsimp only; rw [upc_self, ha]
    obtain ⟨_, q4⟩ := split_tells hc hlg.held hlg.wait
    have hd : decide (((s.come k l w).admit l).T.st k = 0) = false := by rw [hT, hst2]; simp
    rw [e, hd]
    refine ⟨rfl, rfl, k, rfl, ?_, ?_⟩
    · show ((s.come k l w).admit l).queue l = _
      rw [q4, q2, List.map_append]; rfl
    · show (((s.come k l w).admit l).at_ 0).length + 1 = _
      rw [at_put (s := s) (s' := (s.come k l w).admit l) (k := k) rfl (fun x => by rw [hT, hst2]), off_len (at_nd s 0) (at_mem.2 ⟨hk, hst⟩)]
      have : 0 < (s.at_ 0).length := List.length_pos_of_mem (at_mem.2 ⟨hk, hst⟩)
      omega
  · right
    rw [not_or] at hx
    have hW : W = [] := Classical.byContradiction hx.1
    subst hW
    have hf : fitsB H ⟨k, w, false⟩ = true := by simpa using hx.2
    have ha : adm [] ((s.come k l w).cl l) (s.come k l w).T = (H ++ [⟨k, w, true⟩], ((s.come k l w).T.add k 1).put k 0) := by
      rw [ecl, adm_pass _ _ _ _ e2.held, List.nil_append, List.nil_append, adm_fit rfl hf]; rfl
    have hT : ((s.come k l w).admit l).T = ((s.come k l w).T.add k 1).put k 0 := by unfold Sd.admit; dsimp only; rw [ha]
    have hc : ((s.come k l w).admit l).cl l = H ++ [⟨k, w, true⟩] := by unfold Sd.admit; dsimp only; rw [upc_self, ha]
    have hs : ∀ x, ((s.come k l w).admit l).T.st x = s.T.st x := fun x => by
      rw [hT]
      show (if x = k then 0 else (s.come k l w).T.st x) = _
      rw [hst2]
      by_cases ex : x = k <;> simp [ex, hst]
    have hd : decide (((s.come k l w).admit l).T.st k = 0) = true := by rw [hs, hst]; simp
    rw [e, hd]
    dsimp only
    generalize hs1 : (s.come k l w).admit l = s1 at *
    have hn1 : s1.n = s.n := by rw [← hs1]; rfl
    have hh1 : s1.has k l = true := has_iff.2 ⟨⟨k, w, true⟩, by rw [hc]; simp, rfl, rfl⟩
    have hu : s1.unlock k l = (0, (s1.gone k l).admit l) := by
      unfold Sd.unlock
      rw [if_pos (ok_of (by rw [hn1]; exact hk)), if_pos (by simpa using hh1)]
      rfl
    have hnd := hlg.nd
    have hHk : H.filter (fun c => !decide (c.task = k)) = H := List.filter_eq_self.2 fun c hcc => by
      have : c.task ≠ k := fun e5 => by
        rw [List.nil_append, List.map_append] at hnd
        exact nd_apart hnd (List.mem_map.2 ⟨c, hcc, e5⟩) (by simp)
      simp [this]
    have hgc : (s1.gone k l).cl l = H := by
      unfold Sd.gone; dsimp only
      rw [upc_self, hc, List.filter_append, hHk]
      simp
    have ha2 : adm [] ((s1.gone k l).cl l) (s1.gone k l).T = (H, (s1.gone k l).T) := by
      rw [hgc]
      have := adm_pass H [] [] (s1.gone k l).T e2.held
      rw [List.append_nil] at this
      rw [this]; simp [adm]
    rw [hu]
    dsimp only
    have hc3 : ((s1.gone k l).admit l).cl l = H ++ [] := by unfold Sd.admit; dsimp only; rw [upc_self, ha2, List.append_nil]
    obtain ⟨q5, q6⟩ := split_tells hc3 e2.held (fun c h => by simp at h)
    refine ⟨rfl, rfl, rfl, fun what => at_same (by exact hn1) (fun x => ?_) what, by rw [q5, q1], by rw [q6, q2]⟩
    show (adm [] ((s1.gone k l).cl l) (s1.gone k l).T).2.st x = s.T.st x
    rw [ha2]
    exact hs x

theorem bar_some {H W : List Cl} (h : bar H W) (hW : W.map (·.task) ≠ []) : H ≠ [] := by
  cases W with
  | nil => exact absurd rfl hW
  | cons c r =>
    intro e
    have := h c r rfl
    rw [e] at this
    cases this
end Go.Proofs.Ytlplbpilpkmoaaa.sc
