/- The heap of wants; what 'Order' keeps by it: the mathematics; a map's lookup with 'ok'. -/
import Derived.Test.YtlplbpilpkmoaaaQc
import Derived.Test.YtlplbpilpkmoaaaHq
import Derived.Test.YtlplbpilpkmoaaaMd
namespace Go.Proofs.Ytlplbpilpkmoaaa.pl
open Go.RowKit
set_option linter.unusedVariables false
set_option linter.unusedSimpArgs false

theorem lt_wlt {x y : Wt} : hp.lt x y ↔ wlt x y := hp.lt_iff
theorem heap_push {xs : Array Wt} {n : Nat} (h : hp.Ok xs xs.size 0) (hn : n = xs.size) (x : Wt) :
    hp.Ok (hp.up (xs.push x) n) (hp.up (xs.push x) n).size 0 ∧ (hp.up (xs.push x) n).toList.Perm (xs.toList ++ [x]) ∧ (hp.up (xs.push x) n).size = n + 1 := by
  subst hn
  have hg : ∀ i, i < xs.size → hp.g (xs.push x) i = hp.g xs i := fun i hi => by
    rw [hp.g_get hi, hp.g_get (by simp; omega), Array.getElem_push_lt hi]
  obtain ⟨r1, r2, r3⟩ := hp.up_ok (xs.push x) (xs.size + 1) xs.size (by simp) (by omega)
    (fun i hi h0 hne => by rw [hg i (by omega), hg _ (by omega)]; exact h i (by omega) h0 (by omega)) (fun i hi h0 h1 h2 => by omega)
  have hsz : (hp.up (xs.push x) xs.size).size = xs.size + 1 := by rw [r3]; simp
  exact ⟨by rw [hsz]; exact r1, by rw [Array.toList_push] at r2; exact r2, hsz⟩
theorem heap_pop {xs zs : Array Wt} {n : Nat} (h : hp.Ok xs xs.size 0) (hn : xs.size = n + 1) (hz : hp.down (hp.swp xs 0 n) 0 n = zs) :
    hp.Ok zs.pop zs.pop.size 0 ∧ zs.pop.size = n ∧ (hp.g zs n :: zs.pop.toList).Perm xs.toList ∧ ∀ y ∈ xs.toList, ¬ wlt y (hp.g zs n) := by
  have h0 : 0 < xs.size := by omega
  have hl : n < xs.size := by omega
  have G := hp.g_swp h0 hl
  have hsz := hp.size_swp xs 0 n
  have hpm := hp.swp_perm h0 hl
  obtain ⟨r1, r2, r3, r4⟩ := hp.down_ok (hp.swp xs 0 n) n 0 0 (by rw [hsz]; omega) (fun k hk h0 h1 h2 => by
    rw [G, G, if_neg (by omega), if_neg (by omega), if_neg (by omega), if_neg h2]
    exact h k (by omega) h0 (by omega)) (fun k hk h0 h1 h2 => by omega)
  have r5 := r4 n (Nat.le_refl _)
  rw [G, if_pos rfl] at r5
  rw [hsz] at r3
  rw [hz] at *
  have hg : ∀ k, k < n → hp.g zs.pop k = hp.g zs k := fun k hk => by
    rw [hp.g_get (by simp; omega), hp.g_get (by omega)]; simp
  have hps : zs.pop.size = n := by simp [r3]; omega
  refine ⟨by rw [hps]; exact fun k hk h0 h1 => by rw [hg k hk, hg _ (by omega)]; exact r1 k hk h0 h1, hps, ?_, fun y hy => ?_⟩
  · have e : zs.toList = zs.pop.toList ++ [hp.g zs n] := by
      rw [hp.g_get (by omega)]
      apply List.ext_getElem
      · simp; omega
      · intro k h1 h2
        rw [List.getElem_append]
        split
        · simp
        · rename_i hk
          simp at h1 hk
          have : k = n := by omega
          subst this
          simp
    have e2 : (hp.g zs n :: zs.pop.toList).Perm zs.toList := by rw [e]; exact (List.perm_append_comm (l₁ := [_])).trans (List.Perm.refl _)
    exact e2.trans (r2.trans hpm)
  · obtain ⟨k, hk, e⟩ := List.getElem_of_mem hy
    have hk' : k < xs.size := by simpa using hk
    have hm := hp.ok_min h k hk'
    rw [hp.g_get hk', show xs[k] = y by simpa using e, ← r5] at hm
    exact fun hw => hm (lt_wlt.2 hw)
/-- What 'Order' has done when the wants of xs are still in the heap. -/
structure Od (l : List Wt) (xs : Array Wt) (o : List Wt) (f : Int → Option Value) : Prop where
  perm : ∃ P : List Wt, (P ++ xs.toList).Perm l ∧ Summ P o
  rise : o.Pairwise wlt
  ok : hp.Ok xs xs.size 0
  low : ∀ x ∈ o, ∀ y ∈ xs.toList, ¬ wlt y x
  pl : ∀ a v, f a = some v → ∃ j : Nat, j < o.length ∧ v = .int .i64 (j : Int) ∧ (gw o j).n = a
  pn : ∀ j, j < o.length → f (gw o j).n ≠ none
  len : o.length + xs.size ≤ l.length
section
variable {l o : List Wt} {xs zs : Array Wt} {f : Int → Option Value} {n : Nat}
theorem Od.start (h : hp.Ok xs xs.size 0) (hp : xs.toList.Perm l) : Od l xs [] (fun _ => none) :=
  ⟨⟨[], by simpa using hp, summ_nil⟩, .nil, h, fun x hx => by simp at hx, fun a v h => (nomatch h), fun j hj => by simp at hj, by have := hp.length_eq; simp at this ⊢; omega⟩
theorem Od.ends (h : Od l xs o f) (h0 : xs.size = 0) : IsOrd l o := by
  obtain ⟨P, hp, hs⟩ := h.perm
  have : xs = #[] := Array.eq_empty_of_size_eq_zero h0
  subst this
  exact ⟨hs.cong (fun x => by rw [← hp.mem_iff]; simp) (fun _ => Iff.rfl), h.rise⟩
theorem Od.mem (h : Od l xs o f) {x : Wt} (hx : x ∈ xs.toList) : x ∈ l := by
  obtain ⟨P, hp, hs⟩ := h.perm
  exact hp.mem_iff.1 (by simp [hx])
theorem ups_same (f : Int → Option Value) (a : Int) (v : Value) : sc.ups f a v a = some v := by simp [sc.ups]
theorem ups_other {f : Int → Option Value} {a b : Int} (v : Value) (h : b ≠ a) : sc.ups f a v b = f b := by simp [sc.ups, h]
theorem Od.new (h : Od l xs o f) (hn : xs.size = n + 1) (hz : hp.down (hp.swp xs 0 n) 0 n = zs) (hf : f (hp.g zs n).n = none) :
    Od l zs.pop (o ++ [hp.g zs n]) (sc.ups f (hp.g zs n).n (.int .i64 (o.length : Int))) := by
  obtain ⟨h1, h2, h3, h4⟩ := heap_pop h.ok hn hz
  generalize hp.g zs n = x at *
  obtain ⟨P, hp, hs⟩ := h.perm
  have hno : ∀ y ∈ o, y.n ≠ x.n := fun y hy e => by
    obtain ⟨j, hj, rfl⟩ := mem_gw hy
    exact h.pn j hj (by rw [e]; exact hf)
  have hxm : x ∈ xs.toList := h3.mem_iff.1 (by simp)
  refine ⟨⟨P ++ [x], ?_, hs.more x hno⟩, ?_, h1, fun u hu v hv => ?_, fun a v hv => ?_, fun j hj => ?_, ?_⟩
  · refine List.Perm.trans ?_ hp
    rw [List.append_assoc]
    exact h3.append_left P
  · refine List.pairwise_append.2 ⟨h.rise, by simp, fun u hu v hv => ?_⟩
    rw [List.mem_singleton.1 hv]
    rcases wlt_tri (h.low u hu x hxm) with h5 | ⟨_, h5⟩
    · exact h5
    · exact absurd h5.symm (hno u hu)
  · have hvx : v ∈ xs.toList := h3.mem_iff.1 (List.mem_cons_of_mem _ hv)
    rcases List.mem_append.1 hu with hu | hu
    · exact h.low u hu v hvx
    · rw [List.mem_singleton.1 hu]; exact h4 v hvx
  · by_cases e : a = x.n
    · subst e
      rw [ups_same] at hv
      injection hv with hv
      exact ⟨o.length, by simp, hv.symm, by rw [gw_push]⟩
    · rw [ups_other _ e] at hv
      obtain ⟨j, hj, h5, h6⟩ := h.pl a v hv
      exact ⟨j, by simp; omega, h5, by rw [gw_old _ _ hj]; exact h6⟩
  · rw [List.length_append, List.length_singleton] at hj
    by_cases e : j = o.length
    · subst e; rw [gw_push, ups_same]; simp
    · rw [gw_old _ _ (by omega), ups_other _ (hno _ (gw_mem (by omega)))]
      exact h.pn j (by omega)
  · have := h.len; rw [List.length_append, List.length_singleton]; omega
theorem Od.old (h : Od l xs o f) (hn : xs.size = n + 1) (hz : hp.down (hp.swp xs 0 n) 0 n = zs) {j : Nat} (hj : j < o.length) (hjn : (gw o j).n = (hp.g zs n).n) :
    Od l zs.pop (o.set j ((gw o j).wr ((gw o j).w || (hp.g zs n).w))) f := by
  obtain ⟨h1, h2, h3, h4⟩ := heap_pop h.ok hn hz
  generalize hp.g zs n = x at *
  obtain ⟨P, hp, hs⟩ := h.perm
  have hxm : x ∈ xs.toList := h3.mem_iff.1 (by simp)
  have hle : ¬ x.d < (gw o j).d := fun hd => h.low _ (gw_mem hj) x hxm (by unfold wlt; exact .inl hd)
  obtain ⟨y, hy⟩ : ∃ y, (gw o j).wr ((gw o j).w || x.w) = y := ⟨_, rfl⟩
  have hyd : y.d = (gw o j).d := by rw [← hy]; rfl
  have hyn : y.n = (gw o j).n := by rw [← hy]; rfl
  have hyw : y.w = ((gw o j).w || x.w) := by rw [← hy]; rfl
  rw [hy]
  have hd : ∀ k, (gw (o.set j y) k).d = (gw o k).d ∧ (gw (o.set j y) k).n = (gw o k).n := fun k => by
    rw [gw_set hj]
    by_cases e : k = j
    · subst e; rw [if_pos rfl]; exact ⟨hyd, hyn⟩
    · rw [if_neg e]; exact ⟨rfl, rfl⟩
  have hw : ∀ k m, wlt (gw o k) (gw o m) → wlt (gw (o.set j y) k) (gw (o.set j y) m) := fun k m hkm => by
    unfold wlt at hkm ⊢; rw [(hd k).1, (hd k).2, (hd m).1, (hd m).2]; exact hkm
  have hR := List.pairwise_iff_getElem.1 h.rise
  have hnm : ∀ k m, k < m → m < o.length → wlt (gw o k) (gw o m) := fun k m hkm hm => by
    rw [gw_get (by omega), gw_get hm]; exact hR k m (by omega) hm hkm
  refine ⟨⟨P ++ [x], ?_, hs.again (x := gw o j) (x' := y) (gw_mem hj) hjn (hyn.trans hjn) (by rw [if_neg hle]; exact hyd) (by rw [hyw]; simp) fun z => ?_⟩, ?_, h1, fun u hu v hv => ?_, fun a v hv => ?_, fun k hk => ?_, ?_⟩
  · refine List.Perm.trans ?_ hp
    rw [List.append_assoc]
    exact h3.append_left P
  · have hms : ∀ k, k < o.length → gw (o.set j y) k ∈ o.set j y := fun k hk => gw_mem (by rw [List.length_set]; exact hk)
    constructor
    · intro hz2
      obtain ⟨k, hk, rfl⟩ := mem_gw hz2
      rw [List.length_set] at hk
      rw [gw_set hj]
      by_cases ek : k = j
      · rw [if_pos ek]; exact .inl rfl
      · rw [if_neg ek]
        refine .inr ⟨gw_mem hk, fun e => ?_⟩
        have e2 := hs.one hs (gw_mem hk) (gw_mem hj) (e.trans hjn.symm)
        rcases Nat.lt_or_gt_of_ne ek with h5 | h5
        · have := hnm k j h5 hj; rw [e2] at this; exact wlt_irr _ this
        · have := hnm j k h5 hk; rw [e2] at this; exact wlt_irr _ this
    · rintro (rfl | ⟨hz2, hne⟩)
      · have := hms j hj
        rwa [gw_set hj, if_pos rfl] at this
      · obtain ⟨k, hk, rfl⟩ := mem_gw hz2
        have := hms k hk
        rwa [gw_set hj, if_neg (fun ek => hne (by rw [ek, hjn]))] at this
  · refine List.pairwise_iff_getElem.2 fun a b ha hb hab => ?_
    rw [List.length_set] at ha hb
    have := hw a b (hnm a b hab hb)
    rwa [gw_get (by rw [List.length_set]; exact ha), gw_get (by rw [List.length_set]; exact hb)] at this
  · have hvx : v ∈ xs.toList := h3.mem_iff.1 (List.mem_cons_of_mem _ hv)
    obtain ⟨k, hk, rfl⟩ := mem_gw hu
    rw [List.length_set] at hk
    have := h.low _ (gw_mem hk) v hvx
    unfold wlt at this ⊢
    rw [(hd k).1, (hd k).2]; exact this
  · obtain ⟨k, hk, h5, h6⟩ := h.pl a v hv
    exact ⟨k, by rw [List.length_set]; exact hk, h5, by rw [(hd k).2]; exact h6⟩
  · rw [List.length_set] at hk
    rw [(hd k).2]; exact h.pn k hk
  · have := h.len; rw [List.length_set]; omega
end
theorem nodup_len : ∀ (L R : List Int), L.Nodup → (∀ x ∈ L, x ∈ R) → L.length ≤ R.length
  | [], R, _, _ => Nat.zero_le _
  | x :: L, R, h, hs => by
    obtain ⟨h1, h2⟩ := List.nodup_cons.1 h
    have hx := hs x (by simp)
    have ih := nodup_len L (R.erase x) h2 fun y hy => by
      have : y ≠ x := fun e => h1 (e ▸ hy)
      exact (List.mem_erase_of_ne this).2 (hs y (by simp [hy]))
    rw [List.length_erase_of_mem hx] at ih
    have := List.length_pos_of_mem hx
    simp only [List.length_cons]; omega
theorem IsOrd.len {l o : List Wt} (h : IsOrd l o) : o.length ≤ l.length := by
  have hnd : (o.map (·.n)).Nodup := List.pairwise_map.2 (List.pairwise_iff_getElem.2 fun i j hi hj hij e => by have := h.nums hi hj e; omega)
  have := nodup_len _ (l.map (·.n)) hnd fun x hx => by
    obtain ⟨u, hu, rfl⟩ := List.mem_map.1 hx
    obtain ⟨z, hz, e, _⟩ := h.summ.deep u hu
    exact List.mem_map.2 ⟨z, hz, e⟩
  simpa using this
open Go.Maps (int_keyed keyOf_int_mk atKey_of_not_has) in
theorem look2 {w : World} {M n S : Nat} {f : Int → Option Value} {t e : TypeId} (h : sc.MapV w M n S f) (ht : Try.prog.underlying t = some (.map 3 e)) {z : Value} (hz : (zeroValue e).run Try.prog w = .ok z w) {a : Int} (ha : sc.Wf a) :
    (Instr.lookup t (.map (some M)) (.int .i64 a) true).run Try.prog w = .ok (.tuple #[(f a).getD z, .bool (f a).isSome]) w := by
  obtain ⟨D, ⟨es, clock, hb, F, _, rfl⟩, h2, h3, h4, h5⟩ := h
  rcases Go.Maps.fit_look true (int_keyed sc.k3) ht hz hb F (keyOf_int_mk sc.k3 ha) with ⟨hrun, _, hat⟩ | ⟨e0, y, _, _, hrun, hRv, hat, _⟩
  · rw [hrun]
    cases hf : f a with
    | none => rfl
    | some u =>
      have h6 := h4 a u (.map []) hf
      rw [hat] at h6; cases h6
  · rw [hrun]
    unfold sc.RV at hRv
    injection hRv with hRv
    cases hf : f a with
    | none =>
      have h6 := hat (.map [])
      rw [atKey_of_not_has (by rw [h3, hf]; rfl), ← hRv] at h6; cases h6
    | some u =>
      have h6 := h4 a u (.map []) hf
      rw [hat, ← hRv] at h6
      injection h6 with h6
      rw [h6]; rfl
end Go.Proofs.Ytlplbpilpkmoaaa.pl
