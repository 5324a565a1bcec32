/- 'Keys'. -/
import Derived.Test.YtldleojipogcmaaNd
import Derived.Test.YtldleojipogcmaaNi
namespace Go.Proofs.Ytldleojipogcmaa.fl
open Go.RowKit Go.Maps Go.Sort Go.Shelf
set_option linter.unusedVariables false
set_option linter.unusedSimpArgs false

theorem intKeys_spec {w : World} {M n : Nat} {D : DataW Value} (hown : w.ownsMap Try.prog 3 RV M n D) : (intKeys D).Nodup ∧ ∀ x, x ∈ intKeys D ↔ Maps.has D (.int .i64 x) = true := by
  obtain ⟨es, hD, hpw, _⟩ := hown.entries (int_keyed k3)
  obtain ⟨es', hD', hko⟩ := hown.keysOf
  obtain rfl : es = es' := by rw [hD] at hD'; simpa using hD'
  subst hD
  have hk : ∀ p ∈ es, ∃ x, p.1 = .int .i64 x := fun p hp => by obtain ⟨v, hv⟩ := hko p hp; obtain ⟨x, _, hx, _⟩ := Maps.keyOf_i64 k3 hv; exact ⟨x, hx⟩
  refine ⟨?_, fun x => ?_⟩
  · show (es.map fun p => Go.intOf p.1).Nodup
    refine List.pairwise_map.2 (hpw.imp_of_mem fun {p q} hp' hq' hne e => hne ?_)
    obtain ⟨a, ha⟩ := hk p hp'
    obtain ⟨b, hb⟩ := hk q hq'
    rw [ha, hb] at e ⊢
    exact congrArg _ e
  · rw [has_eq, List.any_eq_true]
    show x ∈ (es.map fun p => Go.intOf p.1) ↔ _
    rw [List.mem_map]
    constructor
    · rintro ⟨p, hp', rfl⟩
      obtain ⟨a, ha⟩ := hk p hp'
      exact ⟨p, hp', by rw [ha]; simp [Lit.sameKey, Go.intOf]⟩
    · rintro ⟨p, hp', hs⟩
      obtain ⟨a, ha⟩ := hk p hp'
      rw [ha] at hs
      exact ⟨p, hp', by rw [ha]; simpa [Lit.sameKey, Go.intOf] using hs⟩
/-- slices.Sort's two contracts, at the fence that asks nothing. -/
theorem sorts18 (m : Nat) : AnyZI.SortsIn Try.prog Try.sorted18_ren Fence.wide m :=
  ⟨fun blk off cap ss W hH hblk hsz => callsIn_wide.2 (Try.slices_Sort_int blk off cap ss W hH hblk hsz),
   fun p cap W => callsIn_wide.2 (Try.slices_Sort_int_none p cap W)⟩
def KeysE (w : World) (p : Int → Bool) (e : Ending) (w' : World) : Prop := ∃ v ks, e = .returned v ∧ ks.Nodup ∧ (∀ k, k ∈ ks ↔ p k = true) ∧ OI w' w.heap.size v ks ∧ Below w.heap.size w w'
section
variable {w0 w : World} {P A B C : Nat} {tg : Nat → Tag} {f : Int → Option Value} {s : Fs}
set_option maxHeartbeats 2000000 in
theorem keys_any (h : TX w0 w P A B C tg f s) (hN : s.N ≤ 1000000) : Calls Try.prog 13 #[Pq P] w (KeysE w fun k => (s.fl k).isSome) := by
  obtain ⟨n, S, hn, D, hown, him, hhas, hat, hS⟩ := h.mA
  have hp0 := h.p0
  have hbl := hown.lt
  have hszD := hown.size_le
  obtain ⟨hnd, hmem⟩ := intKeys_spec hown
  have HM := Lib.hid (show ∀ k, k ∈ intKeys D ↔ (s.fl k).isSome = true from fun k => by rw [hmem, hhas, (h.row k).some_eq])
  have HND := Lib.hid hnd
  refine (callsIn_wide (n := 6)).1 ?_
  have hseq : SeqGives Fence.wide 2 Try.prog 23 #[.pointer (some ⟨w.heap.size, 0, none⟩)] encZ (fun ss => ss.Perm (intKeys D)) (Maps.size D) (w.alloc (.cells #[.map (some A)] 50)) :=
    AnyZI.keys_gives (ρ := Try.keys19_ren) { Try.keys19 with } Fence.wide _ trivial rfl (by omega) w.heap.size A n D _ (by simp) (by simp) (by
      obtain ⟨es, clock, hb, Ft, hs, hD⟩ := hown
      exact ⟨es, clock, (Below.heap_alloc _ _ A hbl).trans hb, Ft, hs, hD⟩)
  have cK : ∀ mb W, CallsIn Fence.wide 5 Try.prog 19 #[.map mb] W fun e w' => e = .returned (.func (.func 23) #[] #[.pointer (some ⟨W.heap.size, 0, none⟩)]) ∧ w' = W.alloc (.cells #[.map mb] 50) := fun mb W => AnyZI.keys_in Try.keys19 Fence.wide 5 trivial rfl mb W
  have cS := AnyZI.sorted_in Try.sorted18 Fence.wide 5 trivial trivial trivial trivial rfl (by omega) (sorts18 _) (enters_of Try.func22 (by kernel_rfl) rfl) 23 #[.pointer (some ⟨w.heap.size, 0, none⟩)] trivial (enters_of Try.func23 (by kernel_rfl) rfl) _ _ (by unfold maxLen; omega) (by omega) _ hseq
  change CallsIn _ _ Try.prog 18 _ _ _ at cS
  have hfK : Fence.wide.fn 19 := trivial
  have hfS : Fence.wide.fn 18 := trivial
  clear h hown him hhas hat hS hmem hnd hseq
  refine callsIn_of_wp Try.func13 rfl trivial ?_ rfl
  simp only [Try.ntmps13, List.size_toArray, List.length_cons, List.length_nil, Nat.reduceAdd, Nat.reduceSub, Array.replicate_succ, Array.replicate_zero, List.push_toArray, List.append_toArray, List.nil_append, List.cons_append]
  gi_wp2_with (first
    | (gi_at_call 19; refine (cK _ _).mono ?_; rintro e w' ⟨rfl, rfl⟩)
    | (gi_at_call 18; refine cS.mono ?_; rintro e w' ⟨v, ss, rfl, hS, hrow, hnil, hb⟩))
  go_ret
  refine ⟨v, ss.mergeSort (fun x y => decide (x ≤ y)), rfl, ?_, fun k => ?_, ?_, ((Below.refl _ w).alloc (Nat.le_refl _) _).trans (hb.mono (by simp))⟩
  · exact ((List.mergeSort_perm ss _).trans hS).nodup_iff.2 HND.out
  · rw [((List.mergeSort_perm ss _).trans hS).mem_iff]; exact HM.out k
  · have := ownsRow_base_a (base' := w.heap.size) hrow (by simp)
    unfold OI encI
    rw [List.length_mergeSort]
    exact this
end
end Go.Proofs.Ytldleojipogcmaa.fl
