/- A drawn region whose last operation writes what the others read: a condition S on the world serves up to that operation. -/
import Derived.Deep.RegionHeld3
import Derived.Test.YtlplbpilpkmoaaaProg
namespace Go.Proofs.Ytlplbpilpkmoaaa.rh
open Go
set_option linter.unusedVariables false
set_option linter.unusedSimpArgs false
section
variable {P : Program} {ops : Array Oper} {Q : Exit → Act → World → Prop} {md : Region.Mode} {S : World → Prop} {z : Nat}
/-- Whatever order comes; S holds behind each operation but the last one, z. -/
def anyT (P : Program) (md : Region.Mode) (ops : Array Oper) (Q : Exit → Act → World → Prop) (S : World → Prop) (z : Nat) (n : Nat) (done : Array Bool) (a : Act) (w : World) : Prop :=
  match n with
  | 0 => Region.ready md ops done = [] ∧ Q .normal a w
  | n + 1 => (Region.ready md ops done = [] → Q .normal a w) ∧ ∀ i ∈ Region.ready md ops done, wpOp P ops Q i (fun b v => (i = z ∨ S v) ∧ anyT P md ops Q S z n (done.setIfInBounds i true) b v) a w
theorem any_of_T : ∀ (n : Nat) (done : Array Bool) (a : Act) (w : World), anyT P md ops Q S z n done a w → wpAny P md ops Q n done a w
  | 0, _, _, _, h => h
  | n + 1, _, _, _, h => ⟨h.1, fun i hi => wpOp_mono (fun b v k => any_of_T n _ b v k.2) (h.2 i hi)⟩
/-- As long as i has not come, z may not. -/
def Waits (md : Region.Mode) (ops : Array Oper) (z i : Nat) : Bool := match ops[z]? with | some o => o.after.any fun e => Region.binds md e && e.on == i | none => true
theorem waits_not {i : Nat} {done : Array Bool} (h : Waits md ops z i = true) (hd : done.getD i true = false) : z ∉ Region.ready md ops done := by
  intro hz
  obtain ⟨_, o, ho, hall⟩ := mem_ready.1 hz
  unfold Waits at h
  rw [ho] at h
  obtain ⟨e, he, hb⟩ := Array.any_eq_true'.1 h
  simp only [Bool.and_eq_true, beq_iff_eq] at hb
  have h1 := hall e he hb.1
  rw [hb.2] at h1
  rcases Nat.lt_or_ge i done.size with k | k
  · simp [k] at hd h1; rw [hd] at h1; cases h1
  · simp [Array.getElem?_eq_none k] at hd
theorem first_T {i : Nat} {o : Oper} {u : Value} (hi : ops[i]? = some o) (hsel : ∀ (j : Nat) (x : Oper) cs b, ops[j]? = some x → x.op ≠ .select cs b)
    (hQ : ∀ c a w, Q (.panic c) (a.put o.dst u) w → Q (.panic c) a w) (hz : Waits md ops z i = true) :
    ∀ (n : Nat) (done : Array Bool) (a : Act) (w : World), (∀ j x, ops[j]? = some x → j ≠ i → done.getD j true = false → (∀ e ∈ x.after, Region.binds md e = true → e.on ≠ i) → o.apart ops x = true) →
      i ∈ Region.ready md ops done → YieldsIf P ops S o u a → S w → anyT P md ops Q S z n (done.setIfInBounds i true) (a.put o.dst u) w → anyT P md ops Q S z (n + 1) done a w
  | 0, done, a, w, _, hr, hy, hS, H => by
    refine ⟨fun h => (by rw [h] at hr; cases hr), fun j hj => ?_⟩
    by_cases e : j = i
    · subst e; exact hy.wpOp hi hS ⟨.inr hS, H⟩
    · have := ready_mono hj e
      rw [H.1] at this
      cases this
  | n + 1, done, a, w, hf, hr, hy, hS, H => by
    refine ⟨fun h => (by rw [h] at hr; cases hr), fun j hj => ?_⟩
    by_cases e : j = i
    · subst e; exact hy.wpOp hi hS ⟨.inr hS, H⟩
    · have hu := (mem_ready.1 hr).1
      have hjz : j ≠ z := fun e2 => waits_not hz hu (e2 ▸ hj)
      have k1 := H.2 j (ready_mono hj e)
      obtain ⟨hju, x, hx, hall⟩ := mem_ready.1 hj
      have hno : ∀ y ∈ x.after, Region.binds md y = true → y.on ≠ i := fun y hy2 hb e2 => by
        have k2 := hall y hy2 hb
        rw [e2] at k2
        rcases Nat.lt_or_ge i done.size with k | k
        · simp [k] at hu k2; rw [hu] at k2; cases k2
        · simp [Array.getElem?_eq_none k] at hu
      have k3 := wpOp_putIf hx (hf j x hx e hju hno) (fun cs b => hsel i o cs b hi) (fun cs b => hsel j x cs b hx) hQ hy k1
      refine wpOp_mono (fun b v k4 => ⟨k4.2.1, first_T hi hsel hQ hz n (done.setIfInBounds j true) b v (fun m y hm hmi hun hn => ?_) (ready_mono hr (Ne.symm e)) k4.1 (k4.2.1.resolve_left hjz) ?_⟩) k3
      · refine hf m y hm hmi ?_ hn
        by_cases hjm : j = m
        · subst hjm; exact hju
        · rw [getD_set_ne true hjm] at hun; exact hun
      · rw [Array.setIfInBounds_comm _ _ e]
        exact k4.2.2
theorem take_T {i : Nat} {o : Oper} (u : Value) {n : Nat} {done : Array Bool} {a : Act} {w : World} (hi : ops[i]? = some o) (hs : Region.noSelect ops = true) (hf : Region.free md ops done i = true)
    (hr : (Region.ready md ops done).contains i = true) (hz : Waits md ops z i = true) (hQ : ∀ c a w, Q (.panic c) (a.put o.dst u) w → Q (.panic c) a w) (hy : YieldsIf P ops S o u a) (hS : S w)
    (h : anyT P md ops Q S z n (done.setIfInBounds i true) (a.put o.dst u) w) : anyT P md ops Q S z (n + 1) done a w :=
  first_T hi (Region.noSelect_spec hs) hQ hz n done a w (Region.free_spec hi hf) (by simpa using hr) hy hS h
theorem step_T {i : Nat} {o : Oper} {n : Nat} {done : Array Bool} {a : Act} {w : World} (hr : Region.ready md ops done = [i]) (ho : ops[i]? = some o)
    (h : ∀ K : Act → World → Prop, Shut (∀ b v, (i = z ∨ S v) → anyT P md ops Q S z n (done.setIfInBounds i true) b v → K b v) → if Region.wanted o (yielded ops a.tmps) = true then Oper.wp P o a w K Q else K (a.put o.dst undef) w) :
    anyT P md ops Q S z (n + 1) done a w :=
  ⟨fun e => (by rw [hr] at e; cases e), fun j hj => by
    rw [hr] at hj
    obtain rfl : j = i := by simpa using hj
    exact wpOp_step ho fun K hK => h K fun b v h1 h2 => hK b v ⟨h1, h2⟩⟩
theorem done_T {done : Array Bool} {a : Act} {w : World} (hr : Region.ready md ops done = []) (h : Q .normal a w) : anyT P md ops Q S z 0 done a w := ⟨hr, h⟩
theorem region_T {id : Nat} {a : Act} {w : World} (hm : P.follows .mixedOrders = true) (h : anyT P .any ops Q S z ops.size (Array.replicate ops.size false) a w.drew) : (Code.region id ops true).wp P Q a w :=
  wp_region_any hm (any_of_T _ _ _ _ h)
end

end Go.Proofs.Ytlplbpilpkmoaaa.rh
