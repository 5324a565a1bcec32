/- 'New', 'Busy', 'Lead', 'Result'. -/
import Derived.Test.YtldleojipogcmaaNc
namespace Go.Proofs.Ytldleojipogcmaa.fl
open Go.RowKit
set_option linter.unusedVariables false
set_option linter.unusedSimpArgs false

abbrev FZ : Value := .agg #[.int .i64 0, .slice none 0 0]
theorem zeroF (w : World) : (zeroValue 55).run Try.prog w = .ok FZ w := by kernel_rfl
theorem zeroU (w : World) : (zeroValue 57).run Try.prog w = .ok U0 w := by kernel_rfl
theorem zeroE (w : World) : (zeroValue 28).run Try.prog w = .ok (.int .i64 0) w := by kernel_rfl
def tgN (g : Nat) : Nat → Tag := fun b => if b = g then .fls else if b = g + 1 then .abs else if b = g + 2 then .ress else if b = g + 3 then .box else .no
theorem tgN_no {g b : Nat} (h : tgN g b ≠ .no) : g ≤ b ∧ b ≤ g + 3 := by
  unfold tgN at h
  repeat' split at h
  all_goals first | omega | exact absurd rfl h
theorem new_made {w0 w w1 w2 w3 w4 : World} (hb : Below w0.heap.size w0 w) (h1 : w.alloc (.map #[] 0) = w1) (h2 : w1.alloc (.map #[] 0) = w2) (h3 : w2.alloc (.map #[] 0) = w3) (h4 : w3.alloc (.cells #[.map (some w.heap.size), .map (some (w.heap.size + 1)), .map (some (w.heap.size + 2))] 53) = w4) :
    TX w0 w4 (w.heap.size + 3) w.heap.size (w.heap.size + 1) (w.heap.size + 2) (tgN w.heap.size) (fun _ => none) Fs.new ∧ Below w.heap.size w w4 := by
  have s1 : w1.heap.size = w.heap.size + 1 := by rw [← h1]; simp
  have s2 : w2.heap.size = w.heap.size + 2 := by rw [← h2]; simp [s1]
  have s3 : w3.heap.size = w.heap.size + 3 := by rw [← h3]; simp [s2]
  have s4 : w4.heap.size = w.heap.size + 4 := by rw [← h4]; simp [s3]
  have b1 : Below w.heap.size w w1 := by rw [← h1]; exact below_alloc _ _
  have b2 : Below w1.heap.size w1 w2 := by rw [← h2]; exact below_alloc _ _
  have b3 : Below w2.heap.size w2 w3 := by rw [← h3]; exact below_alloc _ _
  have b4 : Below w3.heap.size w3 w4 := by rw [← h4]; exact below_alloc _ _
  have b24 := below_step b3 b4
  have b14 := below_step b2 b24
  have bw : Below w.heap.size w w4 := below_step b1 b14
  have m1 : MapV w1 w.heap.size 0 0 (fun _ => none) := by have := MapV.made w; rw [h1] at this; exact this
  have m2 : MapV w2 (w.heap.size + 1) 0 0 (fun _ => none) := by have := MapV.made w1; rw [h2, s1] at this; exact this
  have m3 : MapV w3 (w.heap.size + 2) 0 0 (fun _ => none) := by have := MapV.made w2; rw [h3, s2] at this; exact this
  have k4 : w4.heap[w.heap.size + 3]? = some (.cells #[.map (some w.heap.size), .map (some (w.heap.size + 1)), .map (some (w.heap.size + 2))] 53 (0, 0)) := by have := heap_alloc_new w3 (.cells #[.map (some w.heap.size), .map (some (w.heap.size + 1)), .map (some (w.heap.size + 2))] 53); rw [h4, s3] at this; exact this
  refine ⟨⟨fun b hb2 => ?_, below_step hb bw, by simp [tgN], by simp [tgN], by simp [tgN], by simp [tgN], ?_, ?_, ?_, ⟨0, 0, Nat.le_refl _, m1.of_block (b14.block _ (by omega))⟩, ⟨0, 0, Nat.le_refl _, ?_⟩, ⟨0, 0, Nat.le_refl _, ?_⟩, fun k => rfl, fun k l xs e => (nomatch e)⟩, bw⟩
  · have := tgN_no hb2; have := hb.size; omega
  · simp [World.cell?, k4]
  · simp [World.cell?, k4]
  · simp [World.cell?, k4]
  · exact m2.of_block (b24.block _ (by omega))
  · exact m3.of_block (b4.block _ (by omega))
def NewE (w0 w : World) (e : Ending) (w' : World) : Prop := ∃ P, e = .returned (Pq P) ∧ TY w0 w' P (fun b => b < w.heap.size) Fs.new ∧ Below w.heap.size w w'
set_option maxHeartbeats 2000000 in
theorem new_any {w0 w : World} (hb : Below w0.heap.size w0 w) : Calls Try.prog 8 #[] w (NewE w0 w) := by
  have HF := Lib.hid (fun w1 w2 w3 w4 h1 h2 h3 h4 => new_made (w1 := w1) (w2 := w2) (w3 := w3) (w4 := w4) hb h1 h2 h3 h4)
  clear hb
  have hm1 := fun w => @run_makeMap Try.prog 50 w
  have hm2 := fun w => @run_makeMap Try.prog 51 w
  have hm3 := fun w => @run_makeMap Try.prog 27 w
  go_enter Try.func8, Try.ntmps8
  go_wp2_with fail
  go_ret
  exact ⟨w.heap.size + 3, rfl, ⟨_, _, _, _, _, (HF.out _ _ _ _ rfl rfl rfl rfl).1, fun b hb => ⟨Nat.lt_of_lt_of_le hb (HF.out _ _ _ _ rfl rfl rfl rfl).2.size, Classical.byContradiction fun e => by have := tgN_no e; have h2 : b < w.heap.size := hb; omega⟩⟩, (HF.out _ _ _ _ rfl rfl rfl rfl).2⟩
section
variable {w0 w : World} {P A B C : Nat} {tg : Nat → Tag} {f : Int → Option Value} {s : Fs}
theorem abF_some (ab : Int → Bool) (a : Int) : (abF ab a).isSome = ab a ∧ (abF ab a).getD U0 = U0 := by unfold abF; cases ab a <;> exact ⟨rfl, rfl⟩
theorem resF_some (r : Int → Option Int) (a : Int) : (resF r a).isSome = (r a).isSome ∧ (resF r a).getD (.int .i64 0) = .int .i64 ((r a).getD 0) := by unfold resF; cases r a <;> exact ⟨rfl, rfl⟩
theorem FV.some_eq {lo : Nat} {w : World} {tg : Nat → Tag} {k : Int} {v : Option Value} {o : Option (Int × List Int)} (h : FV lo w tg k v o) : v.isSome = o.isSome := by
  cases o with
  | none => rw [show v = none from h]; rfl
  | some p => obtain ⟨l, xs⟩ := p; obtain ⟨sv, h1, _⟩ := h; rw [h1]; rfl
/-- What a lookup of a flight hands back. -/
theorem FV.get {lo : Nat} {w : World} {tg : Nat → Tag} {k : Int} {v : Option Value} {o : Option (Int × List Int)} (h : FV lo w tg k v o) : ∃ sv, v.getD FZ = .agg #[.int .i64 (o.getD (0, [])).1, sv] ∧ OI w lo sv (o.getD (0, [])).2 ∧ ∀ g, sv.ownBlock = some g → tg g = .row k := by
  cases o with
  | none => rw [show v = none from h]; exact ⟨.slice none 0 0, rfl, World.ownsRow_nil _ _ _ _, fun g e => (nomatch e)⟩
  | some p => obtain ⟨l, xs⟩ := p; obtain ⟨sv, h1, h2, h3⟩ := h; exact ⟨sv, by rw [h1]; rfl, h2, h3⟩
theorem TX.lookA (h : TX w0 w P A B C tg f s) {a : Int} (ha : Wf a) : (Instr.lookup 50 (.map (some A)) (.int .i64 a) true).run Try.prog w = .ok (.tuple #[(f a).getD FZ, .bool (s.fl a).isSome]) w := by
  obtain ⟨n, S, _, hm⟩ := h.mA
  have := look2 hm Try.underlying50 (zeroF w) ha
  rw [(h.row a).some_eq] at this
  exact this
theorem TX.lookB (h : TX w0 w P A B C tg f s) {a : Int} (ha : Wf a) : (Instr.lookup 51 (.map (some B)) (.int .i64 a) true).run Try.prog w = .ok (.tuple #[U0, .bool (s.ab a)]) w := by
  obtain ⟨n, S, _, hm⟩ := h.mB
  have := look2 hm Try.underlying51 (zeroU w) ha
  rw [(abF_some s.ab a).1, (abF_some s.ab a).2] at this
  exact this
theorem TX.lookC (h : TX w0 w P A B C tg f s) {a : Int} (ha : Wf a) : (Instr.lookup 27 (.map (some C)) (.int .i64 a) true).run Try.prog w = .ok (.tuple #[.int .i64 ((s.res a).getD 0), .bool (s.res a).isSome]) w := by
  obtain ⟨n, S, _, hm⟩ := h.mC
  have := look2 hm Try.underlying27 (zeroE w) ha
  rw [(resF_some s.res a).1, (resF_some s.res a).2] at this
  exact this
set_option maxHeartbeats 1000000 in
theorem busy_any (h : TX w0 w P A B C tg f s) {a : Int} (ha : Wf a) : Calls Try.prog 12 #[Pq P, .int .i64 a] w (RetB w (s.busy a)) := by
  have p1 := h.p1
  have p2 := h.p2
  have hB := h.lookB ha
  have hb := below_alloc w (.cells #[] 57)
  have h1 := h.below hb
  have q2 := h1.p2
  have hC := h1.lookC ha
  have HF := Lib.hid (show s.busy a = (s.ab a || (s.res a).isSome) from rfl)
  rw [HF.out]
  generalize s.ab a = x at *
  generalize (s.res a).isSome = y at *
  generalize (s.res a).getD 0 = z at *
  clear h h1 ha HF
  go_enter Try.func12, Try.ntmps12
  cases x
  · go_wp2_with fail
    go_ret
    exact ⟨by simp, hb⟩
  · go_wp2_with fail
    go_ret
    exact ⟨by simp, hb⟩
set_option maxHeartbeats 1000000 in
theorem lead_any (h : TX w0 w P A B C tg f s) {a : Int} (ha : Wf a) : Calls Try.prog 14 #[Pq P, .int .i64 a] w (fun e w' => e = .returned (.tuple #[.int .i64 (s.lead a).1, .bool (s.lead a).2]) ∧ Below w.heap.size w w') := by
  have p0 := h.p0
  have hA := h.lookA ha
  obtain ⟨sv, hv, ho, ht⟩ := (h.row a).get
  obtain ⟨Q, c, rfl⟩ := ho.form
  rw [hv] at hA
  have HF := Lib.hid (show s.lead a = (((s.fl a).getD (0, [])).1, (s.fl a).isSome) from rfl)
  rw [HF.out]
  generalize ((s.fl a).getD (0, [])).1 = x at *
  generalize (s.fl a).isSome = y at *
  generalize ((s.fl a).getD (0, [])).2.length = m at *
  have hb := below_alloc w (.cells #[.int .i64 x, .slice Q m c] 55)
  clear h ha HF hv ho ht
  go_enter Try.func14, Try.ntmps14
  go_wp2_with fail
  go_ret2
  exact ⟨rfl, hb⟩
def ResE (w0 w : World) (P A B C : Nat) (tg : Nat → Tag) (f : Int → Option Value) (r : Int × Bool × Fs) (e : Ending) (w' : World) : Prop := e = .returned (.tuple #[.int .i64 r.1, .bool r.2.1]) ∧ TX w0 w' P A B C tg f r.2.2 ∧ Only (fun b => tg b ≠ .no) w w'
theorem resF_uno (r : Int → Option Int) (a : Int) : uno (resF r) a = resF (upf r a none) := by
  funext x; unfold uno resF upf; by_cases e : x = a <;> simp [e]
set_option maxHeartbeats 1000000 in
theorem result_any (h : TX w0 w P A B C tg f s) {a : Int} (ha : Wf a) : Calls Try.prog 11 #[Pq P, .int .i64 a] w (ResE w0 w P A B C tg f (s.result a)) := by
  have p2 := h.p2
  have hC := h.lookC ha
  obtain ⟨n, S, hn, hm⟩ := h.mC
  obtain ⟨w1, hdel, hm1, hg1⟩ := hm.del Try.underlying27 ha 0
  rw [resF_uno] at hm1
  have HF := Lib.hid (show ResE w0 w P A B C tg f (s.result a) (.returned (.tuple #[.int .i64 ((s.res a).getD 0), .bool (s.res a).isSome])) w1 from
    ⟨rfl, h.turnC hg1 hn hm1, Only.of_grown hg1 fun k e => by rw [← Option.some.inj e, h.tC]; simp⟩)
  generalize s.result a = r at *
  generalize (s.res a).isSome = y at *
  generalize (s.res a).getD 0 = z at *
  clear h ha hm hm1 hg1
  go_enter Try.func11, Try.ntmps11
  go_wp2_with fail
  go_ret2
  exact HF.out
end
end Go.Proofs.Ytldleojipogcmaa.fl
