/- A table with what it may not touch; 'play', 'same'. -/
import Derived.Test.YtldleojipogcmaaNl
import Derived.Test.YtldleojipogcmaaNs
namespace Go.Proofs.Ytldleojipogcmaa.fl
open Go.RowKit
set_option linter.unusedVariables false
set_option linter.unusedSimpArgs false

section
variable {w0 w w' : World} {P : Nat} {X : Nat → Prop} {s : Fs}
def YJ (w0 w : World) (P : Nat) (X : Nat → Prop) (r : Bool × Int × Fs) (e : Ending) (w' : World) : Prop := e = .returned (.tuple #[.bool r.1, .int .i64 r.2.1]) ∧ TY w0 w' P X r.2.2 ∧ Same X w w'
def YL (w0 w : World) (P : Nat) (X : Nat → Prop) (r : List Int × Int × Fs) (e : Ending) (w' : World) : Prop := ∃ Q c, e = .returned (.tuple #[.slice Q r.1.length c, .int .i64 r.2.1]) ∧ OI w' w0.heap.size (.slice Q r.1.length c) r.1 ∧ TY w0 w' P (fun b => X b ∨ (Value.slice Q r.1.length c).ownBlock = some b) r.2.2 ∧ Same X w w'
def YR (w0 w : World) (P : Nat) (X : Nat → Prop) (r : Int × Bool × Fs) (e : Ending) (w' : World) : Prop := e = .returned (.tuple #[.int .i64 r.1, .bool r.2.1]) ∧ TY w0 w' P X r.2.2 ∧ Same X w w'
theorem y_join (h : TY w0 w P X s) (hN : s.N ≤ 900000) {k who : Int} (hk : Wf k) (hw : Wf who) : Calls Try.prog 9 #[Pq P, .int .i64 k, .int .i64 who] w (YJ w0 w P X (s.join k who)) := by
  obtain ⟨A, B, C, tg, f, h, hx⟩ := h
  refine (join_any h hN hk hw).mono ?_
  rintro e w' ⟨he, tg', f', h', hk⟩
  exact ⟨he, TY.step hx h' hk⟩
theorem y_land (h : TY w0 w P X s) (hN : s.N ≤ 1000) (hK : s.K ≤ 800000) {k who e : Int} (hk : Wf k) : Calls Try.prog 10 #[Pq P, .int .i64 k, .int .i64 who, .int .i64 e] w (YL w0 w P X (s.land k who e)) := by
  obtain ⟨A, B, C, tg, f, h, hx⟩ := h
  refine (land_any h hN hK hk).mono ?_
  rintro e w' ⟨v, f', tg', he, ho, h', hk, hg⟩
  obtain ⟨Q, c, rfl⟩ := ho.form
  refine ⟨Q, c, he, ho, ⟨A, B, C, tg', f', h', fun b hb => ?_⟩, fun b hb => hk.only.block b (hx b hb).1 (by rw [(hx b hb).2]; simp)⟩
  rcases hb with hb | hb
  · exact ⟨Nat.lt_of_lt_of_le (hx b hb).1 hk.only.size, Classical.byContradiction fun e => hk.tag b (hx b hb).1 e (hx b hb).2⟩
  · exact ⟨(ho.olt hb).2, hg b hb⟩
theorem y_result (h : TY w0 w P X s) {who : Int} (hw : Wf who) : Calls Try.prog 11 #[Pq P, .int .i64 who] w (YR w0 w P X (s.result who)) := by
  obtain ⟨A, B, C, tg, f, h, hx⟩ := h
  refine (result_any h hw).mono ?_
  rintro e w' ⟨he, h', hk⟩
  exact ⟨he, TY.step hx h' (.of_only hk)⟩
theorem y_busy (h : TY w0 w P X s) {who : Int} (hw : Wf who) : Calls Try.prog 12 #[Pq P, .int .i64 who] w (RetB w (s.busy who)) := by obtain ⟨A, B, C, tg, f, h, hx⟩ := h; exact busy_any h hw
theorem y_lead (h : TY w0 w P X s) {k : Int} (hk : Wf k) : Calls Try.prog 14 #[Pq P, .int .i64 k] w (fun e w' => e = .returned (.tuple #[.int .i64 (s.lead k).1, .bool (s.lead k).2]) ∧ Below w.heap.size w w') := by obtain ⟨A, B, C, tg, f, h, hx⟩ := h; exact lead_any h hk
theorem y_joined (h : TY w0 w P X s) (hN : s.N ≤ 1000000) {k : Int} (hk : Wf k) : Calls Try.prog 16 #[Pq P, .int .i64 k] w (RetI w (s.joined k)) := by obtain ⟨A, B, C, tg, f, h, hx⟩ := h; exact joined_any h hN hk
theorem y_keys (h : TY w0 w P X s) (hN : s.N ≤ 1000000) : Calls Try.prog 13 #[Pq P] w (KeysE w fun k => (s.fl k).isSome) := by obtain ⟨A, B, C, tg, f, h, hx⟩ := h; exact keys_any h hN
theorem TY.few (h : TY w0 w P X s) (k : Int) : (s.joined k).length ≤ s.N := by obtain ⟨A, B, C, tg, f, h, hx⟩ := h; exact h.few k
end
theorem join_N (s : Fs) (k who : Int) : (s.join k who).2.2.N ≤ s.N + 1 ∧ (s.join k who).2.2.K = s.K := by
  unfold Fs.join
  split
  · exact ⟨Nat.le_succ _, rfl⟩
  · exact ⟨Nat.le_refl _, rfl⟩
theorem land_N {s : Fs} {k : Int} (h : (s.joined k).length ≤ s.N) (who e : Int) : (s.land k who e).2.2.N = s.N ∧ (s.land k who e).2.2.K ≤ s.K + s.N := by
  unfold Fs.joined at h
  unfold Fs.land
  cases hf : s.fl k with
  | none => exact ⟨rfl, Nat.le_add_right _ _⟩
  | some p =>
    obtain ⟨l, xs⟩ := p
    rw [hf] at h
    dsimp only
    split
    · exact ⟨rfl, Nat.add_le_add_left h _⟩
    · exact ⟨rfl, Nat.le_add_right _ _⟩
theorem result_N (s : Fs) (who : Int) : (s.result who).2.2.N = s.N ∧ (s.result who).2.2.K = s.K := ⟨rfl, rfl⟩
structure Ac where
  kind : Int
  key : Int
  who : Int
  err : Int
instance : Inhabited Ac := ⟨⟨0, 0, 0, 0⟩⟩
/-- What an act makes. -/
def act (s : Fs) (x : Ac) : Fs := if x.kind = 0 then (s.join x.key x.who).2.2 else if x.kind = 1 then (s.land x.key x.who x.err).2.2 else if x.kind = 2 then (s.result x.who).2.2 else s
theorem act_N {s : Fs} {x : Ac} (h : (s.joined x.key).length ≤ s.N) : (act s x).N ≤ s.N + 1 ∧ (act s x).K ≤ s.K + s.N := by
  unfold act
  split
  · have := join_N s x.key x.who; omega
  · split
    · have := land_N h x.who x.err; omega
    · split
      · have := result_N s x.who; omega
      · omega
def PlayE (w0 w : World) (P : Nat) (X : Nat → Prop) (s : Fs) (e : Ending) (w' : World) : Prop := e = .returned (.tuple #[]) ∧ TY w0 w' P X s ∧ Same X w w'
set_option maxHeartbeats 4000000 in
theorem play_any {w0 w : World} {P : Nat} {X : Nat → Prop} {s : Fs} {k t n e : Int} (h : TY w0 w P X s) (hN : s.N ≤ 1000) (hK : s.K ≤ 800000) (ht : Wf t) (hn : Wf n) :
    Calls Try.prog 15 #[Pq P, .agg #[.int .i64 k, .int .i64 t, .int .i64 n, .int .i64 e]] w (PlayE w0 w P X (act s ⟨k, t, n, e⟩)) := by
  have hb := below_alloc w (.cells #[.int .i64 k, .int .i64 t, .int .i64 n, .int .i64 e] 30)
  have h1 := h.below hb
  have HSM := Lib.hid (show ∀ w', Same X (w.alloc (.cells #[.int .i64 k, .int .i64 t, .int .i64 n, .int .i64 e] 30)) w' → Same X w w' from fun w' hs q hq => (hs q hq).trans (hb.block q (h.lt hq)))
  by_cases e0 : k = 0
  · subst e0
    have HC := Lib.hid (y_join h1 (by omega) ht hn)
    unfold YJ at HC
    have HA := Lib.hid (show act s ⟨0, t, n, e⟩ = (s.join t n).2.2 by unfold act; rw [if_pos rfl])
    rw [HA.out]
    generalize s.join t n = r at *
    clear h h1 hb hn ht HA
    obtain ⟨r1, r2, r3⟩ := r
    dsimp only at *
    go_enter Try.func15, Try.ntmps15
    go_wp2_with fail
    refine HC.out.mono ?_
    rintro _ w2 ⟨rfl, h2, hs2⟩
    have HF := Lib.hid (show PlayE w0 w P X r3 (.returned (.tuple #[])) w2 from ⟨rfl, h2, HSM.out _ hs2⟩)
    clear h2 hs2
    go_wp2_with fail
    go_end0
    exact HF.out
  by_cases e1 : k = 1
  · subst e1
    have HC := Lib.hid (y_land h1 hN hK ht (who := n) (e := e))
    unfold YL at HC
    have HA := Lib.hid (show act s ⟨1, t, n, e⟩ = (s.land t n e).2.2 by unfold act; rw [if_neg (show ¬ (1 : Int) = 0 by decide), if_pos rfl])
    rw [HA.out]
    generalize s.land t n e = r at *
    clear h h1 hb hn ht HA
    obtain ⟨r1, r2, r3⟩ := r
    dsimp only at *
    go_enter Try.func15, Try.ntmps15
    go_wp2_with fail
    refine HC.out.mono ?_
    rintro _ w2 ⟨Q, c, rfl, _, h2, hs2⟩
    have HF := Lib.hid (show PlayE w0 w P X r3 (.returned (.tuple #[])) w2 from ⟨rfl, h2.weaken fun _ h => .inl h, HSM.out _ hs2⟩)
    clear h2 hs2
    go_wp2_with fail
    go_end0
    exact HF.out
  by_cases e2 : k = 2
  · subst e2
    have HC := Lib.hid (y_result h1 hn)
    unfold YR at HC
    have HA := Lib.hid (show act s ⟨2, t, n, e⟩ = (s.result n).2.2 by unfold act; rw [if_neg (show ¬ (2 : Int) = 0 by decide), if_neg (show ¬ (2 : Int) = 1 by decide), if_pos rfl])
    rw [HA.out]
    generalize s.result n = r at *
    clear h h1 hb hn ht HA
    obtain ⟨r1, r2, r3⟩ := r
    dsimp only at *
    go_enter Try.func15, Try.ntmps15
    go_wp2_with fail
    refine HC.out.mono ?_
    rintro _ w2 ⟨rfl, h2, hs2⟩
    have HF := Lib.hid (show PlayE w0 w P X r3 (.returned (.tuple #[])) w2 from ⟨rfl, h2, HSM.out _ hs2⟩)
    clear h2 hs2
    go_wp2_with fail
    go_end0
    exact HF.out
  have HF := Lib.hid (show PlayE w0 w P X (act s ⟨k, t, n, e⟩) (.returned (.tuple #[])) (w.alloc (.cells #[.int .i64 k, .int .i64 t, .int .i64 n, .int .i64 e] 30)) from ⟨rfl, by unfold act; rw [if_neg e0, if_neg e1, if_neg e2]; exact h1, HSM.out _ (fun q hq => rfl)⟩)
  have q0 : (k == 0) = false := by simpa using e0
  have q1 : (k == 1) = false := by simpa using e1
  have q2 : (k == 2) = false := by simpa using e2
  clear h h1 hb hn ht HSM e0 e1 e2
  go_enter Try.func15, Try.ntmps15
  go_wp2_with fail
  go_end0
  exact HF.out

/-- Rows of numbers as 'same' reads them: at an offset. -/
def IR (w : World) (A : Option Addr) (n : Nat) (L : List Int) : Prop := n = L.length ∧ ∀ j, j < n → ∃ gg o, A = some ⟨gg, o, none⟩ ∧ gg < w.heap.size ∧ w.cell? ⟨gg, o + j, none⟩ = some (.int .i64 (L.getD j 0))
theorem IR.below {w w' : World} {A : Option Addr} {n : Nat} {L : List Int} (h : IR w A n L) (hb : Below w.heap.size w w') : IR w' A n L :=
  ⟨h.1, fun j hj => by obtain ⟨gg, o, e, hl, hc⟩ := h.2 j hj; exact ⟨gg, o, e, Nat.lt_of_lt_of_le hl hb.size, (hb.cell (p := ⟨gg, o + j, none⟩) hl).trans hc⟩⟩
theorem IR.keep {w w' : World} {A : Option Addr} {n : Nat} {L : List Int} (h : IR w A n L) (hb : ∀ gg o, A = some ⟨gg, o, none⟩ → gg < w'.heap.size ∧ w'.heap[gg]? = w.heap[gg]?) : IR w' A n L :=
  ⟨h.1, fun j hj => by obtain ⟨gg, o, e, hl, hc⟩ := h.2 j hj; exact ⟨gg, o, e, (hb gg o e).1, (World.cell?_of_block (a := ⟨gg, o + j, none⟩) (hb gg o e).2).trans hc⟩⟩
theorem OI.cells {w : World} {lo n c : Nat} {A : Option Addr} {xs : List Int} (h : OI w lo (.slice A n c) xs) : n = xs.length ∧ ∀ j, j < n → ∃ gg, A = some ⟨gg, 0, none⟩ ∧ lo ≤ gg ∧ gg < w.heap.size ∧ w.cell? ⟨gg, j, none⟩ = some (.int .i64 (xs.getD j 0)) := by
  have hn : n = xs.length := by
    rcases h.2 with ⟨h1, h2⟩ | ⟨g, c', cur, h1, _⟩
    · injection h1 with a b d; omega
    · injection h1 with a b d
  refine ⟨hn, fun j hj => ?_⟩
  rcases h.2 with ⟨h1, h2⟩ | ⟨g, c', cur, h1, hb2, h3, _⟩
  · omega
  · injection h1 with h1 h4 h5
    subst h1; subst h5; subst hn
    refine ⟨g, rfl, hb2, (Array.getElem?_eq_some_iff.1 h3).1, ?_⟩
    unfold OI at h
    rw [h.cellAt j (by omega), encI, List.getElem?_map, List.getElem?_eq_getElem (by omega)]
    simp [List.getD, List.getElem?_eq_getElem (show j < xs.length by omega)]
theorem OI.ir {w : World} {lo n c : Nat} {A : Option Addr} {xs : List Int} (h : OI w lo (.slice A n c) xs) : IR w A n xs :=
  ⟨h.cells.1, fun j hj => by obtain ⟨gg, e, h1, h2, h3⟩ := h.cells.2 j hj; exact ⟨gg, 0, e, h2, by rw [Nat.zero_add]; exact h3⟩⟩
theorem below_drewN {B : Nat} {a w : World} (h : Below B a w) (n : Nat) : Below B a (w.drewN n) := ⟨h.os, h.tape, h.output, h.size, h.block⟩
def YesE (w : World) (e : Ending) (w' : World) : Prop := e = .returned (.bool true) ∧ ∃ n, w' = w.drewN n
theorem YesE.below {w w' : World} {e : Ending} (h : YesE w e w') : Below w.heap.size w w' := by obtain ⟨_, n, rfl⟩ := h; exact below_drewN (Below.refl _ _) n
set_option maxHeartbeats 4000000 in
theorem same_yes {A A' : Option Addr} {n n' c c' : Nat} {L : List Int} {w : World} (hx : IR w A n L) (hy : IR w A' n' L) (hc : n ≤ c) (hc' : n' ≤ c') (hN : n ≤ 1000000) :
    Calls Try.prog 17 #[.slice A n c, .slice A' n' c'] w (YesE w) := by
  obtain rfl : n' = n := by rw [hx.1, hy.1]
  have HX := Lib.hid hx
  have HY := Lib.hid hy
  clear hx hy
  go_enter Try.func17, Try.ntmps17
  go_wp2_with fail
  go_loopg [13] n' (fun g i wr => ∃ k : Nat, k ≤ n' ∧ g + k = n' ∧ i = .int .i64 k ∧ ∃ nq, w.drewN nq = wr)
  case atStart => exact ⟨0, by omega, by omega, rfl, 0, rfl⟩
  case round =>
    obtain ⟨k, hk, hg, rfl, nq, rfl⟩ := hrel
    by_cases hlt : k < n'
    · obtain ⟨g1, o1, rfl, _, x1⟩ := HX.out.2 k hlt
      obtain ⟨g2, o2, rfl, _, x2⟩ := HY.out.2 k hlt
      generalize L.getD k 0 = v at *
      go_wp2_with fail
      go_quiet (fail)
      go_wp2_with fail
      go_roundg (gk - 1)
      case measure => omega
      case rel => exact ⟨k + 1, by omega, by omega, by go_num, _, rfl⟩
    · go_wp2_with fail
      go_ret
      exact ⟨rfl, _, rfl⟩
end Go.Proofs.Ytldleojipogcmaa.fl
