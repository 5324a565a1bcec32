/- 'Join'. -/
import Derived.Test.YtldleojipogcmaaNj
import Derived.StillTailTactics
namespace Go.Proofs.Ytldleojipogcmaa.fl
open Go.RowKit
set_option linter.unusedVariables false
set_option linter.unusedSimpArgs false

theorem Kp.pre {tg tg' : Nat → Tag} {w w1 w2 : World} (hb : Below w.heap.size w w1) (k : Kp tg tg' w1 w2) : Kp tg tg' w w2 :=
  ⟨⟨k.only.os.trans hb.os, k.only.tape.trans hb.tape, k.only.output.trans hb.output, Nat.le_trans hb.size k.only.size, fun b hb2 hF => (k.only.block b (Nat.lt_of_lt_of_le hb2 hb.size) hF).trans (hb.block b hb2)⟩, fun b hb2 e => k.tag b (Nat.lt_of_lt_of_le hb2 hb.size) e⟩
theorem Kp.refl (tg : Nat → Tag) (w : World) : Kp tg tg w w := .of_only (Only.refl _ _)
theorem abF_ups (ab : Int → Bool) (a : Int) : ups (abF ab) a U0 = abF (upf ab a true) := by
  funext x; unfold ups abF upf; by_cases e : x = a <;> simp [e]
def JoinE (w0 w : World) (P A B C : Nat) (tg : Nat → Tag) (r : Bool × Int × Fs) (e : Ending) (w' : World) : Prop := e = .returned (.tuple #[.bool r.1, .int .i64 r.2.1]) ∧ ∃ tg' f', TX w0 w' P A B C tg' f' r.2.2 ∧ Kp tg tg' w w'
section
variable {w0 w w1 w3 : World} {P A B C : Nat} {tg : Nat → Tag} {f : Int → Option Value} {s : Fs}
theorem TX.came (h : TX w0 w1 P A B C tg f s) (hN : s.N ≤ 900000) {k who l : Int} {xs : List Int} {sv : Value} (hk : Wf k) (hw : Wf who) (hm : more (s.fl k) who = (l, xs)) (ho : Only (fun b => tg b = .row k) w1 w3) (hO : OI w3 w0.heap.size sv xs) (hat : ∀ g, sv.ownBlock = some g → tg g = .row k ∨ w1.heap.size ≤ g) :
    ∃ w4, (Instr.mapUpdate 50 (.map (some A)) (.int .i64 k) (.agg #[.int .i64 l, sv])).run Try.prog w3.drew = .ok () w4 ∧ (∀ b, tg b ≠ .row k → b ≠ A → b < w1.heap.size → w4.heap[b]? = w1.heap[b]?) ∧ w3.drew.grownBy w4 (some A) ∧
      ∃ w5 tg' f', (Instr.mapUpdate 51 (.map (some B)) (.int .i64 who) U0).run Try.prog w4 = .ok () w5 ∧ TX w0 w5 P A B C tg' f' (s.come k who) ∧ Kp tg tg' w1 w5 := by
  obtain ⟨nA, SA, hnA, hmA⟩ := h.mA
  obtain ⟨nB, SB, hnB, hmB⟩ := h.mB
  obtain ⟨nC, SC, hnC, hmC⟩ := h.mC
  have hd : Below w3.heap.size w3 w3.drew := (Below.refl _ _).drew
  have hdh : ∀ b : Nat, w3.drew.heap[b]? = w3.heap[b]? := fun b => rfl
  have hds : w3.drew.heap.size = w3.heap.size := rfl
  have hb3 : ∀ b : Nat, b < w1.heap.size → tg b ≠ .row k → w3.heap[b]? = w1.heap[b]? := fun b h1 h2 => ho.block b h1 h2
  have hlt : ∀ b, tg b ≠ .no → b < w1.heap.size := fun b hb => (h.own b hb).2
  have lP := hlt P (by rw [h.tP]; simp)
  have lA := hlt A (by rw [h.tA]; simp)
  have lB := hlt B (by rw [h.tB]; simp)
  have lC := hlt C (by rw [h.tC]; simp)
  have hm3 : MapV w3.drew A nA SA f := hmA.of_block ((hdh A).trans (hb3 A lA (by rw [h.tA]; simp)))
  obtain ⟨w4, hput4, hm4, hg4⟩ := hm3.put Try.underlying50 (by omega) hk (.agg #[.int .i64 l, sv])
  have hz3 : w1.heap.size ≤ w3.heap.size := ho.size
  have hz4 := hg4.size
  have hb4 : ∀ b, tg b ≠ .row k → b ≠ A → b < w1.heap.size → w4.heap[b]? = w1.heap[b]? := fun b h1 h2 h3 => (hg4.block b (by omega) (fun e => h2 (Option.some.inj e))).trans ((hdh b).trans (hb3 b h3 h1))
  have hmB4 : MapV w4 B nB SB (abF s.ab) := hmB.of_block (hb4 B (by rw [h.tB]; simp) h.nAB.symm lB)
  obtain ⟨w5, hput5, hm5, hg5⟩ := hmB4.put Try.underlying51 (by omega) hw U0
  rw [abF_ups] at hm5
  have hz5 := hg5.size
  have hb5 : ∀ b, tg b ≠ .row k → b ≠ A → b ≠ B → b < w1.heap.size → w5.heap[b]? = w1.heap[b]? := fun b h1 h2 h3 h4 => (hg5.block b (by omega) (fun e => h3 (Option.some.inj e))).trans (hb4 b h1 h2 h4)
  have hzz : w1.heap.size ≤ w5.heap.size := by omega
  obtain ⟨tg', htg⟩ : ∃ tg' : Nat → Tag, ∀ b, tg' b = if sv.ownBlock = some b then .row k else tg b := ⟨_, fun b => rfl⟩
  have hsame : ∀ b, b < w1.heap.size → tg' b = tg b := fun b hb => by
    rw [htg b]
    by_cases e : sv.ownBlock = some b
    · rw [if_pos e]
      rcases hat b e with h1 | h1
      · exact h1.symm
      · omega
    · rw [if_neg e]
  have hol : ∀ g, sv.ownBlock = some g → w0.heap.size ≤ g ∧ g < w3.heap.size := fun g e => hO.olt e
  have honly : Only (fun b => tg b ≠ .no) w1 w5 := ⟨hg5.os.trans (hg4.os.trans (hd.os.trans ho.os)), hg5.tape.trans (hg4.tape.trans (hd.tape.trans ho.tape)), hg5.output.trans (hg4.output.trans (hd.output.trans ho.output)), hzz, fun b hb hF => by
    have h0 : tg b = .no := Classical.byContradiction hF
    exact hb5 b (by rw [h0]; simp) (fun e => by rw [e, h.tA] at h0; cases h0) (fun e => by rw [e, h.tB] at h0; cases h0) hb⟩
  have hne : ∀ g, sv.ownBlock = some g → g ≠ A ∧ g ≠ B := fun g e => by
    rcases hat g e with h1 | h1
    · exact ⟨tne h1 h.tA (by simp), tne h1 h.tB (by simp)⟩
    · omega
  refine ⟨w4, hput4, hb4, hg4, w5, tg', ups f k (.agg #[.int .i64 l, sv]), hput5, ⟨fun b hb => ?_, honly.below h.bel (fun b hb => (h.own b hb).1), (hsame P lP).trans h.tP, (hsame A lA).trans h.tA, (hsame B lB).trans h.tB, (hsame C lC).trans h.tC,
    (World.cell?_of_block (a := ⟨P, 0, none⟩) (hb5 P (by rw [h.tP]; simp) h.nPA h.nPB lP)).trans h.p0, (World.cell?_of_block (a := ⟨P, 1, none⟩) (hb5 P (by rw [h.tP]; simp) h.nPA h.nPB lP)).trans h.p1, (World.cell?_of_block (a := ⟨P, 2, none⟩) (hb5 P (by rw [h.tP]; simp) h.nPA h.nPB lP)).trans h.p2,
    ⟨nA + 1, _, by show nA + 1 ≤ s.N + 1; omega, hm4.of_block (hg5.block A (by omega) (fun e => h.nAB (Option.some.inj e)))⟩, ⟨nB + 1, _, by show nB + 1 ≤ s.N + 1; omega, hm5⟩, ⟨nC, SC, hnC, hmC.of_block (hb5 C (by rw [h.tC]; simp) h.nAC.symm h.nBC.symm lC)⟩, fun y => ?_, fun y l2 xs2 e => ?_⟩, ⟨honly, fun b hb e => by rw [hsame b hb] at e; exact e⟩⟩
  · rw [htg b] at hb
    by_cases e : sv.ownBlock = some b
    · have := hol b e; omega
    · rw [if_neg e] at hb
      have := h.own b hb; omega
  · by_cases e : y = k
    · subst e
      show FV _ _ _ _ (ups f y _ y) (upf s.fl y _ y)
      rw [upf_self, hm]
      exact ⟨sv, by simp [ups], hO.keep fun g e => (hg5.block g (by have := hol g e; omega) (fun e2 => (hne g e).2 (Option.some.inj e2))).trans ((hg4.block g (by have := hol g e; omega) (fun e2 => (hne g e).1 (Option.some.inj e2))).trans (hdh g)), fun g e => by rw [htg g, if_pos e]⟩
    · show FV _ _ _ _ (ups f k _ y) (upf s.fl k _ y)
      rw [upf_ne e, show ups f k (.agg #[.int .i64 l, sv]) y = f y by simp [ups, e]]
      exact (h.row y).keep fun b hb => ⟨hb5 b (by rw [hb]; intro e2; injection e2 with e2; exact e e2) (tne hb h.tA (by simp)) (tne hb h.tB (by simp)) (hlt b (by rw [hb]; simp)), (hsame b (hlt b (by rw [hb]; simp))).trans hb⟩
  · change upf s.fl k _ y = _ at e
    by_cases e2 : y = k
    · subst e2
      rw [upf_self, hm] at e
      injection e with e
      injection e with e1 e3
      subst e1; subst e3
      show _ ∧ _ ∧ _ ∧ _ ≤ s.N + 1
      cases ef : s.fl y with
      | none =>
        rw [ef] at hm
        unfold more at hm
        injection hm with h1 h2
        subst h1; subst h2
        exact ⟨hk, hw, (fun x hx => by cases hx), (by simp)⟩
      | some p =>
        obtain ⟨l0, xs0⟩ := p
        obtain ⟨f1, f2, f3, f4⟩ := h.wf y l0 xs0 ef
        rw [ef] at hm
        unfold more at hm
        injection hm with h1 h2
        subst h1; subst h2
        refine ⟨f1, f2, fun x hx => ?_, by simp; exact f4⟩
        rcases List.mem_append.1 hx with h3 | h3
        · exact f3 x h3
        · rw [List.mem_singleton.1 h3]; exact hw
    · rw [upf_ne e2] at e
      obtain ⟨f1, f2, f3, f4⟩ := h.wf y l2 xs2 e
      exact ⟨f1, f2, f3, Nat.le_succ_of_le f4⟩
theorem off_ne {B a b : Nat} (h : a ≠ b) : (⟨B, a, none⟩ : Addr) ≠ ⟨B, b, none⟩ := fun e => h (congrArg Addr.off e)
theorem new_cells {w : World} (a b : Value) (t : TypeId) : (w.alloc (.cells #[a, b] t)).cell? ⟨w.heap.size, 0, none⟩ = some a ∧ (w.alloc (.cells #[a, b] t)).cell? ⟨w.heap.size, 1, none⟩ = some b := by
  exact ⟨by simp, by simp⟩
theorem put_cells {w : World} {X : Nat} {a b : Value} (h0 : w.cell? ⟨X, 0, none⟩ = some a) (h1 : w.cell? ⟨X, 1, none⟩ = some b) (u : Value) :
    ((w.setCell ⟨X, 0, none⟩ u).cell? ⟨X, 0, none⟩ = some u ∧ (w.setCell ⟨X, 0, none⟩ u).cell? ⟨X, 1, none⟩ = some b) ∧ (w.setCell ⟨X, 1, none⟩ u).cell? ⟨X, 0, none⟩ = some a ∧ (w.setCell ⟨X, 1, none⟩ u).cell? ⟨X, 1, none⟩ = some u :=
  ⟨⟨World.cell?_setCell_same _ _ _ h0, (World.cell?_setCell_other _ _ _ _ (off_ne (by omega))).trans h1⟩, (World.cell?_setCell_other _ _ _ _ (off_ne (by omega))).trans h0, World.cell?_setCell_same _ _ _ h1⟩
theorem below_put {n : Nat} {w w' : World} (h : Below n w w') {X o : Nat} (hX : n ≤ X) (u : Value) : Below n w (w'.setCell ⟨X, o, none⟩ u) :=
  ⟨h.os, h.tape, h.output, by simp [World.setCell]; exact h.size, fun k hk => (Below.heap_setCell _ _ _ _ (by show ¬ k = X; omega)).trans (h.block k hk)⟩
theorem below_only {w w' : World} (hb : Below w.heap.size w w') (F : Nat → Prop) : Only F w w' := ⟨hb.os, hb.tape, hb.output, hb.size, fun b h1 _ => hb.block b h1⟩
set_option maxHeartbeats 2000000 in
theorem join_busy (h : TX w0 w P A B C tg f s) {k who : Int} (hk : Wf k) (hw : Wf who) (hb : s.busy who = true) : Calls Try.prog 9 #[Pq P, .int .i64 k, .int .i64 who] w (JoinE w0 w P A B C tg (s.join k who)) := by
  have HB := Lib.hid (busy_any h hw)
  rw [hb] at HB
  have HF := Lib.hid (show ∀ w', Below w.heap.size w w' → JoinE w0 w P A B C tg (s.join k who) (.returned (.tuple #[.bool false, .int .i64 16])) w' from fun w' h2 => by
    unfold Fs.join
    rw [if_pos hb]
    exact ⟨rfl, tg, f, h.below h2, .of_only (below_only h2 _)⟩)
  generalize s.join k who = r at *
  unfold RetB at HB
  clear h hk hw hb
  go_enter Try.func9, Try.ntmps9
  go_wp2_with fail
  refine HB.out.mono ?_
  rintro e w2 ⟨rfl, hb2⟩
  have HF2 := Lib.hid (HF.out _ hb2)
  clear hb2
  go_wp2_with fail
  go_ret2
  exact HF2.out
set_option maxHeartbeats 4000000 in
theorem join_new (h : TX w0 w P A B C tg f s) (hN : s.N ≤ 900000) {k who : Int} (hk : Wf k) (hw : Wf who) (hb : s.busy who = false) (hf : s.fl k = none) : Calls Try.prog 9 #[Pq P, .int .i64 k, .int .i64 who] w (JoinE w0 w P A B C tg (s.join k who)) := by
  have HB := Lib.hid (busy_any h hw)
  rw [hb] at HB
  have HH := Lib.hid h
  have HJ := Lib.hid (show s.join k who = (true, 0, s.come k who) by unfold Fs.join; rw [hb, hf]; rfl)
  have HM := Lib.hid (show more (s.fl k) who = (who, []) by rw [hf]; rfl)
  have HFK := Lib.hid (show f k = none from by have := h.row k; rw [hf] at this; exact this)
  have HFS := Lib.hid hf
  have HW := Lib.hid hw
  have HKK := Lib.hid hk
  rw [HJ.out]
  generalize hs : s.come k who = r at *
  unfold RetB at HB
  clear h hk hw hb hf HJ
  go_enter Try.func9, Try.ntmps9
  go_wp2_with fail
  refine HB.out.mono ?_
  rintro e w1 ⟨rfl, hb1⟩
  have h1 := HH.out.below hb1
  have H1 := Lib.hid h1
  have p0 := h1.p0
  have hA := h1.lookA HKK.out
  rw [HFK.out, HFS.out] at hA
  have hA2 : (Instr.lookup 50 (.map (some A)) (.int .i64 k) true).run Try.prog w1 = .ok (.tuple #[FZ, .bool false]) w1 := hA
  obtain ⟨X, hX⟩ : ∃ X, w1.heap.size = X := ⟨_, rfl⟩
  obtain ⟨w3, hw3⟩ : ∃ w3, (w1.alloc (.cells #[.int .i64 0, .slice none 0 0] 55)).setCell ⟨X, 0, none⟩ (.int .i64 who) = w3 := ⟨_, rfl⟩
  have hsz3 : w3.heap.size = X + 1 := by rw [← hw3, ← hX]; simp [World.setCell]
  have hb13 : Below X w1 w3 := by rw [← hw3, ← hX]; exact below_put (below_alloc w1 _) (Nat.le_refl _) _
  have x0 : w3.cell? ⟨X, 0, none⟩ = some (.int .i64 who) := by rw [← hw3, ← hX]; exact (put_cells (new_cells _ _ _).1 (new_cells _ _ _).2 _).1.1
  have x1 : w3.cell? ⟨X, 1, none⟩ = some (.slice none 0 0) := by rw [← hw3, ← hX]; exact (put_cells (new_cells _ _ _).1 (new_cells _ _ _).2 _).1.2
  have p3 : w3.cell? ⟨P, 0, none⟩ = some (.map (some A)) := by rw [hb13.cell (by have := (h1.own P (by rw [h1.tP]; simp)).2; show P < X; omega)]; exact p0
  have p3b : w3.cell? ⟨P, 1, none⟩ = some (.map (some B)) := by rw [hb13.cell (by have := (h1.own P (by rw [h1.tP]; simp)).2; show P < X; omega)]; exact h1.p1
  obtain ⟨w4, hput4, hb4, hg4, w5, tg', f', hput5, h5, hk5⟩ := h1.came hN HKK.out HW.out HM.out (w3 := w3) (sv := .slice none 0 0) (below_only (by rw [hX]; exact hb13) _) (World.ownsRow_nil _ _ _ _) (fun g e => (nomatch e))
  have p4 : w4.cell? ⟨P, 1, none⟩ = some (.map (some B)) := by
    rw [World.cell?_of_block (a := ⟨P, 1, none⟩) (hb4 P (by rw [h1.tP]; simp) h1.nPA (h1.own P (by rw [h1.tP]; simp)).2)]; exact h1.p1
  have HF := Lib.hid (show JoinE w0 w P A B C tg (true, 0, r) (.returned (.tuple #[.bool true, .int .i64 0])) w5 from ⟨rfl, tg', f', hs ▸ h5, hk5.pre hb1⟩)
  clear h1 hb1 hA HB hb13 hsz3 hb4 hg4 h5 hk5 p3b
  go_wp2_with fail
  go_still_tail 6, (by kernel_rfl)
  change wpList _ _ _ _ _ w3.drew
  go_wp2_with fail
  go_ret2
  exact HF.out
set_option maxHeartbeats 4000000 in
theorem join_more (h : TX w0 w P A B C tg f s) (hN : s.N ≤ 900000) {k who l : Int} {xs : List Int} (hk : Wf k) (hw : Wf who) (hb : s.busy who = false) (hf : s.fl k = some (l, xs)) : Calls Try.prog 9 #[Pq P, .int .i64 k, .int .i64 who] w (JoinE w0 w P A B C tg (s.join k who)) := by
  have HB := Lib.hid (busy_any h hw)
  rw [hb] at HB
  have HH := Lib.hid h
  have HJ := Lib.hid (show s.join k who = (false, 0, s.come k who) by unfold Fs.join; rw [hb, hf]; rfl)
  have HM := Lib.hid (show more (s.fl k) who = (l, xs ++ [who]) by rw [hf]; rfl)
  obtain ⟨sv, hfk, hO, htag⟩ : ∃ sv, f k = some (.agg #[.int .i64 l, sv]) ∧ OI w w0.heap.size sv xs ∧ ∀ g, sv.ownBlock = some g → tg g = .row k := by have := h.row k; rw [hf] at this; exact this
  obtain ⟨Q, c, rfl⟩ := hO.form
  have HFK := Lib.hid hfk
  have HFS := Lib.hid (show (s.fl k).isSome = true by rw [hf]; rfl)
  have HW := Lib.hid hw
  have HKK := Lib.hid hk
  have HO := Lib.hid hO
  have HT := Lib.hid htag
  have HLN := Lib.hid (h.wf k l xs hf).2.2.2
  obtain ⟨m, hm⟩ : ∃ m, xs.length = m := ⟨_, rfl⟩
  have HML := Lib.hid hm
  obtain ⟨i0, hi, hz0, hz1, hz2⟩ := info_parts info_i
  have HI := Lib.hid hi
  have HZ := Lib.hid (show i0.zero = some (.int .i64 0) ∧ i0.size = 1 ∧ i0.bytes = 8 from ⟨hz0, hz1, hz2⟩)
  rw [HJ.out]
  generalize hs : s.come k who = r at *
  have HR := Lib.hid hs
  unfold RetB at HB
  rw [hm] at HFK HO HT HLN
  clear h hk hw hb hf HJ hfk hO htag hm hi hz0 hz1 hz2 hs
  go_enter Try.func9, Try.ntmps9
  go_wp2_with fail
  refine HB.out.mono ?_
  rintro e w1 ⟨rfl, hb1⟩
  have h1 := HH.out.below hb1
  have H1 := Lib.hid h1
  have p0 := h1.p0
  have hA := h1.lookA HKK.out
  rw [HFK.out, HFS.out] at hA
  have hA2 : (Instr.lookup 50 (.map (some A)) (.int .i64 k) true).run Try.prog w1 = .ok (.tuple #[.agg #[.int .i64 l, .slice Q m c], .bool true]) w1 := hA
  obtain ⟨X, hX⟩ : ∃ X, w1.heap.size = X := ⟨_, rfl⟩
  have HX := Lib.hid hX
  obtain ⟨w2, hw2⟩ : ∃ w2, w1.alloc (.cells #[.int .i64 l, .slice Q m c] 55) = w2 := ⟨_, rfl⟩
  have hsz2 : w2.heap.size = X + 1 := by rw [← hw2, ← hX]; simp
  have hb12 : Below X w1 w2 := by rw [← hw2, ← hX]; exact below_alloc w1 _
  have x0 : w2.cell? ⟨X, 0, none⟩ = some (.int .i64 l) := by rw [← hw2, ← hX]; exact (new_cells _ _ _).1
  have x1 : w2.cell? ⟨X, 1, none⟩ = some (.slice Q m c) := by rw [← hw2, ← hX]; exact (new_cells _ _ _).2
  have HB1 := Lib.hid hb1
  have HB2 := Lib.hid hb12
  have HX0 := Lib.hid x0
  have HX1 := Lib.hid x1
  have HS2 := Lib.hid hsz2
  have HO2 := Lib.hid (show OI w2 w0.heap.size (.slice Q m c) xs from (HO.out.below hb1).below (by rw [hX]; exact hb12))
  have HOX := Lib.hid (show ∀ g, (Value.slice Q m c).ownBlock = some g → g < X from fun g e => by
    have := (h1.own g (by rw [HT.out g e]; simp)).2; omega)
  have HOA := Lib.hid (show ∀ o, (w2.alloc o).ownsRow w0.heap.size 3 1 (.slice Q m c) m (encI xs) from fun o => by
    have := HO2.out
    unfold OI at this
    rw [HML.out] at this
    exact this.alloc o)
  have HLO := Lib.hid (show w0.heap.size ≤ w2.heap.size by have := h1.bel.size; omega)
  have HN := Lib.hid hN
  clear h1 hb1 hA HB hb12 hsz2 x0 hN
  have HAP : ∀ v1 w4, w4.ownsRow w0.heap.size 3 1 v1 (m + 1) (encI xs ++ [.int .i64 who]) → ((w2.alloc (.cells #[.int .i64 who] 3))).grownBy w4 (Value.slice Q m c).ownBlock → (v1.ownBlock = (Value.slice Q m c).ownBlock ∨ v1.ownBlock = some (w2.alloc (.cells #[.int .i64 who] 3)).heap.size) → ∃ Q2 c2 w5 w6 w7, v1 = .slice Q2 (m + 1) c2 ∧ w4.cell? ⟨X, 1, none⟩ = some (.slice Q m c) ∧ w4.frozen? ⟨X, 1, none⟩ = false ∧ w4.setCell ⟨X, 1, none⟩ (.slice Q2 (m + 1) c2) = w5 ∧ w5.cell? ⟨X, 0, none⟩ = some (.int .i64 l) ∧ w5.cell? ⟨X, 1, none⟩ = some (.slice Q2 (m + 1) c2) ∧ w5.cell? ⟨P, 0, none⟩ = some (.map (some A)) ∧
      (Instr.mapUpdate 50 (.map (some A)) (.int .i64 k) (.agg #[.int .i64 l, .slice Q2 (m + 1) c2])).run Try.prog w5.drew = .ok () w6 ∧ w6.cell? ⟨P, 1, none⟩ = some (.map (some B)) ∧ (Instr.mapUpdate 51 (.map (some B)) (.int .i64 who) U0).run Try.prog w6 = .ok () w7 ∧ JoinE w0 w P A B C tg (false, 0, r) (.returned (.tuple #[.bool false, .int .i64 0])) w7 := by
    intro v1 w4 h2 h3 h4
    have h5 : OI w4 w0.heap.size v1 (xs ++ [who]) := by
      unfold OI
      rw [List.length_append, HML.out, encI_app]; exact h2
    obtain ⟨Q2, c2, e⟩ := h5.form
    have hsz := HS2.out
    have e2 : v1 = .slice Q2 (m + 1) c2 := by rw [e, List.length_append, HML.out]; rfl
    subst e2
    obtain ⟨w5, hw5⟩ : ∃ w5, w4.setCell ⟨X, 1, none⟩ (.slice Q2 (m + 1) c2) = w5 := ⟨_, rfl⟩
    have hX4 : w4.heap[X]? = w2.heap[X]? := (h3.block X (by simp; omega) (fun e2 => by have := HOX.out X e2.symm; omega)).trans ((below_alloc w2 _).block X (by omega))
    have x40 : w4.cell? ⟨X, 0, none⟩ = some (.int .i64 l) := (World.cell?_of_block (a := ⟨X, 0, none⟩) hX4).trans HX0.out
    have x41 : w4.cell? ⟨X, 1, none⟩ = some (.slice Q m c) := (World.cell?_of_block (a := ⟨X, 1, none⟩) hX4).trans HX1.out
    have x5 := (put_cells x40 x41 (.slice Q2 (m + 1) c2)).2
    rw [hw5] at x5
    have hP := H1.out.own P (by rw [H1.out.tP]; simp)
    have h14 : Only (fun b => tg b = .row k) w1 w4 := by
      have h24 : Only (fun b => tg b = .row k) (w2.alloc (.cells #[.int .i64 who] 3)) w4 := Only.of_grown h3 (fun g e => HT.out g e)
      have h12 : Only (fun b => tg b = .row k) w1 (w2.alloc (.cells #[.int .i64 who] 3)) := below_only (by rw [HX.out]; exact HB2.out.trans ((below_alloc w2 _).mono (by omega))) _
      exact h12.trans h24
    have hXn : X ≠ P := by have := hP.2; have := HX.out; omega
    have h45 : ∀ b, b ≠ X → w5.heap[b]? = w4.heap[b]? := fun b hb => by rw [← hw5]; exact Below.heap_setCell _ _ _ _ hb
    have h15 : Only (fun b => tg b = .row k) w1 w5 := ⟨by rw [← hw5]; exact h14.os, by rw [← hw5]; exact h14.tape, by rw [← hw5]; exact h14.output, by rw [← hw5]; simp [World.setCell]; exact h14.size, fun b hb hF => (h45 b (by have := HX.out; omega)).trans (h14.block b hb hF)⟩
    have hnX : ∀ g, (Value.slice Q2 (m + 1) c2).ownBlock = some g → g ≠ X ∧ (tg g = .row k ∨ w1.heap.size ≤ g) := fun g e => by
      rcases h4 with h6 | h6
      · rw [e] at h6
        exact ⟨by have := HOX.out g h6.symm; omega, .inl (HT.out g h6.symm)⟩
      · rw [e] at h6
        have h7 := Option.some.inj h6
        simp at h7
        have := HX.out
        exact ⟨by omega, .inr (by omega)⟩
    obtain ⟨w6, hput6, hb6, hg6, w7, tg', f', hput7, h7, hk7⟩ := H1.out.came HN.out HKK.out HW.out HM.out (w3 := w5) (sv := .slice Q2 (m + 1) c2) h15 (h5.keep fun g e => h45 g (hnX g e).1) (fun g e => (hnX g e).2)
    refine ⟨Q2, c2, w5, w6, w7, rfl, x41, ?_, hw5, x5.1, x5.2, ?_, hput6, ?_, hput7, ⟨rfl, tg', f', HR.out ▸ h7, hk7.pre HB1.out⟩⟩
    · rw [World.frozen?_of_block (a := ⟨X, 1, none⟩) hX4, ← hw2, ← hX]; simp
    · rw [World.cell?_of_block (a := ⟨P, 0, none⟩) (h15.block P hP.2 (by show ¬ tg P = _; rw [H1.out.tP]; simp))]; exact p0
    · rw [World.cell?_of_block (a := ⟨P, 1, none⟩) (hb6 P (by rw [H1.out.tP]; simp) H1.out.nPA hP.2)]; exact H1.out.p1
  have HAQ := Lib.hid HAP
  clear HAP
  go_wp2_with (at_builtin; go_loud (refine wpList_append_own_at _ rfl (.tmp 24) (.tmp 26) 34 rfl w0.heap.size 3 i0 _ 1 8 Try.underlying34 HI.out HZ.out.1 HZ.out.2.1 HZ.out.2.2 rfl (by decide) _ m (encI xs) rfl (HOA.out _) ⟨w2.heap.size, 0, none⟩ 1 1 [.int .i64 who] rfl rfl (World.news_of_block (cs := #[.int .i64 who]) (t := 3) (fr := (0, 0)) (heap_alloc_new w2 _)) (by intro u hu; simp at hu; subst hu; rfl) (by have := HLN.out; have := HN.out; unfold maxLen; omega) (by have := HLN.out; have := HN.out; omega) (by have := HLO.out; simp; omega) ?_; intro v1 w4 hown1 hgrow1 _ hat1; obtain ⟨Q2, c2, w5, w6, w7, rfl, x4, x4f, hw5, x50, x51, p5, hput6, p6, hput7, hF⟩ := HAQ.out v1 w4 hown1 hgrow1 hat1; have HF := Lib.hid hF; clear hF hown1 hgrow1 hat1))
  go_still_tail 6, (by kernel_rfl)
  change wpList _ _ _ _ _ w5.drew
  go_wp2_with fail
  go_ret2
  exact HF.out
theorem join_any (h : TX w0 w P A B C tg f s) (hN : s.N ≤ 900000) {k who : Int} (hk : Wf k) (hw : Wf who) : Calls Try.prog 9 #[Pq P, .int .i64 k, .int .i64 who] w (JoinE w0 w P A B C tg (s.join k who)) := by
  cases hb : s.busy who with
  | true => exact join_busy h hk hw hb
  | false =>
    cases hf : s.fl k with
    | none => exact join_new h hN hk hw hb hf
    | some p => exact join_more (l := p.1) (xs := p.2) h hN hk hw hb hf
end
end Go.Proofs.Ytldleojipogcmaa.fl
