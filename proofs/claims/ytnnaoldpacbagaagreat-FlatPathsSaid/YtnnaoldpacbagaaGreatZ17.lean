/- 'Unlink' and 'Rmdir'. A new inode: 'blank'. 'Make'. 'Link'. 'Hold', 'Release', 'Mark', 'Cut', 'Write', 'Read'. 'within' and 'replaces'. -/
import Derived.Test.YtnnaoldpacbagaaGreatZ16
import Derived.Deep.LoopGhost
section
namespace Go.Proofs.YtnnaoldpacbagaaGreat.cb
open Go.RowKit
open Go.Proofs.YtnnaoldpacbagaaGreat.qu (KN ins QL)
open Go.Proofs.YtnnaoldpacbagaaGreat.dn (Du En lget lset ldel getV nerr dotB Sorted RetV serr lsetE)
open Go.Proofs.YtnnaoldpacbagaaGreat.bl (AB Bod BodC StoC Only Pq cut cutR wr WR)
open Go.Proofs.YtnnaoldpacbagaaGreat.br
set_option linter.unusedVariables false
set_option linter.unusedSimpArgs false

section
variable {w w' : World} {P lo st qb room T : Nat} {qo : Option Nat} {pl : Nat → Pl} {tag : Nat → Nat} {S : BS} {L : List KN}
theorem CB.nxf (h : CB w P lo st qb qo pl tag S room (freeL S) T) (hb : Below w.heap.size w w') : NxF w w' P lo st qb pl tag S room T := ⟨T, Nat.le_succ T, Nx.of (h.below hb) (Stp.below hb)⟩
/-- What is done behind other looks. -/
theorem NxF.past {w0 : World} {S' : BS} (hb : Below w0.heap.size w0 w) (h : NxF w w' P lo st qb pl tag S' room T) : NxF w0 w' P lo st qb pl tag S' room T := by
  obtain ⟨T', h1, h2⟩ := h
  exact ⟨T', h1, Nx.trans (Stp.below hb) (fun _ _ => rfl) h2⟩
def RetF (w : World) (P lo st qb : Nat) (pl : Nat → Pl) (tag : Nat → Nat) (v : Value) (S' : BS) (room T : Nat) (e : Ending) (w' : World) : Prop := e = .returned v ∧ NxF w w' P lo st qb pl tag S' room T
theorem get_lead {S : BS} {D : Nat} (h1 : S.dirE (D : Int) true = 0) (s : ByteArray) : (lget s (S.ino D).dir = none ∧ S.get (D : Int) s = (0, 2)) ∨ ∃ v, lget s (S.ino D).dir = some v ∧ S.get (D : Int) s = (v, 0) := by
  rw [get_eq (dirE_less h1)]
  cases lget s (S.ino D).dir with
  | none => exact .inl ⟨rfl, rfl⟩
  | some v => exact .inr ⟨v, rfl, rfl⟩
set_option maxRecDepth 100000 in
set_option maxHeartbeats 1000000 in
theorem unlink_any (h : CB w P lo st qb qo pl tag S room (freeL S) T) (hG : br.Good S room) (hr : room ≤ 65536) (hT : T ≤ 900000) (d : Int) (s : ByteArray) :
    Calls Tryz.prog 31 #[Pq P, .int .i64 d, .string s] w (RetF w P lo st qb pl tag (.int .i64 (S.unlink d s).1) (S.unlink d s).2 room T) := by
  have HN := Lib.hid (named_any h hG d s)
  unfold RetW at HN
  unfold RetF
  have HF := Lib.hid (fun w2 hb => h.nxf (w' := w2) hb)
  by_cases h1 : S.dirE d true = 0
  · obtain ⟨D, rfl, d1, d2, hD, hl⟩ := dirE_ok h1
    rcases get_lead h1 s with ⟨g1, g2⟩ | ⟨v, g1, g2⟩
    · have hv := Lib.hid (show S.unlink (D : Int) s = (2, S) by unfold BS.unlink; rw [if_neg (by omega), if_pos (by rw [g2]; decide), g2])
      have hn : namV S pl (D : Int) s = .tuple #[Pq (pl D).nd, .int .i64 0, .int .i64 2] := by unfold namV; rw [if_neg (by omega), g2]; rfl
      rw [hn] at HN
      rw [hv.out]
      generalize (pl D).nd = N at *
      clear h hG g1 g2 hn hv h1
      go_enter Tryz.func31, Tryz.ntmps31
      go_wp2_with fail
      refine HN.out.mono ?_
      rintro e w2 ⟨rfl, hb⟩
      go_wp2_with fail
      go_ret
      exact ⟨rfl, HF.out _ hb⟩
    · have hn : namV S pl (D : Int) s = .tuple #[Pq (pl D).nd, .int .i64 v, .int .i64 0] := by unfold namV; rw [if_neg (by omega), g2]; rfl
      rw [hn] at HN
      obtain ⟨_, _, I, rfl, i1, i2, _, hli, hni⟩ := hG.1.lead g1
      have HC := Lib.hid (fun w2 (hb : Below w.heap.size w w2) => (h.below hb).slot i2 hni)
      have HK := Lib.hid (fun w2 (hb : Below w.heap.size w w2) => ((h.below hb).ino I i2 hni).c0)
      by_cases hk : (S.ino I).kind = 2
      · have hv := Lib.hid (show S.unlink (D : Int) s = (21, S) by unfold BS.unlink; rw [if_neg (by omega), g2, if_neg (by simp), if_pos (by rw [at_nat]; exact hk)])
        rw [hv.out]
        rw [hk] at HK
        generalize (pl D).nd = N at *
        generalize (pl I).nd = M at *
        clear h hG g1 g2 hn hv h1
        go_enter Tryz.func31, Tryz.ntmps31
        go_wp2_with fail
        refine HN.out.mono ?_
        rintro e w2 ⟨rfl, hb⟩
        have c0 := HC.out _ hb
        have c1 := HK.out _ hb
        clear HC HK
        go_wp2_with fail
        go_ret
        exact ⟨rfl, HF.out _ hb⟩
      · have hv := Lib.hid (show S.unlink (D : Int) s = (0, S.drop (D : Int) s (I : Int)) by unfold BS.unlink; rw [if_neg (by omega), g2, if_neg (by simp), if_neg (by rw [at_nat]; exact hk)])
        rw [hv.out]
        have HU := Lib.hid (fun w2 (hb : Below w.heap.size w w2) => unname_any (h.below hb) hG hr hT g1)
        generalize (pl D).nd = N at *
        generalize (pl I).nd = M at *
        generalize (S.ino I).kind = K at *
        have hk2 : (K == 2) = false := by simpa using hk
        clear h hG g1 g2 hn hv h1 HF
        go_enter Tryz.func31, Tryz.ntmps31
        go_wp2_with fail
        refine HN.out.mono ?_
        rintro e w2 ⟨rfl, hb⟩
        have c0 := HC.out _ hb
        have c1 := HK.out _ hb
        have HU2 := Lib.hid (HU.out _ hb)
        have HB := Lib.hid hb
        clear HC HK HU hb
        go_wp2_with fail
        refine HU2.out.mono ?_
        rintro e w3 ⟨rfl, hx⟩
        go_wp2_with fail
        go_ret
        exact ⟨rfl, hx.past HB.out⟩
  · have hv := Lib.hid (show S.unlink d s = (S.dirE d true, S) by unfold BS.unlink; rw [if_pos h1])
    have hn : namV S pl d s = .tuple #[.pointer none, .int .i64 0, .int .i64 (S.dirE d true)] := by unfold namV; rw [if_pos h1]
    rw [hn] at HN
    rw [hv.out]
    generalize S.dirE d true = x at *
    have hx : (x != 0) = true := by simpa using h1
    clear h hG hn hv h1
    go_enter Tryz.func31, Tryz.ntmps31
    go_wp2_with fail
    refine HN.out.mono ?_
    rintro e w2 ⟨rfl, hb⟩
    go_wp2_with fail
    go_ret
    exact ⟨rfl, HF.out _ hb⟩
end
end Go.Proofs.YtnnaoldpacbagaaGreat.cb
end
section
namespace Go.Proofs.YtnnaoldpacbagaaGreat.cb
open Go.RowKit
open Go.Proofs.YtnnaoldpacbagaaGreat.qu (KN ins QL)
open Go.Proofs.YtnnaoldpacbagaaGreat.dn (Du En lget lset ldel getV nerr dotB Sorted RetV serr lsetE)
open Go.Proofs.YtnnaoldpacbagaaGreat.bl (AB Bod BodC StoC Only Pq cut cutR wr WR)
open Go.Proofs.YtnnaoldpacbagaaGreat.br
set_option linter.unusedVariables false
set_option linter.unusedSimpArgs false

def newI (k par : Int) (t : ByteArray) : Ino := ⟨k, 1, 0, 0, if k = 2 then par else 0, abE, [], t⟩
def BlankE (w : World) (st lo : Nat) (x : Ino) (e : Ending) (w' : World) : Prop :=
  ∃ p : Pl, e = .returned (Pq p.nd) ∧ Below w.heap.size w w' ∧ InoC w' st lo p x ∧ w.heap.size ≤ p.nd ∧ (x.kind = 1 → w.heap.size ≤ p.bo ∧ w.heap.size ≤ p.bm ∧ p.bo ≠ p.nd ∧ p.bm ≠ p.nd ∧ p.bo ≠ p.bm) ∧ (x.kind = 2 → w.heap.size ≤ p.di ∧ p.di ≠ p.nd ∧ p.dr = none)
/-- A body without chunks. -/
theorem newBody (st : Nat) (w : World) : Calls Tryz.prog 126 #[Pq st] w (fun e w' => ∃ B M, e = .returned (Pq B) ∧ Bod w' st B M abE ∧ Below w.heap.size w w' ∧ w.heap.size ≤ B ∧ w.heap.size ≤ M ∧ B ≠ M) := by
  refine (bl.body_any st w).mono ?_
  rintro e w' ⟨rfl, rfl⟩
  have hb1 := bl.below_one w (.map #[] 0)
  have hb2 := bl.below_one (w.alloc (.map #[] 0)) (.cells #[Pq st, .int .i64 0, .map (some w.heap.size)] 219)
  have hs1 : (w.alloc (.map #[] 0)).heap.size = w.heap.size + 1 := by simp
  refine ⟨w.heap.size + 1, w.heap.size, rfl, bl.Bod.of (N := 0) ⟨?_, ?_, ?_, ?_⟩ ((bl.MapAt.made w).of_block (hb2.block _ (by simp))) ⟨Nat.zero_le _, (fun _ h => nomatch h), fun _ _ => rfl⟩, dn.below_step hb1 hb2, by omega, by omega, by omega⟩
  all_goals rw [← hs1]
  all_goals simp
  rfl
abbrev box8 (k : Int) (t : ByteArray) : Obj := .cells #[.int .i64 k, .int .i64 1, .int .i64 0, .int .i64 0, .pointer none, .pointer none, .int .i64 0, .string t] 142
theorem box8_cells (w : World) (k : Int) (t : ByteArray) : ((w.alloc (box8 k t)).cell? ⟨w.heap.size, 0, none⟩ = some (.int .i64 k) ∧ (w.alloc (box8 k t)).cell? ⟨w.heap.size, 1, none⟩ = some (.int .i64 1) ∧ (w.alloc (box8 k t)).cell? ⟨w.heap.size, 2, none⟩ = some (.int .i64 0) ∧ (w.alloc (box8 k t)).cell? ⟨w.heap.size, 3, none⟩ = some (.int .i64 0) ∧
    (w.alloc (box8 k t)).cell? ⟨w.heap.size, 4, none⟩ = some (.pointer none) ∧ (w.alloc (box8 k t)).cell? ⟨w.heap.size, 5, none⟩ = some (.pointer none) ∧ (w.alloc (box8 k t)).cell? ⟨w.heap.size, 6, none⟩ = some (.int .i64 0) ∧ (w.alloc (box8 k t)).cell? ⟨w.heap.size, 7, none⟩ = some (.string t)) ∧ ∀ j, (w.alloc (box8 k t)).frozen? ⟨w.heap.size, j, none⟩ = false := by
  simp
set_option maxRecDepth 100000 in
set_option maxHeartbeats 1000000 in
theorem blank_any (P st lo : Nat) (w : World) (hP : w.cell? ⟨P, 0, none⟩ = some (Pq st)) (hPl : P < w.heap.size) (hlo : lo ≤ w.heap.size) (k par : Int) (t : ByteArray) : Calls Tryz.prog 75 #[Pq P, .int .i64 k, .int .i64 par, .string t] w (BlankE w st lo (newI k par t)) := by
  have h8 := box8_cells w k t
  have HB := Lib.hid (dn.below_alloc w (box8 k t))
  have hz : (w.alloc (box8 k t)).heap.size = w.heap.size + 1 := World.size_alloc _ _
  by_cases h1 : k = 1
  · subst h1
    have hp := (HB.out.cell (p := ⟨P, 0, none⟩) hPl).trans hP
    have HC := Lib.hid (newBody st (w.alloc (box8 1 t)))
    have HE := Lib.hid (show ∀ w2 B M, Bod w2 st B M abE → Below (w.alloc (box8 1 t)).heap.size (w.alloc (box8 1 t)) w2 → (w.alloc (box8 1 t)).heap.size ≤ B → (w.alloc (box8 1 t)).heap.size ≤ M → B ≠ M →
        w2.cell? ⟨w.heap.size, 4, none⟩ = some (.pointer none) ∧ w2.frozen? ⟨w.heap.size, 4, none⟩ = false ∧ BlankE w st lo (newI 1 par t) (.returned (Pq w.heap.size)) (w2.setCell ⟨w.heap.size, 4, none⟩ (Pq B)) from fun w2 B M hb hw hB hM hBM => by
      rw [hz] at hw hB hM
      have c : ∀ j, w2.cell? ⟨w.heap.size, j, none⟩ = (w.alloc (box8 1 t)).cell? ⟨w.heap.size, j, none⟩ := fun j => hw.cell (p := ⟨w.heap.size, j, none⟩) (by show w.heap.size < _; omega)
      have f : ∀ j, w2.frozen? ⟨w.heap.size, j, none⟩ = false := fun j => (hw.frozen (p := ⟨w.heap.size, j, none⟩) (by show w.heap.size < _; omega)).trans (h8.2 j)
      have eo : ∀ i, i ≠ 4 → (w2.setCell ⟨w.heap.size, 4, none⟩ (Pq B)).cell? ⟨w.heap.size, i, none⟩ = (w.alloc (box8 1 t)).cell? ⟨w.heap.size, i, none⟩ := fun i hi => (World.cell?_setCell_other _ _ _ _ (fun e => hi (by injection e with _ e _; exact e.symm))).trans (c i)
      refine ⟨(c 4).trans h8.1.2.2.2.2.1, f 4, ⟨w.heap.size, B, M, 0, none, 0⟩, rfl, (HB.out.trans (hw.mono (Nat.le_succ _))).setCell (Nat.le_refl _) _, ?_, Nat.le_refl _, fun _ => ⟨by show w.heap.size ≤ B; omega, by show w.heap.size ≤ M; omega, by show B ≠ w.heap.size; omega, by show M ≠ w.heap.size; omega, hBM⟩, fun e => by cases e⟩
      refine ⟨(eo 0 (by omega)).trans h8.1.1, (eo 1 (by omega)).trans h8.1.2.1, (eo 2 (by omega)).trans h8.1.2.2.1, (eo 3 (by omega)).trans h8.1.2.2.2.1, World.cell?_setCell_same' _ _ _ (by rw [c 4, h8.1.2.2.2.2.1]; rfl), (eo 5 (by omega)).trans h8.1.2.2.2.2.2.1, (eo 6 (by omega)).trans h8.1.2.2.2.2.2.2.1, (eo 7 (by omega)).trans h8.1.2.2.2.2.2.2.2, fun j => by rw [World.frozen?_setCell]; exact f j, fun _ => ?_, fun e => by cases e⟩
      exact hb.keep (Below.heap_setCell _ _ _ _ (by show B ≠ w.heap.size; omega)) (Below.heap_setCell _ _ _ _ (by show M ≠ w.heap.size; omega)))
    generalize newI 1 par t = x at *
    clear h8 hP hPl hlo
    go_enter Tryz.func75, Tryz.ntmps75
    go_wp2_with fail
    refine HC.out.mono ?_
    rintro e w2 ⟨B, M, rfl, a1, a2, a3, a4, a5⟩
    obtain ⟨q1, q2, q3⟩ := HE.out w2 B M a1 a2 a3 a4 a5
    clear a1 a2 a3 a4 a5 hp
    go_wp2_with fail
    go_ret
    exact q3
  · by_cases h2 : k = 2
    · subst h2
      have HC := Lib.hid (dn.new_any (w.alloc (box8 2 t)) lo (by rw [hz]; omega))
      have HE := Lib.hid (show ∀ w2, Du w2 (w.alloc (box8 2 t)).heap.size lo none 0 [] → Below (w.alloc (box8 2 t)).heap.size (w.alloc (box8 2 t)) w2 →
          w2.cell? ⟨w.heap.size, 5, none⟩ = some (.pointer none) ∧ w2.cell? ⟨w.heap.size, 6, none⟩ = some (.int .i64 0) ∧ w2.frozen? ⟨w.heap.size, 5, none⟩ = false ∧ w2.frozen? ⟨w.heap.size, 6, none⟩ = false ∧
          BlankE w st lo (newI 2 par t) (.returned (Pq w.heap.size)) ((w2.setCell ⟨w.heap.size, 5, none⟩ (Pq (w.alloc (box8 2 t)).heap.size)).setCell ⟨w.heap.size, 6, none⟩ (.int .i64 par)) from fun w2 hb hw => by
        rw [hz] at hw hb ⊢
        have c : ∀ j, w2.cell? ⟨w.heap.size, j, none⟩ = (w.alloc (box8 2 t)).cell? ⟨w.heap.size, j, none⟩ := fun j => hw.cell (p := ⟨w.heap.size, j, none⟩) (by show w.heap.size < _; omega)
        have f : ∀ j, w2.frozen? ⟨w.heap.size, j, none⟩ = false := fun j => (hw.frozen (p := ⟨w.heap.size, j, none⟩) (by show w.heap.size < _; omega)).trans (h8.2 j)
        have e1 : ∀ i, i ≠ 5 → (w2.setCell ⟨w.heap.size, 5, none⟩ (Pq (w.heap.size + 1))).cell? ⟨w.heap.size, i, none⟩ = (w.alloc (box8 2 t)).cell? ⟨w.heap.size, i, none⟩ := fun i hi => (World.cell?_setCell_other _ _ _ _ (fun e => hi (by injection e with _ e _; exact e.symm))).trans (c i)
        have e5 : (w2.setCell ⟨w.heap.size, 5, none⟩ (Pq (w.heap.size + 1))).cell? ⟨w.heap.size, 5, none⟩ = some (Pq (w.heap.size + 1)) := World.cell?_setCell_same' _ _ _ (by rw [c 5, h8.1.2.2.2.2.2.1]; rfl)
        have e6 := (e1 6 (by omega)).trans h8.1.2.2.2.2.2.2.1
        generalize hw3 : w2.setCell ⟨w.heap.size, 5, none⟩ (Pq (w.heap.size + 1)) = w3 at *
        have eo : ∀ i, i ≠ 6 → (w3.setCell ⟨w.heap.size, 6, none⟩ (.int .i64 par)).cell? ⟨w.heap.size, i, none⟩ = w3.cell? ⟨w.heap.size, i, none⟩ := fun i hi => World.cell?_setCell_other _ _ _ _ (fun e => hi (by injection e with _ e _; exact e.symm))
        have hb3 : Below w.heap.size w w3 := by rw [← hw3]; exact (HB.out.trans (hw.mono (Nat.le_succ _))).setCell (Nat.le_refl _) _
        refine ⟨(c 5).trans h8.1.2.2.2.2.2.1, (c 6).trans h8.1.2.2.2.2.2.2.1, f 5, f 6, ⟨w.heap.size, 0, 0, w.heap.size + 1, none, 0⟩, rfl, hb3.setCell (Nat.le_refl _) _, ?_, Nat.le_refl _, fun e => (by cases e), fun _ => ⟨by show w.heap.size ≤ w.heap.size + 1; omega, by show w.heap.size + 1 ≠ w.heap.size; omega, rfl⟩⟩
        refine ⟨(eo 0 (by omega)).trans ((e1 0 (by omega)).trans h8.1.1), (eo 1 (by omega)).trans ((e1 1 (by omega)).trans h8.1.2.1), (eo 2 (by omega)).trans ((e1 2 (by omega)).trans h8.1.2.2.1), (eo 3 (by omega)).trans ((e1 3 (by omega)).trans h8.1.2.2.2.1), (eo 4 (by omega)).trans ((e1 4 (by omega)).trans h8.1.2.2.2.2.1), (eo 5 (by omega)).trans e5,
          World.cell?_setCell_same' _ _ _ (by rw [e6]; rfl), (eo 7 (by omega)).trans ((e1 7 (by omega)).trans h8.1.2.2.2.2.2.2.2), fun j => by rw [World.frozen?_setCell, ← hw3, World.frozen?_setCell]; exact f j, fun e => (by cases e), fun _ => ?_⟩
        exact hb.of_blocks ((Below.heap_setCell _ _ _ _ (by show w.heap.size + 1 ≠ w.heap.size; omega)).trans (by rw [← hw3]; exact Below.heap_setCell _ _ _ _ (by show w.heap.size + 1 ≠ w.heap.size; omega))) (fun G e => by cases e))
      generalize newI 2 par t = x at *
      clear h8 hP hPl hlo
      go_enter Tryz.func75, Tryz.ntmps75
      go_wp2_with fail
      refine HC.out.mono ?_
      rintro e w2 ⟨rfl, a1, a2⟩
      obtain ⟨q1, q2, q3, q4, q5⟩ := HE.out w2 a1 a2
      clear a1 a2
      go_wp2_with fail
      go_ret
      rw [hz] at q5
      exact q5
    · have HE := Lib.hid (show BlankE w st lo (newI k par t) (.returned (Pq w.heap.size)) (w.alloc (box8 k t)) from by
        have hx : newI k par t = ⟨k, 1, 0, 0, 0, abE, [], t⟩ := by unfold newI; rw [if_neg h2]
        rw [hx]
        refine ⟨⟨w.heap.size, 0, 0, 0, none, 0⟩, rfl, HB.out, ⟨h8.1.1, h8.1.2.1, h8.1.2.2.1, h8.1.2.2.2.1, ?_, ?_, h8.1.2.2.2.2.2.2.1, h8.1.2.2.2.2.2.2.2, h8.2, fun e => absurd e h1, fun e => absurd e h2⟩, Nat.le_refl _, fun e => absurd e h1, fun e => absurd e h2⟩
        · rw [h8.1.2.2.2.2.1]; unfold bpV; rw [if_neg h1]
        · rw [h8.1.2.2.2.2.2.1]; unfold dpV; rw [if_neg h2])
      generalize newI k par t = x at *
      have q1 : (k == 1) = false := by simpa using h1
      have q2 : (k == 2) = false := by simpa using h2
      clear h8 hP hPl hlo h1 h2
      go_enter Tryz.func75, Tryz.ntmps75
      go_wp2_with fail
      go_ret
      exact HE.out
end Go.Proofs.YtnnaoldpacbagaaGreat.cb
end
section
namespace Go.Proofs.YtnnaoldpacbagaaGreat.cb
open Go.RowKit
open Go.Proofs.YtnnaoldpacbagaaGreat.qu (KN ins QL)
open Go.Proofs.YtnnaoldpacbagaaGreat.dn (Du En lget lset ldel getV nerr dotB Sorted RetV serr lsetE)
open Go.Proofs.YtnnaoldpacbagaaGreat.bl (AB Bod BodC StoC Only Pq cut cutR wr WR)
open Go.Proofs.YtnnaoldpacbagaaGreat.br
set_option linter.unusedVariables false
set_option linter.unusedSimpArgs false

section
variable {w w' : World} {P lo st qb room T : Nat} {qo : Option Nat} {pl : Nat → Pl} {tag : Nat → Nat} {S : BS} {L : List KN}
/-- What the tags say of blocks that are the call's. -/
def RetG (w : World) (P lo st qb : Nat) (tag : Nat → Nat) (v : Value) (S' : BS) (room T : Nat) (e : Ending) (w' : World) : Prop :=
  e = .returned v ∧ ∃ qo' pl' tag' T', T' ≤ T + 1 ∧ CB w' P lo st qb qo' pl' tag' S' room (freeL S') T' ∧ Stp w w' tag tag'
theorem RetG.of {v : Value} {S' : BS} {e : Ending} (h : RetF w P lo st qb pl tag v S' room T e w') : RetG w P lo st qb tag v S' room T e w' := by
  obtain ⟨he, T', hT, qo', pl', tag', h1, h2, h3⟩ := h
  exact ⟨he, qo', pl', tag', T', hT, h1, h2⟩
theorem RetG.same (h : CB w P lo st qb qo pl tag S room (freeL S) T) (v : Value) (hb : Below w.heap.size w w') : RetG w P lo st qb tag v S room T (.returned v) w' := ⟨rfl, qo, pl, tag, T, Nat.le_succ T, h.below hb, Stp.below hb⟩
theorem serr_ok {s : ByteArray} {n : Nat} (h1 : nerr s.data.toList = 0) (h2 : dotB s = false) (h3 : 1 ≤ n) (L : List En) : serr s (n : Int) = 0 ∧ lsetE s (n : Int) L = lset s (n : Int) L := by
  have : serr s (n : Int) = 0 := by unfold serr; rw [if_neg (by omega), if_neg]; rintro (e | e); exact absurd e (by rw [h2]; decide); omega
  exact ⟨this, by unfold lsetE; rw [if_pos this]⟩
/-- The inode is laid, and its name set. -/
theorem make_end {w3 w4 : World} {qo3 : Option Nat} {pl3 : Nat → Pl} {tag3 : Nat → Nat} {D n : Nat} {s t : ByteArray} {k : Int} {r : List KN} {x : KN} {p : Pl} (hG : br.Good S room) (hv : S.vacant (D : Int) s = 0) (hbk : badKind k t = false) (hm : s.size ≤ 9223372036854775807) (hL : freeL S = x :: r) (hn : n = S.free 1 200)
    (h3 : CB w3 P lo st qb qo3 pl3 tag3 S room r T) (hs3 : Stp w w3 tag tag3) (hb : Below w3.heap.size w3 w4) (hx : InoC w4 st lo p (newI k (D : Int) t)) (b1 : w3.heap.size ≤ p.nd) (b2 : (newI k (D : Int) t).kind = 1 → w3.heap.size ≤ p.bo ∧ w3.heap.size ≤ p.bm ∧ p.bo ≠ p.nd ∧ p.bm ≠ p.nd ∧ p.bo ≠ p.bm) (b3 : (newI k (D : Int) t).kind = 2 → w3.heap.size ≤ p.di ∧ p.di ≠ p.nd ∧ p.dr = none) :
    ∃ C, (w4.setCell ⟨P, 1 + n, none⟩ (Pq p.nd)).cell? ⟨(pl3 D).nd, 5, none⟩ = some (Pq C) ∧
      Calls Tryz.prog 81 #[Pq C, .string s, .int .i64 (n : Int)] (w4.setCell ⟨P, 1 + n, none⟩ (Pq p.nd)) (fun e w' => e = .returned (.int .i64 0) ∧ ∃ qo' pl' tag' T', T' ≤ T + 1 ∧ CB w' P lo st qb qo' pl' tag' (S.make (D : Int) s k t).2 room (freeL (S.make (D : Int) s k t).2) T' ∧ Stp w w' tag tag') := by
  obtain ⟨D', hD', d1, d2, hD, hl, hg, hne, hdo⟩ := vacant_ok hv
  obtain rfl : D = D' := by omega
  obtain ⟨hx0, n1, n2, _⟩ := freeL_cons hL
  rw [← hn] at n1 n2
  have hz : (S.ino n).kind = 0 := by rw [hn]; exact (free_spec S 200 1).2.2.1 (by omega)
  have hnD : n ≠ D := fun e => by rw [e, hD] at hz; cases hz
  have hxk : (newI k (D : Int) t).kind ≠ 0 := by
    show k ≠ 0
    intro e; subst e
    unfold badKind at hbk; simp at hbk
  obtain ⟨tag5, h5, ht5⟩ := h3.born n2 hz hxk hb hx b1 b2 b3
  have eD : (BS.ino ⟨upd S.ino n (newI k (D : Int) t), S.used⟩ D) = S.ino D := upd_other _ _ (fun e => hnD e.symm)
  have hst : Stp w3 (w4.setCell ⟨P, 1 + n, none⟩ (Pq p.nd)) tag3 tag5 := ⟨ht5, (Only.of_below hb).trans ⟨rfl, rfl, rfl, by simp [World.setCell], fun j hj hF => Below.heap_setCell _ _ _ _ (fun e => hF (by show tag3 j ≠ 0; rw [e, h3.tP]; decide))⟩⟩
  have hi := h5.ino D d2 (by rw [eD, hD]; decide)
  rw [eD] at hi
  have c5 := hi.c5d hD
  rw [if_neg (fun e => hnD e.symm)] at c5
  refine ⟨_, c5, ?_⟩
  have hd := h5.dset d2 (by rw [eD]; exact hD) (by rw [eD]; exact hG.1.sorted D) (by rw [eD]; exact hG.1.dirLen D) s (n : Int) hm
  rw [eD] at hd
  dsimp only at hd
  rw [if_neg (fun e => hnD e.symm)] at hd
  obtain ⟨e0, e1⟩ := serr_ok (n := n) hne hdo n1 (S.ino D).dir
  rw [e0, e1] at hd
  refine hd.mono ?_
  rintro e w6 ⟨he, qo6, pl6, tag6, h6, hs6, hp6⟩
  have eM : (S.make (D : Int) s k t).2 = ⟨upd (upd S.ino n (newI k (D : Int) t)) D { S.ino D with dir := lset s (n : Int) (S.ino D).dir }, S.used⟩ := by
    unfold BS.make
    rw [if_neg (by omega), if_neg (by rw [hbk]; decide)]
    dsimp only
    rw [← hn, if_neg (by omega)]
    unfold BS.putDir BS.put
    dsimp only
    rw [Int.toNat_natCast, Int.toNat_natCast]
    show BS.mk (upd (upd S.ino n (newI k (D : Int) t)) D { upd S.ino n (newI k (D : Int) t) D with dir := lset s (n : Int) (upd S.ino n (newI k (D : Int) t) D).dir }) S.used = _
    rw [upd_other _ _ (fun e => hnD e.symm)]
  have hf : r = freeL (S.make (D : Int) s k t).2 := by
    rw [eM]
    refine freeL_pop hL ?_ fun j hj => ?_
    · rw [← hn]
      show (upd _ D _ n).kind ≠ 0
      rw [upd_other _ _ hnD, upd_same]; exact hxk
    · rw [← hn] at hj
      show (upd _ D _ j).kind = _
      by_cases e : j = D
      · subst e; rw [upd_same]
      · rw [upd_other _ _ e, upd_other _ _ hj]
  rw [← eM] at h6
  rw [← hf]
  exact ⟨he, qo6, pl6, tag6, T, Nat.le_succ T, h6, hs3.trans (hst.trans hs6)⟩
set_option maxRecDepth 100000 in
set_option maxHeartbeats 1000000 in
theorem make_any (h : CB w P lo st qb qo pl tag S room (freeL S) T) (hG : br.Good S room) (hT : T ≤ 900000) (d : Int) (s : ByteArray) (k : Int) (t : ByteArray) (hm : s.size ≤ 9223372036854775807) (hmt : t.size ≤ 9223372036854775807) :
    Calls Tryz.prog 29 #[Pq P, .int .i64 d, .string s, .int .i64 k, .string t] w (RetG w P lo st qb tag (.tuple #[.int .i64 (S.make d s k t).1.1, .int .i64 (S.make d s k t).1.2]) (S.make d s k t).2 room T) := by
  have HV := Lib.hid (vacant_any h hG d s hm)
  unfold RetW at HV
  have HF := Lib.hid (fun w2 v hb => RetG.same (w' := w2) h v hb)
  by_cases h1 : S.vacant d s = 0
  · obtain ⟨D, rfl, d1, d2, hD, _⟩ := vacant_ok h1
    have hvv : vacV S pl (D : Int) s = .tuple #[Pq (pl D).nd, .int .i64 0] := by unfold vacV; rw [if_pos h1, h1]; rfl
    rw [hvv] at HV
    have HFT := Lib.hid (fun w2 => fits_any k t w2 hmt)
    cases hbk : badKind k t
    · rw [hbk] at HFT
      have HPP := Lib.hid (fun w2 (hb : Below w.heap.size w w2) => (h.below hb).qpop hT)
      have HQ := Lib.hid (fun w2 (hb : Below w.heap.size w w2) => (h.below hb).cq)
      cases hL : freeL S with
      | nil =>
        rw [hL] at HPP
        have hpv : qu.popV ([] : List KN) = .tuple #[.int .i64 0, .int .i64 0, .bool false] := rfl
        rw [hpv] at HPP
        have hv := Lib.hid (show S.make (D : Int) s k t = ((0, 28), S) by
          have := freeL_nil hL
          unfold BS.make; rw [if_neg (by omega), if_neg (by rw [hbk]; decide)]; dsimp only; rw [if_pos (by omega)])
        rw [hv.out]
        have HE := Lib.hid (show ∀ w2 w3, Below w.heap.size w w2 → Nx w2 w3 P lo st qb pl tag S room ([] : List KN).tail T → RetG w P lo st qb tag (.tuple #[.int .i64 0, .int .i64 28]) S room T (.returned (.tuple #[.int .i64 0, .int .i64 28])) w3 from fun w2 w3 hb hx => by
          obtain ⟨qo', pl', tag', h1, h2, h3⟩ := hx
          exact ⟨rfl, qo', pl', tag', T, Nat.le_succ T, by rw [hL]; exact h1, (Stp.below hb).trans h2⟩)
        generalize (pl D).nd = N at *
        clear h hG hT h1 hvv hbk hL hpv hv HF
        go_enter Tryz.func29, Tryz.ntmps29
        go_wp2_with fail
        refine HV.out.mono ?_
        rintro e w2 ⟨rfl, hb⟩
        have q0 := HQ.out _ hb
        have HP2 := Lib.hid (HPP.out _ hb)
        have HB := Lib.hid hb
        clear HQ HPP hb HV
        go_wp2_with fail
        refine (HFT.out _).mono ?_
        rintro e w3 ⟨rfl, rfl⟩
        go_wp2_with fail
        refine HP2.out.mono ?_
        rintro e w3 ⟨rfl, hx⟩
        clear q0
        go_wp2_with fail
        go_ret2
        exact HE.out _ _ HB.out hx
      | cons x r =>
        obtain ⟨hx0, n1, n2, _⟩ := freeL_cons hL
        obtain ⟨n, hn⟩ : ∃ n, n = S.free 1 200 := ⟨_, rfl⟩
        rw [← hn] at hx0 n1 n2
        subst hx0
        rw [hL] at HPP
        have hpv : qu.popV (kk n :: r) = .tuple #[.int .i64 (n : Int), .int .i64 (n : Int), .bool true] := rfl
        have htl : (kk n :: r).tail = r := rfl
        rw [hpv, htl] at HPP
        have hv := Lib.hid (show (S.make (D : Int) s k t).1 = ((n : Int), 0) by
          unfold BS.make; rw [if_neg (by omega), if_neg (by rw [hbk]; decide)]; dsimp only; rw [← hn, if_neg (by omega)])
        rw [hv.out]
        have HM := Lib.hid (fun w3 w4 qo3 pl3 tag3 p h3 hs3 hb hx b1 b2 b3 => make_end (w := w) (w3 := w3) (w4 := w4) (qo3 := qo3) (pl3 := pl3) (tag3 := tag3) (p := p) (S := S) (P := P) (lo := lo) (st := st) (qb := qb) (T := T) (tag := tag) (D := D) hG h1 hbk hm hL hn h3 hs3 hb hx b1 b2 b3)
        have HBK := Lib.hid (fun w3 qo3 pl3 tag3 (h3 : CB w3 P lo st qb qo3 pl3 tag3 S room r T) => blank_any P st lo w3.drew h3.c0 h3.plt.1 (by have := h3.plt; show lo ≤ w3.heap.size; omega) k (D : Int) t)
        have hzn : (S.ino n).kind = 0 := by rw [hn]; exact (free_spec S 200 1).2.2.1 (by omega)
        have HSL := Lib.hid (fun w3 w4 qo3 pl3 tag3 (h3 : CB w3 P lo st qb qo3 pl3 tag3 S room r T) (hb : Below w3.heap.size w3 w4) => (show w4.cell? ⟨P, 1 + n, none⟩ = some (.pointer none) ∧ w4.frozen? ⟨P, 1 + n, none⟩ = false from
          ⟨(hb.cell (p := ⟨P, 1 + n, none⟩) h3.plt.1).trans ((h3.ci n n2).trans (congrArg some (ptV_no hzn))), (hb.frozen (p := ⟨P, 1 + n, none⟩) h3.plt.1).trans (h3.cf _)⟩))
        have HDn := Lib.hid (show (S.ino D).kind ≠ 0 by rw [hD]; decide)
        have HND := Lib.hid (show ∀ pl3 : Nat → Pl, (∀ j, (S.ino j).kind ≠ 0 → (pl3 j).nd = (pl j).nd) → (pl3 D).nd = (pl D).nd from fun pl3 h => h D HDn.out)
        generalize (pl D).nd = N at *
        have in0 : (0 : Int) ≤ (n : Int) := by omega
        have in1 : (n : Int) ≤ 200 := by omega
        have in2 : (n : Int) < 201 := by omega
        clear h hG hT h1 hvv hbk hL hpv hv HF htl hn hzn HDn
        go_enter Tryz.func29, Tryz.ntmps29
        go_wp2_with fail
        refine HV.out.mono ?_
        rintro e w2 ⟨rfl, hb⟩
        have q0 := HQ.out _ hb
        have HP2 := Lib.hid (HPP.out _ hb)
        have HB := Lib.hid hb
        clear HQ HPP hb HV
        go_wp2_with fail
        refine (HFT.out _).mono ?_
        rintro e w3 ⟨rfl, rfl⟩
        go_wp2_with fail
        refine HP2.out.mono ?_
        rintro e w3 ⟨rfl, qo3, pl3, tag3, h3, hs3, hp3⟩
        clear q0
        go_wp2_with fail
        go_region_held3 (fun w' => True)
          (first | trivial | assumption | go_keep)
          (first
          | (go_at_call 75; ((with_reducible refine (HBK.out w3 qo3 pl3 tag3 h3).mono ?_); rintro e w4 ⟨p, rfl, hb4, hx4, b1, b2, b3⟩; have hb4' := (Below.refl w3.heap.size w3).drew.trans hb4; obtain ⟨z1, z2⟩ := HSL.out w3 w4 qo3 pl3 tag3 h3 hb4')))
        all_goals
          obtain ⟨C, c5, hd⟩ := HM.out w3 w4 qo3 pl3 tag3 p h3 ((Stp.below HB.out).trans hs3) hb4' hx4 b1 b2 b3
          rw [HND.out pl3 hp3] at c5
          have HD := Lib.hid hd
          clear hd h3 hs3 hp3 hb4 hb4' hx4 b1 b2 b3 z1 z2 HM HBK HSL HFT HND HP2
          go_wp2_with fail
          refine HD.out.mono ?_
          rintro e w6 ⟨rfl, hx⟩
          clear c5
          go_wp2_with fail
          go_ret2
          exact ⟨rfl, hx⟩
    · rw [hbk] at HFT
      have hv := Lib.hid (show S.make (D : Int) s k t = ((0, 22), S) by unfold BS.make; rw [if_neg (by omega), if_pos hbk])
      rw [hv.out]
      generalize (pl D).nd = N at *
      clear h hG hT h1 hvv hbk hv
      go_enter Tryz.func29, Tryz.ntmps29
      go_wp2_with fail
      refine HV.out.mono ?_
      rintro e w2 ⟨rfl, hb⟩
      go_wp2_with fail
      refine (HFT.out _).mono ?_
      rintro e w3 ⟨rfl, rfl⟩
      go_wp2_with fail
      go_ret2
      exact HF.out _ _ hb
  · have hv := Lib.hid (show S.make d s k t = ((0, S.vacant d s), S) by unfold BS.make; rw [if_pos h1])
    have hvv : vacV S pl d s = .tuple #[.pointer none, .int .i64 (S.vacant d s)] := by unfold vacV; rw [if_neg h1]
    rw [hvv] at HV
    rw [hv.out]
    generalize S.vacant d s = x at *
    have hx : (x != 0) = true := by simpa using h1
    clear h hG hT h1 hvv hv
    go_enter Tryz.func29, Tryz.ntmps29
    go_wp2_with fail
    refine HV.out.mono ?_
    rintro e w2 ⟨rfl, hb⟩
    go_wp2_with fail
    go_ret2
    exact HF.out _ _ hb
end
end Go.Proofs.YtnnaoldpacbagaaGreat.cb
end
section
namespace Go.Proofs.YtnnaoldpacbagaaGreat.cb
open Go.RowKit
open Go.Proofs.YtnnaoldpacbagaaGreat.qu (KN ins QL)
open Go.Proofs.YtnnaoldpacbagaaGreat.dn (Du En lget lset ldel getV nerr dotB Sorted RetV serr lsetE)
open Go.Proofs.YtnnaoldpacbagaaGreat.bl (AB Bod BodC StoC Only Pq cut cutR wr WR)
open Go.Proofs.YtnnaoldpacbagaaGreat.br
set_option linter.unusedVariables false
set_option linter.unusedSimpArgs false

theorem upd_comm (f : Nat → Ino) {i j : Nat} (x y : Ino) (h : i ≠ j) : upd (upd f i x) j y = upd (upd f j y) i x := by
  funext k
  by_cases e1 : k = i
  · subst e1; rw [upd_other _ _ h, upd_same, upd_same]
  · by_cases e2 : k = j
    · subst e2; rw [upd_same, upd_other _ _ e1, upd_same]
    · rw [upd_other _ _ e2, upd_other _ _ e1, upd_other _ _ e1, upd_other _ _ e2]
section
variable {w w' : World} {P lo st qb room T : Nat} {qo : Option Nat} {pl : Nat → Pl} {tag : Nat → Nat} {S : BS} {L : List KN}
/-- Behind the name's being set the inode has one link more. -/
theorem link_end {w1 : World} {qo1 : Option Nat} {pl1 : Nat → Pl} {tag1 : Nat → Nat} {D I : Nat} {s : ByteArray} (hv : S.vacant (D : Int) s = 0) (i1 : 1 ≤ I) (i2 : I ≤ 200) (hne : I ≠ D) (hn : (S.ino I).kind ≠ 0) (hk : (S.ino I).kind ≠ 2) (h0 : (S.ino I).links ≠ 0) (hl : (S.ino I).links < 20) (hI : S.isI (I : Int) = true)
    (h1 : CB w1 P lo st qb qo1 pl1 tag1 ⟨upd S.ino D { S.ino D with dir := lset s (I : Int) (S.ino D).dir }, S.used⟩ room (freeL S) T) (hs : Stp w w1 tag tag1) (hp : ∀ j, (upd S.ino D { S.ino D with dir := lset s (I : Int) (S.ino D).dir } j).kind ≠ 0 → (pl1 j).nd = (pl j).nd) :
    w1.cell? ⟨(pl I).nd, 1, none⟩ = some (.int .i64 (S.ino I).links) ∧ w1.frozen? ⟨(pl I).nd, 1, none⟩ = false ∧
    RetG w P lo st qb tag (.int .i64 0) (S.link (D : Int) s (I : Int)).2 room T (.returned (.int .i64 0)) (w1.setCell ⟨(pl I).nd, 1, none⟩ (.int .i64 ((S.ino I).links + 1))) := by
  have eI : upd S.ino D { S.ino D with dir := lset s (I : Int) (S.ino D).dir } I = S.ino I := upd_other _ _ hne
  have hp' := hp I (by rw [eI]; exact hn)
  have hn1 : (BS.ino ⟨upd S.ino D { S.ino D with dir := lset s (I : Int) (S.ino D).dir }, S.used⟩ I).kind ≠ 0 := by show (upd _ _ _ I).kind ≠ 0; rw [eI]; exact hn
  have hi := h1.ino I i2 hn1
  have ec1 := hi.c1
  have ef1 := hi.f 1
  have h2 := h1.links i2 hn1 ((S.ino I).links + 1)
  dsimp only at ec1 h2
  rw [eI] at ec1 h2
  rw [hp'] at ec1 ef1 h2
  have eM : (S.link (D : Int) s (I : Int)).2 = ⟨upd (upd S.ino D { S.ino D with dir := lset s (I : Int) (S.ino D).dir }) I { S.ino I with links := (S.ino I).links + 1 }, S.used⟩ := by
    unfold BS.link
    rw [if_neg (by omega), if_neg (by rw [hI, at_nat]; simp; exact h0), if_neg (by rw [at_nat]; exact hk), if_neg (by rw [at_nat]; omega)]
    unfold BS.putDir BS.put
    dsimp only
    rw [Int.toNat_natCast, Int.toNat_natCast, at_nat]
    show BS.mk (upd (upd S.ino I { S.ino I with links := (S.ino I).links + 1 }) D { upd S.ino I { S.ino I with links := (S.ino I).links + 1 } D with dir := lset s (I : Int) (upd S.ino I { S.ino I with links := (S.ino I).links + 1 } D).dir }) S.used = _
    rw [upd_other _ _ (fun e => hne e.symm), upd_comm _ _ _ hne]
  have hf : freeL (S.link (D : Int) s (I : Int)).2 = freeL S := by
    rw [eM]
    refine freeL_same fun j => ?_
    show (upd (upd _ _ _) _ _ j).kind = _
    by_cases e : j = I
    · subst e; rw [upd_same]
    · rw [upd_other _ _ e]
      by_cases e2 : j = D
      · subst e2; rw [upd_same]
      · rw [upd_other _ _ e2]
  refine ⟨ec1, ef1, rfl, qo1, pl1, tag1, T, Nat.le_succ T, ?_, hs.trans h2.2⟩
  rw [hf, eM]; exact h2.1
set_option maxRecDepth 100000 in
set_option maxHeartbeats 1000000 in
theorem link_any (h : CB w P lo st qb qo pl tag S room (freeL S) T) (hG : br.Good S room) (d : Int) (s : ByteArray) (i : Int) (hm : s.size ≤ 9223372036854775807) :
    Calls Tryz.prog 46 #[Pq P, .int .i64 d, .string s, .int .i64 i] w (RetG w P lo st qb tag (.int .i64 (S.link d s i).1) (S.link d s i).2 room T) := by
  have HV := Lib.hid (vacant_any h hG d s hm)
  unfold RetW at HV
  have HF := Lib.hid (fun w2 v hb => RetG.same (w' := w2) h v hb)
  by_cases h1 : S.vacant d s = 0
  · obtain ⟨D, rfl, d1, d2, hD, hDl, hg, hne, hdo⟩ := vacant_ok h1
    have hvv : vacV S pl (D : Int) s = .tuple #[Pq (pl D).nd, .int .i64 0] := by unfold vacV; rw [if_pos h1, h1]; rfl
    rw [hvv] at HV
    have HA := Lib.hid (fun w2 (hb : Below w.heap.size w w2) => at_any (h.below hb) hG.z0 i)
    rcases isI_cases S i with hI | ⟨I, rfl, i1, i2, hn, hI⟩
    · rw [atV_no hI] at HA
      have hv := Lib.hid (show S.link (D : Int) s i = (2, S) by unfold BS.link; rw [if_neg (by omega), if_pos (.inl hI)])
      rw [hv.out]
      generalize (pl D).nd = N at *
      clear h hG h1 hvv hv hI hg
      go_enter Tryz.func46, Tryz.ntmps46
      go_wp2_with fail
      refine HV.out.mono ?_
      rintro e w2 ⟨rfl, hb⟩
      go_wp2_with fail
      refine (HA.out _ hb).mono ?_
      rintro e w3 ⟨rfl, rfl⟩
      go_wp2_with fail
      go_ret
      exact HF.out _ _ hb
    · rw [atV_yes i1 i2 hn] at HA
      have HI := Lib.hid (fun w2 (hb : Below w.heap.size w w2) => (h.below hb).ino I i2 hn)
      have C0 := Lib.hid (fun w2 (hb : Below w.heap.size w w2) => (HI.out w2 hb).c0)
      have C1 := Lib.hid (fun w2 (hb : Below w.heap.size w w2) => (HI.out w2 hb).c1)
      by_cases e0 : (S.ino I).links = 0
      · have hv := Lib.hid (show S.link (D : Int) s (I : Int) = (2, S) by unfold BS.link; rw [if_neg (by omega), if_pos (.inr (by rw [at_nat]; exact e0))])
        rw [hv.out]
        rw [e0] at C1
        generalize (pl D).nd = N at *
        generalize (pl I).nd = M at *
        clear h hG h1 hvv hv hI hg HI C0 e0 hn
        go_enter Tryz.func46, Tryz.ntmps46
        go_wp2_with fail
        refine HV.out.mono ?_
        rintro e w2 ⟨rfl, hb⟩
        have c1 := C1.out _ hb
        go_wp2_with fail
        refine (HA.out _ hb).mono ?_
        rintro e w3 ⟨rfl, rfl⟩
        clear C1 HA
        go_wp2_with fail
        go_ret
        exact HF.out _ _ hb
      · by_cases e2 : (S.ino I).kind = 2
        · have hv := Lib.hid (show S.link (D : Int) s (I : Int) = (1, S) by unfold BS.link; rw [if_neg (by omega), if_neg (by rw [hI, at_nat]; simp; exact e0), if_pos (by rw [at_nat]; exact e2)])
          rw [hv.out]
          rw [e2] at C0
          generalize (pl D).nd = N at *
          generalize (pl I).nd = M at *
          generalize (S.ino I).links = K at *
          have q0 : (K == 0) = false := by simpa using e0
          clear h hG h1 hvv hv hI hg HI e0 e2 hn
          go_enter Tryz.func46, Tryz.ntmps46
          go_wp2_with fail
          refine HV.out.mono ?_
          rintro e w2 ⟨rfl, hb⟩
          have c1 := C1.out _ hb
          have c0 := C0.out _ hb
          go_wp2_with fail
          refine (HA.out _ hb).mono ?_
          rintro e w3 ⟨rfl, rfl⟩
          clear C1 C0 HA
          go_wp2_with fail
          go_ret
          exact HF.out _ _ hb
        · by_cases e3 : 20 ≤ (S.ino I).links
          · have hv := Lib.hid (show S.link (D : Int) s (I : Int) = (31, S) by unfold BS.link; rw [if_neg (by omega), if_neg (by rw [hI, at_nat]; simp; exact e0), if_neg (by rw [at_nat]; exact e2), if_pos (by rw [at_nat]; exact e3)])
            rw [hv.out]
            generalize (pl D).nd = N at *
            generalize (pl I).nd = M at *
            generalize (S.ino I).links = K at *
            generalize (S.ino I).kind = K2 at *
            have q0 : (K == 0) = false := by simpa using e0
            have q2 : (K2 == 2) = false := by simpa using e2
            clear h hG h1 hvv hv hI hg HI e0 e2 hn
            go_enter Tryz.func46, Tryz.ntmps46
            go_wp2_with fail
            refine HV.out.mono ?_
            rintro e w2 ⟨rfl, hb⟩
            have c1 := C1.out _ hb
            have c0 := C0.out _ hb
            go_wp2_with fail
            refine (HA.out _ hb).mono ?_
            rintro e w3 ⟨rfl, rfl⟩
            clear C1 C0 HA
            go_wp2_with fail
            go_ret
            exact HF.out _ _ hb
          · have hIne : I ≠ D := fun e => e2 (by rw [e]; exact hD)
            have hv := Lib.hid (show (S.link (D : Int) s (I : Int)).1 = 0 by unfold BS.link; rw [if_neg (by omega), if_neg (by rw [hI, at_nat]; simp; exact e0), if_neg (by rw [at_nat]; exact e2), if_neg (by rw [at_nat]; omega)])
            rw [hv.out]
            obtain ⟨s0, s1⟩ := serr_ok (n := I) hne hdo i1 (S.ino D).dir
            have HD := Lib.hid (fun w2 (hb : Below w.heap.size w w2) => (h.below hb).dset d2 hD (hG.1.sorted D) (hG.1.dirLen D) s (I : Int) hm)
            rw [s0, s1] at HD
            have C5 := Lib.hid (fun w2 (hb : Below w.heap.size w w2) => ((h.below hb).ino D d2 (by rw [hD]; decide)).c5d hD)
            have HM := Lib.hid (fun w1 qo1 pl1 tag1 h2 hs hp => link_end (w := w) (w1 := w1) (qo1 := qo1) (pl1 := pl1) (tag1 := tag1) (P := P) (lo := lo) (st := st) (qb := qb) (room := room) (T := T) (pl := pl) (tag := tag) (S := S) (s := s) h1 i1 i2 hIne hn e2 e0 (by omega) hI h2 hs hp)
            have hl0 := (hG.1.nums I).1
            generalize (pl D).nd = N at *
            generalize (pl D).di = C at *
            generalize (pl I).nd = M at *
            generalize (S.ino I).links = K at *
            generalize (S.ino I).kind = K2 at *
            have q0 : (K == 0) = false := by simpa using e0
            have q2 : (K2 == 2) = false := by simpa using e2
            have q3 : K ≤ 20 := by omega
            clear h hG h1 hvv hv hI hg HI e0 e2 hn s0 s1 HF
            go_enter Tryz.func46, Tryz.ntmps46
            go_wp2_with fail
            refine HV.out.mono ?_
            rintro e w2 ⟨rfl, hb⟩
            have c1 := C1.out _ hb
            have c0 := C0.out _ hb
            have c5 := C5.out _ hb
            have HD2 := Lib.hid (HD.out _ hb)
            have HB := Lib.hid hb
            go_wp2_with fail
            refine (HA.out _ hb).mono ?_
            rintro e w3 ⟨rfl, rfl⟩
            clear C1 C0 C5 HA HD hb
            go_wp2_with fail
            refine HD2.out.mono ?_
            rintro e w4 ⟨rfl, qo4, pl4, tag4, h4, hs4, hp4⟩
            obtain ⟨z1, z2, z3⟩ := HM.out w4 qo4 pl4 tag4 h4 ((Stp.below HB.out).trans hs4) hp4
            have HZ := Lib.hid z3
            clear c0 c1 c5 h4 hs4 hp4 z3 HM HD2
            go_wp2_with fail
            go_ret
            exact HZ.out
  · have hv := Lib.hid (show S.link d s i = (S.vacant d s, S) by unfold BS.link; rw [if_pos h1])
    have hvv : vacV S pl d s = .tuple #[.pointer none, .int .i64 (S.vacant d s)] := by unfold vacV; rw [if_neg h1]
    rw [hvv] at HV
    rw [hv.out]
    generalize S.vacant d s = x at *
    have hx : (x != 0) = true := by simpa using h1
    clear h hG h1 hvv hv
    go_enter Tryz.func46, Tryz.ntmps46
    go_wp2_with fail
    refine HV.out.mono ?_
    rintro e w2 ⟨rfl, hb⟩
    go_wp2_with fail
    go_ret
    exact HF.out _ _ hb
end
end Go.Proofs.YtnnaoldpacbagaaGreat.cb
end
section
namespace Go.Proofs.YtnnaoldpacbagaaGreat.cb
open Go.RowKit
open Go.Proofs.YtnnaoldpacbagaaGreat.qu (KN ins QL)
open Go.Proofs.YtnnaoldpacbagaaGreat.dn (Du En lget lset ldel getV nerr dotB Sorted RetV serr lsetE)
open Go.Proofs.YtnnaoldpacbagaaGreat.bl (AB Bod BodC StoC Only Pq cut cutR wr WR)
open Go.Proofs.YtnnaoldpacbagaaGreat.br
set_option linter.unusedVariables false
set_option linter.unusedSimpArgs false

section
variable {w w' : World} {P lo st qb room T : Nat} {qo : Option Nat} {pl : Nat → Pl} {tag : Nat → Nat} {S : BS} {L : List KN}
theorem freeL_upd {S : BS} {k : Nat} {x : Ino} {u : Nat} (h : x.kind = (S.ino k).kind) : freeL ⟨upd S.ino k x, u⟩ = freeL S := freeL_same fun j => by
  show (upd _ _ _ j).kind = _
  by_cases e : j = k
  · subst e; rw [upd_same, h]
  · rw [upd_other _ _ e]
theorem RetG.step {S' : BS} {v : Value} {T' : Nat} (h : CB w' P lo st qb qo pl tag S' room (freeL S) T') (hs : Stp w w' tag tag) (hf : freeL S' = freeL S) (hT : T' ≤ T + 1) : RetG w P lo st qb tag v S' room T (.returned v) w' :=
  ⟨rfl, qo, pl, tag, T', hT, by rw [hf]; exact h, hs⟩
set_option maxRecDepth 100000 in
set_option maxHeartbeats 1000000 in
theorem mark_any (h : CB w P lo st qb qo pl tag S room (freeL S) T) (hG : br.Good S room) (i m : Int) :
    Calls Tryz.prog 33 #[Pq P, .int .i64 i, .int .i64 m] w (RetG w P lo st qb tag (.int .i64 (S.mark i m).1) (S.mark i m).2 room T) := by
  have HA := Lib.hid (at_any h hG.z0 i)
  rcases isI_cases S i with hI | ⟨I, rfl, i1, i2, hn, hI⟩
  · rw [atV_no hI] at HA
    have hv := Lib.hid (show S.mark i m = (2, S) by unfold BS.mark; rw [if_pos hI])
    rw [hv.out]
    have HF := Lib.hid (RetG.same h (.int .i64 2) (Below.refl _ _))
    clear h hG hv hI
    go_enter Tryz.func33, Tryz.ntmps33
    go_wp2_with fail
    refine HA.out.mono ?_
    rintro e w3 ⟨rfl, rfl⟩
    go_wp2_with fail
    go_ret
    exact HF.out
  · rw [atV_yes i1 i2 hn] at HA
    have hi := h.ino I i2 hn
    have c3 := hi.c3
    have f3 := hi.f 3
    have hv := Lib.hid (show S.mark (I : Int) m = (0, ⟨upd S.ino I { S.ino I with marks := m }, S.used⟩) by unfold BS.mark; rw [if_neg (by rw [hI]; decide), at_nat]; rfl)
    rw [hv.out]
    have h2 := h.marks i2 hn m
    have HF := Lib.hid (RetG.step (v := .int .i64 0) h2.1 h2.2 (freeL_upd rfl) (Nat.le_succ T))
    dsimp only
    generalize BS.mk (upd S.ino I { S.ino I with marks := m }) S.used = S2 at *
    generalize (pl I).nd = M at *
    generalize (S.ino I).marks = K at *
    clear h hG hv hI h2 hi hn
    go_enter Tryz.func33, Tryz.ntmps33
    go_wp2_with fail
    refine HA.out.mono ?_
    rintro e w3 ⟨rfl, rfl⟩
    go_wp2_with fail
    go_ret
    exact HF.out
/-- Behind a hold's going the inode is settled. -/
theorem release_end {I : Nat} (h : CB w P lo st qb qo pl tag S room (freeL S) T) (hG : br.Good S room) (hr : room ≤ 65536) (hT : T ≤ 900000) (i1 : 1 ≤ I) (i2 : I ≤ 200) (hn : (S.ino I).kind ≠ 0) (h0 : (S.ino I).holds ≠ 0) :
    Calls Tryz.prog 135 #[Pq P, .int .i64 (I : Int)] (w.setCell ⟨(pl I).nd, 2, none⟩ (.int .i64 ((S.ino I).holds - 1))) (RetG w P lo st qb tag (.tuple #[]) (S.less (I : Int) 0 1) room T) := by
  have hb := Good_body hG I
  have hu : S.used ≤ 65536 := Nat.le_trans hG.1.room hr
  have hnum := hG.1.nums I
  obtain ⟨h2, hs2⟩ := h.holds i2 hn ((S.ino I).holds - 1)
  have e2 : (BS.ino ⟨upd S.ino I { S.ino I with holds := (S.ino I).holds - 1 }, S.used⟩ I) = { S.ino I with holds := (S.ino I).holds - 1 } := upd_same _ _ _
  have eS := settS_less S I 0 1 (x := { S.ino I with holds := (S.ino I).holds - 1 }) (by rw [Int.sub_zero])
  have hk2 : freeL ⟨upd S.ino I { S.ino I with holds := (S.ino I).holds - 1 }, S.used⟩ = freeL S := freeL_upd rfl
  have eu : (BS.mk (upd S.ino I { S.ino I with holds := (S.ino I).holds - 1 }) S.used).used = S.used := rfl
  generalize BS.mk (upd S.ino I { S.ino I with holds := (S.ino I).holds - 1 }) S.used = S2 at *
  have hx := settle_any h2 (k := I) i2 (by rw [e2]; exact hn) (by rw [e2]; exact hnum.1) (by rw [e2]; dsimp only; omega) (by rw [e2]; exact hb.2) (by rw [e2, eu]; exact hb.1) (by rw [eu]; exact hu) hT
  rw [← hk2, settL_free i1 i2 (by rw [e2]; exact hn), eS] at hx
  exact hx.mono fun e w2 ⟨he, qo', pl', tag', k1, k2, k3⟩ => ⟨he, qo', pl', tag', _, settT_le S2 I T, k1, hs2.trans k2⟩
/-- What a write comes to. -/
def WrI (S : BS) (room : Nat) (i off : Int) (len : Nat) (f : Nat → UInt8) (p : Nat) (err : Int) (S' : BS) : Prop :=
  (S.fileE i ≠ 0 ∧ p = 0 ∧ err = S.fileE i ∧ S' = S) ∨
  (S.fileE i = 0 ∧ WR (S.at i).body S.used room off len p err ∧ S.used + (wr (S.at i).body off p f).n - (S.at i).body.n ≤ room ∧ (wr (S.at i).body off p f).Ok ∧ S' = S.wrote i off p f)
set_option maxRecDepth 100000 in
set_option maxHeartbeats 1000000 in
theorem write_any (h : CB w P lo st qb qo pl tag S room (freeL S) T) (hG : br.Good S room) (hr : room ≤ 65536) (i off : Int) (A : Option Addr) (len dc : Nat) (f : Nat → UInt8) (hA : bl.BytesIn w (fun b => tag b ≠ 0) A len f) (hlc : len ≤ dc) (hdc : dc ≤ maxLen) :
    Calls Tryz.prog 35 #[Pq P, .int .i64 i, .int .i64 off, .slice A len dc] w (fun e w' => ∃ p err S', WrI S room i off len f p err S' ∧ RetG w P lo st qb tag (.tuple #[.int .i64 (p : Int), .int .i64 err]) S' room T e w') := by
  have HB := Lib.hid (body_any h hG i)
  by_cases h1 : S.fileE i = 0
  · obtain ⟨I, rfl, i1, i2, hk⟩ := fileE_ok h1
    have hb : bodV S pl (I : Int) = .tuple #[Pq (pl I).bo, .int .i64 0] := by unfold bodV; rw [if_pos h1, h1]; rfl
    rw [hb] at HB
    have HC := Lib.hid (h.bwrite i2 hk (Good_body hG I).1 hG.1.room hr off A len dc f hA hlc hdc)
    have c0 := h.c0
    have hv := Lib.hid (show ∀ w4 p err, WR (S.ino I).body S.used room off len p err → S.used + (wr (S.ino I).body off p f).n - (S.ino I).body.n ≤ room → (wr (S.ino I).body off p f).Ok →
        CB w4 P lo st qb qo pl tag ⟨upd S.ino I { S.ino I with body := wr (S.ino I).body off p f }, S.used + (wr (S.ino I).body off p f).n - (S.ino I).body.n⟩ room (freeL S) T → Stp w w4 tag tag →
        ∃ p' err' S', WrI S room (I : Int) off len f p' err' S' ∧ RetG w P lo st qb tag (.tuple #[.int .i64 (p' : Int), .int .i64 err']) S' room T (.returned (.tuple #[.int .i64 (p : Int), .int .i64 err])) w4 from fun w4 p err k1 k2 k3 k4 k5 =>
      ⟨p, err, _, .inr ⟨h1, by rw [at_nat]; exact k1, by rw [at_nat]; exact k2, by rw [at_nat]; exact k3, by unfold BS.wrote; rw [at_nat, Int.toNat_natCast]⟩, RetG.step k4 k5 (freeL_upd rfl) (Nat.le_succ T)⟩)
    have hw : ∀ p : Nat, p ≤ 0 ∨ True := fun _ => .inr trivial
    generalize (pl I).bo = M at *
    clear h hG h1 hb hk hA hw
    go_enter Tryz.func35, Tryz.ntmps35
    go_wp2_with fail
    refine HB.out.mono ?_
    rintro e w3 ⟨rfl, rfl⟩
    go_wp2_with fail
    refine HC.out.mono ?_
    rintro e w4 ⟨p, err, rfl, k1, k2, k3, k4, k5⟩
    have HZ := Lib.hid (hv.out w4 p err k1 k2 k3 k4 k5)
    clear c0 k1 k2 k3 k4 k5 hv HC HB
    go_wp2_with fail
    go_ret2
    exact HZ.out
  · have hb : bodV S pl i = .tuple #[.pointer none, .int .i64 (S.fileE i)] := by unfold bodV; rw [if_neg h1]
    rw [hb] at HB
    have HF := Lib.hid (show ∃ p err S', WrI S room i off len f p err S' ∧ RetG w P lo st qb tag (.tuple #[.int .i64 (p : Int), .int .i64 err]) S' room T (.returned (.tuple #[.int .i64 0, .int .i64 (S.fileE i)])) w from
      ⟨0, S.fileE i, S, .inl ⟨h1, rfl, rfl, rfl⟩, RetG.same h (.tuple #[.int .i64 0, .int .i64 (S.fileE i)]) (Below.refl _ _)⟩)
    unfold WrI at HF ⊢
    generalize S.fileE i = x at *
    have hx : (x != 0) = true := by simpa using h1
    clear h hG hb h1 hA
    go_enter Tryz.func35, Tryz.ntmps35
    go_wp2_with fail
    refine HB.out.mono ?_
    rintro e w3 ⟨rfl, rfl⟩
    go_wp2_with fail
    go_ret2
    exact HF.out
/-- What is read. -/
def readI (S : BS) (i off n : Int) : Int × Nat := if S.fileE i ≠ 0 then (S.fileE i, 0) else bl.readR (S.at i).body off n
def ReadI (w : World) (S : BS) (i off n : Int) (e : Ending) (w' : World) : Prop :=
  ∃ A c, e = .returned (.tuple #[.slice A (readI S i off n).2 c, .int .i64 (readI S i off n).1]) ∧ bl.Row w' w.heap.size A (readI S i off n).2 c (fun j => (S.at i).body.dat (off.toNat + j)) ∧ Below w.heap.size w w'
set_option maxRecDepth 100000 in
set_option maxHeartbeats 1000000 in
theorem read_any (h : CB w P lo st qb qo pl tag S room L T) (hG : br.Good S room) (i off n : Int) : Calls Tryz.prog 71 #[Pq P, .int .i64 i, .int .i64 off, .int .i64 n] w (ReadI w S i off n) := by
  have HB := Lib.hid (body_any h hG i)
  unfold ReadI
  by_cases h1 : S.fileE i = 0
  · obtain ⟨I, rfl, i1, i2, hk⟩ := fileE_ok h1
    have hb : bodV S pl (I : Int) = .tuple #[Pq (pl I).bo, .int .i64 0] := by unfold bodV; rw [if_pos h1, h1]; rfl
    rw [hb] at HB
    have HC := Lib.hid (h.bread i2 hk off n)
    unfold bl.ReadE at HC
    have c0 := h.c0
    have hv : readI S (I : Int) off n = bl.readR (S.ino I).body off n := by unfold readI; rw [if_neg (by omega), at_nat]
    rw [hv, at_nat]
    generalize (bl.readR (S.ino I).body off n).1 = r1 at *
    generalize (bl.readR (S.ino I).body off n).2 = r2 at *
    generalize (fun j => (S.ino I).body.dat (off.toNat + j)) = ff at *
    generalize (pl I).bo = M at *
    clear h hG h1 hb hk hv
    go_enter Tryz.func71, Tryz.ntmps71
    go_wp2_with fail
    refine HB.out.mono ?_
    rintro e w3 ⟨rfl, rfl⟩
    go_wp2_with fail
    refine HC.out.mono ?_
    rintro e w4 ⟨A, c, rfl, k1, k2⟩
    clear c0
    go_wp2_with fail
    go_ret2
    exact ⟨A, c, rfl, k1, k2⟩
  · have hb : bodV S pl i = .tuple #[.pointer none, .int .i64 (S.fileE i)] := by unfold bodV; rw [if_neg h1]
    rw [hb] at HB
    have hv : readI S i off n = (S.fileE i, 0) := by unfold readI; rw [if_pos h1]
    rw [hv]
    dsimp only
    generalize (fun j => (S.at i).body.dat (off.toNat + j)) = ff at *
    generalize S.fileE i = x at *
    have hx : (x != 0) = true := by simpa using h1
    clear h hG hb h1 hv
    go_enter Tryz.func71, Tryz.ntmps71
    go_wp2_with fail
    refine HB.out.mono ?_
    rintro e w3 ⟨rfl, rfl⟩
    go_wp2_with fail
    go_ret2
    exact ⟨none, 0, rfl, ⟨rfl, .inl ⟨rfl, rfl⟩⟩, Below.refl _ _⟩
end
end Go.Proofs.YtnnaoldpacbagaaGreat.cb
end
section
namespace Go.Proofs.YtnnaoldpacbagaaGreat.cb
open Go.RowKit
open Go.Proofs.YtnnaoldpacbagaaGreat.qu (KN ins QL)
open Go.Proofs.YtnnaoldpacbagaaGreat.dn (Du En lget lset ldel getV nerr dotB Sorted RetV serr lsetE)
open Go.Proofs.YtnnaoldpacbagaaGreat.bl (AB Bod BodC StoC Only Pq cut cutR wr WR)
open Go.Proofs.YtnnaoldpacbagaaGreat.br
set_option linter.unusedVariables false
set_option linter.unusedSimpArgs false

/-- With steps enough it is one whether a directory is below another. -/
theorem below_fuel {S : BS} {room I : Nat} (h : Inv S room) (hI : I ≠ 1) {deep : Nat → Nat} (hd : ∀ k, (S.ino k).kind = 2 → (S.ino k).links ≠ 0 → k ≠ 1 → ∃ p : Nat, (S.ino k).parent = (p : Int) ∧ (S.ino p).kind = 2 ∧ (S.ino p).links ≠ 0 ∧ deep p < deep k) :
    ∀ (g x : Nat), deep x ≤ g → (S.ino x).kind = 2 → (S.ino x).links ≠ 0 → ∀ n m, deep x < n → deep x < m → S.below (x : Int) I n = S.below (x : Int) I m := by
  intro g
  induction g with
  | zero =>
    intro x hx hk hl n m hn hm
    by_cases e : x = 1
    · subst e
      have := below_root h hI
      rw [show ((1 : Nat) : Int) = 1 from rfl, this, this]
    · obtain ⟨p, _, _, _, h4⟩ := hd x hk hl e
      omega
  | succ g ih =>
    intro x hx hk hl n m hn hm
    by_cases e : x = 1
    · subst e
      have := below_root h hI
      rw [show ((1 : Nat) : Int) = 1 from rfl, this, this]
    · obtain ⟨p, h1, h2, h3, h4⟩ := hd x hk hl e
      obtain ⟨n', rfl⟩ : ∃ n', n = n' + 1 := ⟨n - 1, by omega⟩
      obtain ⟨m', rfl⟩ : ∃ m', m = m' + 1 := ⟨m - 1, by omega⟩
      rw [below_up, below_up, h1, ih p (by omega) h2 h3 n' m' (by omega) (by omega)]
section
variable {w w' : World} {P lo st qb room T : Nat} {qo : Option Nat} {pl : Nat → Pl} {tag : Nat → Nat} {S : BS} {L : List KN}
set_option maxRecDepth 100000 in
set_option maxHeartbeats 1000000 in
theorem within_any (h : CB w P lo st qb qo pl tag S room L T) (hG : br.Good S room) {t I : Nat} (hI : I ≠ 1) (hk : (S.ino t).kind = 2) (hl : (S.ino t).links ≠ 0) : Calls Tryz.prog 107 #[Pq P, .int .i64 (t : Int), .int .i64 (I : Int)] w (fun e w' => e = .returned (.bool (S.below (t : Int) I 300)) ∧ w' = w) := by
  obtain ⟨deep, db, hd⟩ := Tree.bound hG.1 hG.2
  have HF := Lib.hid (fun x (k1 : (S.ino x).kind = 2) (k2 : (S.ino x).links ≠ 0) n m => below_fuel hG.1 hI hd (deep x) x (Nat.le_refl _) k1 k2 n m)
  have HS := Lib.hid (fun x (k1 : (S.ino x).kind = 2) => (show x ≤ 200 ∧ w.cell? ⟨P, 1 + x, none⟩ = some (Pq (pl x).nd) ∧ w.cell? ⟨(pl x).nd, 6, none⟩ = some (.int .i64 (S.ino x).parent) from by
    have hn := hG.1.num (k := x) (by rw [k1]; decide)
    exact ⟨hn.2, h.slot hn.2 (by rw [k1]; decide), (h.ino x hn.2 (by rw [k1]; decide)).c6⟩))
  have HR := Lib.hid (below_root hG.1 hI)
  have HD := Lib.hid hd
  have HB := Lib.hid db
  have HK := Lib.hid (And.intro hk hl)
  generalize hr : S.below (t : Int) I 300 = r at *
  have HRR := Lib.hid hr
  clear h hG hd db hk hl hr
  go_enter Tryz.func107, Tryz.ntmps107
  go_wp2_with fail
  go_loopg [1] (deep t) (fun g s1 wr => ∃ x : Nat, g = deep x ∧ s1 = .int .i64 x ∧ Hid ((S.ino x).kind = 2) ∧ Hid ((S.ino x).links ≠ 0) ∧ Hid (S.below (x : Int) I 300 = r) ∧ wr = w)
  case atStart => exact ⟨t, rfl, rfl, Lib.hid HK.out.1, Lib.hid HK.out.2, HRR, rfl⟩
  case round =>
    obtain ⟨x, hg, rfl, K1, K2, K3, rfl⟩ := hrel
    obtain ⟨x2, s1, s2⟩ := HS.out x K1.out
    by_cases e1 : x = I
    · have hq : ((x : Int) != (I : Int)) = false := by simp [e1]
      have HE := Lib.hid (show r = true by rw [← K3.out, e1]; exact below_self)
      subst e1
      clear HF HS HR HD HB HK HRR K1 K2 K3 hg s1 s2
      go_wp2_with fail
      go_ret
      exact ⟨by rw [HE.out]; simp, rfl⟩
    · have hq : ((x : Int) != (I : Int)) = true := by simp; omega
      have hq2 : ((x : Int) == (I : Int)) = false := by simp; omega
      by_cases e2 : x = 1
      · have HE := Lib.hid (show r = false by rw [← K3.out, e2]; exact HR.out 300)
        subst e2
        clear HF HS HR HD HB HK HRR K1 K2 K3 hg s1 s2
        go_wp2_with fail
        go_ret
        exact ⟨by rw [HE.out]; simp; omega, rfl⟩
      · obtain ⟨p, p1, p2, p3, p4⟩ := HD.out x K1.out K2.out e2
        have HE := Lib.hid (show S.below (p : Int) I 300 = r by
          have e3 : S.below (x : Int) I 300 = S.below (p : Int) I 299 := by rw [below_up (k := x) (n := 299), decide_eq_false e1, Bool.false_or, p1]
          have := HB.out p; have := HB.out x
          rw [← K3.out, e3]
          exact HF.out p p2 p3 300 299 (by omega) (by omega))
        have hq3 : ((x : Int) != 1) = true := by simp; omega
        have P2 := Lib.hid p2
        have P3 := Lib.hid p3
        rw [p1] at s2
        clear HF HS HR HB HK HRR K1 K2 K3 p1 p2 p3 HD
        go_wp2_with fail
        go_roundg (deep p)
        case measure => omega
        case rel => exact ⟨p, rfl, rfl, P2, P3, HE, rfl⟩
def replE (S : BS) (I J : Nat) : Int :=
  if (S.ino J).kind = 2 ∧ (S.ino I).kind ≠ 2 then 21 else if (S.ino J).kind ≠ 2 ∧ (S.ino I).kind = 2 then 20 else if (S.ino J).kind = 2 ∧ (S.ino J).dir ≠ [] then 39 else 0
set_option maxRecDepth 100000 in
set_option maxHeartbeats 1000000 in
theorem replaces_any (h : CB w P lo st qb qo pl tag S room L T) (hG : br.Good S room) {I J : Nat} (hi : (S.ino I).kind ≠ 0) (hj : (S.ino J).kind ≠ 0) : Calls Tryz.prog 109 #[Pq (pl I).nd, Pq (pl J).nd] w (fun e w' => e = .returned (.int .i64 (replE S I J)) ∧ w' = w) := by
  have i0 := (h.ino I (hG.1.num hi).2 hi).c0
  have j0 := (h.ino J (hG.1.num hj).2 hj).c0
  by_cases e1 : (S.ino J).kind = 2
  · by_cases e2 : (S.ino I).kind = 2
    · have j5 := (h.ino J (hG.1.num hj).2 hj).c5d e1
      have HL := Lib.hid (h.len hG e1)
      have hv : replE S I J = if 0 < (S.ino J).dir.length then 39 else 0 := by
        unfold replE
        rw [if_neg (by rw [e2]; simp), if_neg (by rw [e1]; simp)]
        by_cases e3 : (S.ino J).dir = []
        · rw [if_neg (by simp [e3]), if_neg (by simp [e3])]
        · rw [if_pos ⟨e1, e3⟩, if_pos (List.length_pos_iff.2 e3)]
      have HV := Lib.hid hv
      generalize replE S I J = r at *
      generalize (S.ino J).dir.length = K at *
      rw [e2] at i0
      rw [e1] at j0
      generalize (pl I).nd = N at *
      generalize (pl J).nd = M at *
      generalize (pl J).di = C at *
      clear h hG hi hj e1 e2 hv
      by_cases hK : 0 < K
      · have HV2 := Lib.hid (HV.out.trans (if_pos hK))
        clear HV
        go_enter Tryz.func109, Tryz.ntmps109
        go_wp2_with fail
        refine HL.out.mono ?_
        rintro e w3 ⟨rfl, rfl⟩
        go_wp2_with fail
        go_ret
        exact ⟨by rw [HV2.out]; rfl, rfl⟩
      · obtain rfl : K = 0 := by omega
        have HV2 := Lib.hid (HV.out.trans (if_neg hK))
        clear HV hK
        go_enter Tryz.func109, Tryz.ntmps109
        go_wp2_with fail
        refine HL.out.mono ?_
        rintro e w3 ⟨rfl, rfl⟩
        go_wp2_with fail
        go_ret
        exact ⟨by rw [HV2.out]; rfl, rfl⟩
    · have HV := Lib.hid (show replE S I J = 21 from if_pos ⟨e1, e2⟩)
      generalize replE S I J = r at *
      rw [e1] at j0
      generalize (S.ino I).kind = K at *
      generalize (pl I).nd = N at *
      generalize (pl J).nd = M at *
      have q : (K != 2) = true := by simpa using e2
      clear h hG hi hj e1 e2
      go_enter Tryz.func109, Tryz.ntmps109
      go_wp2_with fail
      go_ret
      exact ⟨by rw [HV.out]; rfl, rfl⟩
  · by_cases e2 : (S.ino I).kind = 2
    · have HV := Lib.hid (show replE S I J = 20 by unfold replE; rw [if_neg (fun e => e1 e.1), if_pos ⟨e1, e2⟩])
      generalize replE S I J = r at *
      rw [e2] at i0
      generalize (S.ino J).kind = K at *
      generalize (pl I).nd = N at *
      generalize (pl J).nd = M at *
      have q : (K != 2) = true := by simpa using e1
      have q2 : (K == 2) = false := by simpa using e1
      clear h hG hi hj e1 e2
      go_enter Tryz.func109, Tryz.ntmps109
      go_wp2_with fail
      go_ret
      exact ⟨by rw [HV.out]; rfl, rfl⟩
    · have HV := Lib.hid (show replE S I J = 0 by unfold replE; rw [if_neg (fun e => e1 e.1), if_neg (fun e => e2 e.2), if_neg (fun e => e1 e.1)])
      generalize replE S I J = r at *
      generalize (S.ino J).kind = K at *
      generalize (S.ino I).kind = K2 at *
      generalize (pl I).nd = N at *
      generalize (pl J).nd = M at *
      have q : (K != 2) = true := by simpa using e1
      have q2 : (K == 2) = false := by simpa using e1
      have q3 : (K2 == 2) = false := by simpa using e2
      clear h hG hi hj e1 e2
      go_enter Tryz.func109, Tryz.ntmps109
      go_wp2_with fail
      go_ret
      exact ⟨by rw [HV.out]; rfl, rfl⟩
end
end Go.Proofs.YtnnaoldpacbagaaGreat.cb
end
