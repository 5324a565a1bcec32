/- 'Rename': a name goes from one directory to another. -/
import Derived.Test.YtnnaoldpacbagaaGreatZ17
section
namespace Go.Proofs.YtnnaoldpacbagaaGreat.cb
open Go.RowKit
open Go.Proofs.YtnnaoldpacbagaaGreat.qu (KN ins QL)
open Go.Proofs.YtnnaoldpacbagaaGreat.dn (Du En lget lset ldel getV nerr dotB Sorted RetV serr lsetE)
open Go.Proofs.YtnnaoldpacbagaaGreat.bl (AB Bod BodC StoC Only Pq cut cutR wr WR)
open Go.Proofs.YtnnaoldpacbagaaGreat.br
set_option linter.unusedVariables false
set_option linter.unusedSimpArgs false

section
variable {w w' : World} {P lo st qb room T : Nat} {qo : Option Nat} {pl : Nat → Pl} {tag : Nat → Nat} {S : BS} {L : List KN}
/-- A name comes to a directory. -/
def insD (S : BS) (D : Nat) (s : ByteArray) (v : Int) : BS := ⟨upd S.ino D { S.ino D with dir := lset s v (S.ino D).dir }, S.used⟩
def parI (S : BS) (I : Nat) (v : Int) : BS := ⟨upd S.ino I { S.ino I with parent := v }, S.used⟩
theorem insD_other {S : BS} {D k : Nat} {s : ByteArray} {v : Int} (h : k ≠ D) : (insD S D s v).ino k = S.ino k := upd_other _ _ h
theorem insD_kind (S : BS) (D : Nat) (s : ByteArray) (v : Int) (k : Nat) : ((insD S D s v).ino k).kind = (S.ino k).kind := by
  show (upd _ _ _ k).kind = _
  by_cases e : k = D
  · subst e; rw [upd_same]
  · rw [upd_other _ _ e]
theorem parI_kind (S : BS) (I : Nat) (v : Int) (k : Nat) : ((parI S I v).ino k).kind = (S.ino k).kind := by
  show (upd _ _ _ k).kind = _
  by_cases e : k = I
  · subst e; rw [upd_same]
  · rw [upd_other _ _ e]
theorem delD_ino (S : BS) (D : Nat) (s : ByteArray) : (delD S D s).ino D = { S.ino D with dir := ldel s (S.ino D).dir } := upd_same _ _ _
theorem move_eq (S : BS) {D t I : Nat} (s u : ByteArray) (h1 : I ≠ D) (h2 : I ≠ t) : S.move (D : Int) s (t : Int) u (I : Int) = if (S.ino I).kind = 2 then parI (insD (delD S D s) t u (I : Int)) I (t : Int) else insD (delD S D s) t u (I : Int) := by
  unfold BS.move
  dsimp only
  rw [putDir_delD, at_nat]
  have e : (delD S D s).putDir (t : Int) (lset u (I : Int) ((delD S D s).at (t : Int)).dir) = insD (delD S D s) t u (I : Int) := by
    unfold BS.putDir BS.put insD; rw [at_nat, Int.toNat_natCast]
  rw [e]
  split
  · unfold BS.put parI; rw [at_nat, Int.toNat_natCast]
  · rfl
/-- The name is set where it goes to; a directory gets its new parent. -/
theorem move_set {w1 : World} {qo1 : Option Nat} {pl1 : Nat → Pl} {tag1 : Nat → Nat} {D t I T0 : Nat} {s u : ByteArray} (hG : br.Good S room) (hT : T ≤ T0 + 1) (ht : (S.ino t).kind = 2) (hn : (S.ino I).kind ≠ 0) (h1 : I ≠ D) (h2 : I ≠ t) (hu : nerr u.data.toList = 0 ∧ dotB u = false) (hm : u.size ≤ 9223372036854775807)
    (h : CB w1 P lo st qb qo1 pl1 tag1 (delD S D s) room (freeL S) T) (hs : Stp w w1 tag tag1) (hp : ∀ j, ((delD S D s).ino j).kind ≠ 0 → (pl1 j).nd = (pl j).nd) :
    ∃ C, w1.cell? ⟨(pl t).nd, 5, none⟩ = some (Pq C) ∧ Calls Tryz.prog 81 #[Pq C, .string u, .int .i64 (I : Int)] w1 (fun e w2 => e = .returned (.int .i64 0) ∧
      w2.cell? ⟨(pl I).nd, 0, none⟩ = some (.int .i64 (S.ino I).kind) ∧ w2.cell? ⟨(pl I).nd, 6, none⟩ = some (.int .i64 (S.ino I).parent) ∧ w2.frozen? ⟨(pl I).nd, 6, none⟩ = false ∧
      ((S.ino I).kind ≠ 2 → RetG w P lo st qb tag (.int .i64 0) (S.move (D : Int) s (t : Int) u (I : Int)) room T0 (.returned (.int .i64 0)) w2) ∧
      ((S.ino I).kind = 2 → RetG w P lo st qb tag (.int .i64 0) (S.move (D : Int) s (t : Int) u (I : Int)) room T0 (.returned (.int .i64 0)) (w2.setCell ⟨(pl I).nd, 6, none⟩ (.int .i64 (t : Int))))) := by
  have k1 := fun j => delD_kind S D s j
  have tn := hG.1.num (k := t) (by rw [ht]; decide)
  have In := hG.1.num hn
  have ht1 : ((delD S D s).ino t).kind = 2 := by rw [k1]; exact ht
  have c5 := (h.ino t tn.2 (by rw [ht1]; decide)).c5d ht1
  rw [hp t (by rw [ht1]; decide)] at c5
  have hso : Sorted ((delD S D s).ino t).dir := by
    by_cases e : t = D
    · subst e; rw [delD_ino]; exact dn.ldel_sorted (hG.1.sorted _)
    · rw [delD_other e]; exact hG.1.sorted _
  have hle : ((delD S D s).ino t).dir.length ≤ 4000 := by
    by_cases e : t = D
    · subst e; rw [delD_ino]
      exact Nat.le_trans (List.length_filter_le _ _) (hG.1.dirLen _)
    · rw [delD_other e]; exact hG.1.dirLen _
  refine ⟨_, c5, ?_⟩
  have hd := h.dset tn.2 ht1 hso hle u (I : Int) hm
  obtain ⟨s0, s1⟩ := serr_ok (n := I) hu.1 hu.2 In.1 ((delD S D s).ino t).dir
  rw [s0, s1] at hd
  refine hd.mono ?_
  rintro e w2 ⟨rfl, qo2, pl2, tag2, h3, hs2, hp2⟩
  change CB w2 P lo st qb qo2 pl2 tag2 (insD (delD S D s) t u (I : Int)) room (freeL S) T at h3
  have k2 := fun j => (insD_kind (delD S D s) t u (I : Int) j).trans (k1 j)
  have eI : (insD (delD S D s) t u (I : Int)).ino I = S.ino I := by rw [insD_other h2, delD_other h1]
  have hn2 : ((insD (delD S D s) t u (I : Int)).ino I).kind ≠ 0 := by rw [eI]; exact hn
  have hi := h3.ino I In.2 hn2
  have en : (pl2 I).nd = (pl I).nd := (hp2 I hn2).trans (hp I (by rw [k1]; exact hn))
  have a0 := hi.c0
  have a6 := hi.c6
  have f6 := hi.f 6
  rw [en] at a0 a6 f6
  rw [eI] at a0 a6
  have hmv := move_eq S s u h1 h2
  refine ⟨rfl, a0, a6, f6, fun hk => ?_, fun hk => ?_⟩
  · rw [if_neg hk] at hmv
    have hf : freeL (S.move (D : Int) s (t : Int) u (I : Int)) = freeL S := by rw [hmv]; exact freeL_same k2
    exact ⟨rfl, qo2, pl2, tag2, T, hT, by rw [hf, hmv]; exact h3, hs.trans hs2⟩
  · rw [if_pos hk] at hmv
    have hf : freeL (S.move (D : Int) s (t : Int) u (I : Int)) = freeL S := by rw [hmv]; exact freeL_same fun j => (parI_kind _ _ _ j).trans (k2 j)
    have h4 := h3.parent In.2 hn2 (t : Int)
    rw [en] at h4
    exact ⟨rfl, qo2, pl2, tag2, T, hT, by rw [hf, hmv]; exact h4.1, hs.trans (hs2.trans h4.2)⟩
end
end Go.Proofs.YtnnaoldpacbagaaGreat.cb
end
