/- The document's own branch: holds, marks, names that go. -/
import Derived.Test.YtlelnpckbcpkkaaGreatD5
namespace Go.Proofs.YtlelnpckbcpkkaaGreat.cb
open Go.RowKit
open Go.Proofs.YtlelnpckbcpkkaaGreat.br
open Go.Proofs.YtlelnpckbcpkkaaGreat.dn (En lget lset ldel nerr dotB Sorted getV DuX LaidX)
open Go.Proofs.YtlelnpckbcpkkaaGreat.bl (AB Only StoC Pq cut cutR wr WR U8 RF)
open Go.Proofs.YtlelnpckbcpkkaaGreat.bl.rx (RB RS2 Kp)
set_option linter.unusedVariables false
set_option linter.unusedSimpArgs false

section
variable {w w' : World} {D lo RS room : Nat} {pl : Nat → Pd} {tag : Nat → Nat} {S : BS}
set_option maxRecDepth 100000 in
set_option maxHeartbeats 1000000 in
theorem q_hold (h : DB w D lo RS pl tag S room) (hG : br.Good S room) (hb : ∀ k, (S.ino k).holds ≤ 900000) (i : Int) : Calls Tryz.prog 58 #[Pq D, .int .i64 i] w (RetD w D lo RS tag (.int .i64 (S.hold i).1) (S.hold i).2 room) := by
  have HI := Lib.hid (q_is h i)
  unfold RetQ at HI
  rcases isI_cases S i with hI | ⟨I, rfl, i1, i2, hn, hI⟩
  · rw [hI] at HI
    rw [show S.hold i = (2, S) by unfold BS.hold; rw [if_pos hI]]
    have HF := Lib.hid h.nx
    clear h hG hI hb
    go_enter Tryz.func58, Tryz.ntmps58
    go_wp2_with fail
    refine HI.out.mono ?_
    rintro e w3 ⟨rfl, rfl⟩
    go_wp2_with fail
    go_ret
    exact ⟨rfl, HF.out⟩
  · rw [hI] at HI
    have c2 := (h.drew.ino I i2).c2
    have f2 := h.drew.cf (1 + I * 9 + 2)
    rw [show S.hold (I : Int) = (0, ⟨br.upd S.ino I { S.ino I with holds := (S.ino I).holds + 1 }, S.used⟩) by unfold BS.hold; rw [if_neg (by rw [hI]; decide), at_nat]; unfold BS.put; rw [Int.toNat_natCast]]
    have h2 := h.drew.holds i2 ((S.ino I).holds + 1)
    have HF := Lib.hid (NxD.trans (Stp.below ((Below.refl _ w).drew)) h2)
    have h0 := (hG.1.nums I).2
    have h9 := hb I
    have hI0 : (0 : Int) ≤ (I : Int) := by omega
    have hI1 : (I : Int) < 201 := by omega
    have hw1 : IntKind.i64.wrap ((S.ino I).holds + 1) = (S.ino I).holds + 1 := IntWalk.i64_in _ (by omega)
    dsimp only
    generalize BS.mk (br.upd S.ino I { S.ino I with holds := (S.ino I).holds + 1 }) S.used = S2 at *
    generalize (S.ino I).holds = K at *
    clear h hG hI hb h2 hn
    go_enter Tryz.func58, Tryz.ntmps58
    go_wp2_with fail
    refine HI.out.mono ?_
    rintro e w3 ⟨rfl, hw3⟩
    subst hw3
    go_wp2_with fail
    go_still_tail 12, (by kernel_rfl)
    change wpList _ _ _ _ _ (World.drew _)
    go_wp2_with fail
    go_ret
    exact ⟨rfl, HF.out⟩
set_option maxRecDepth 100000 in
set_option maxHeartbeats 1000000 in
theorem q_mark (h : DB w D lo RS pl tag S room) (i m : Int) : Calls Tryz.prog 60 #[Pq D, .int .i64 i, .int .i64 m] w (RetD w D lo RS tag (.int .i64 (S.mark i m).1) (S.mark i m).2 room) := by
  have HI := Lib.hid (q_is h i)
  unfold RetQ at HI
  rcases isI_cases S i with hI | ⟨I, rfl, i1, i2, hn, hI⟩
  · rw [hI] at HI
    rw [show S.mark i m = (2, S) by unfold BS.mark; rw [if_pos hI]]
    have HF := Lib.hid h.nx
    clear h hI
    go_enter Tryz.func60, Tryz.ntmps60
    go_wp2_with fail
    refine HI.out.mono ?_
    rintro e w3 ⟨rfl, rfl⟩
    go_wp2_with fail
    go_ret
    exact ⟨rfl, HF.out⟩
  · rw [hI] at HI
    have c3 := (h.ino I i2).c3
    have f3 := h.cf (1 + I * 9 + 3)
    rw [show S.mark (I : Int) m = (0, ⟨br.upd S.ino I { S.ino I with marks := m }, S.used⟩) by unfold BS.mark; rw [if_neg (by rw [hI]; decide), at_nat]; unfold BS.put; rw [Int.toNat_natCast]]
    have HF := Lib.hid (h.marks i2 m)
    have hI0 : (0 : Int) ≤ (I : Int) := by omega
    have hI1 : (I : Int) < 201 := by omega
    dsimp only
    generalize BS.mk (br.upd S.ino I { S.ino I with marks := m }) S.used = S2 at *
    generalize (S.ino I).marks = K at *
    clear h hI hn
    go_enter Tryz.func60, Tryz.ntmps60
    go_wp2_with fail
    refine HI.out.mono ?_
    rintro e w3 ⟨rfl, hw3⟩
    subst hw3
    go_wp2_with fail
    go_ret
    exact ⟨rfl, HF.out⟩
theorem Good_body2 {S : BS} {room : Nat} (h : br.Good S room) (hr : room ≤ 65536) (I : Nat) : (S.ino I).body.Ok ∧ (S.ino I).body.n ≤ S.used ∧ S.used ≤ 65536 := by
  refine ⟨h.1.body I, ?_, by have := h.1.room; omega⟩
  by_cases e : 1 ≤ I ∧ I ≤ 200
  · rw [h.1.used]; exact sumF_le (f := fun k => (S.ino k).body.n) e.1 e.2
  · rw [h.1.out I (by omega)]; show abE.n ≤ _; rw [abE_n]; exact Nat.zero_le _
set_option maxRecDepth 100000 in
set_option maxHeartbeats 1000000 in
theorem q_release (h : DB w D lo RS pl tag S room) (hG : br.Good S room) (hr : room ≤ 65536) (hb : ∀ k, (S.ino k).holds ≤ 900000) (i : Int) : Calls Tryz.prog 59 #[Pq D, .int .i64 i] w (RetD w D lo RS tag (.int .i64 (S.release i).1) (S.release i).2 room) := by
  have HI := Lib.hid (q_is h i)
  unfold RetQ at HI
  rcases isI_cases S i with hI | ⟨I, rfl, i1, i2, hn, hI⟩
  · rw [hI] at HI
    rw [show S.release i = (2, S) by unfold BS.release; rw [if_pos hI]]
    have HF := Lib.hid h.nx
    clear h hG hI hb
    go_enter Tryz.func59, Tryz.ntmps59
    go_wp2_with fail
    refine HI.out.mono ?_
    rintro e w3 ⟨rfl, rfl⟩
    go_wp2_with fail
    go_ret
    exact ⟨rfl, HF.out⟩
  · rw [hI] at HI
    have c2 := (h.ino I i2).c2
    have hnum := hG.1.nums I
    have h9 := hb I
    have ht := hG.1.twenty I
    by_cases hz : (S.ino I).holds = 0
    · rw [hz] at c2
      rw [show S.release (I : Int) = (22, S) by unfold BS.release; rw [if_neg (by rw [hI]; decide), at_nat, if_pos hz]]
      have HF := Lib.hid h.nx
      clear h hG hI hb hnum h9 hz ht
      go_enter Tryz.func59, Tryz.ntmps59
      go_wp2_with fail
      refine HI.out.mono ?_
      rintro e w3 ⟨rfl, rfl⟩
      go_wp2_with fail
      go_ret
      exact ⟨rfl, HF.out⟩
    · rw [show S.release (I : Int) = (0, S.less (I : Int) 0 1) by unfold BS.release; rw [if_neg (by rw [hI]; decide), at_nat, if_neg hz]]
      obtain ⟨g1, g2, g3⟩ := Good_body2 hG hr I
      have HL := Lib.hid (q_less h g1 g2 g3 i1 i2 0 1 (by omega) (by omega) (by omega) (by omega) (by omega) (by omega))
      unfold RetD at HL
      generalize S.less (I : Int) 0 1 = S2 at *
      generalize (S.ino I).holds = K at *
      have hq : (K == 0) = false := by simpa using hz
      clear h hG hI hb hnum h9 hz ht g1 g2 g3
      go_enter Tryz.func59, Tryz.ntmps59
      go_wp2_with fail
      refine HI.out.mono ?_
      rintro e w3 ⟨rfl, rfl⟩
      go_wp2_with fail
      refine HL.out.mono ?_
      rintro e w4 ⟨rfl, hn4⟩
      have HN := Lib.hid hn4
      clear hn4 HL
      go_wp2_with fail
      go_ret
      exact ⟨rfl, HN.out⟩
end
end Go.Proofs.YtlelnpckbcpkkaaGreat.cb
