/- The document's own branch: an inode has a link, or a hold, less. -/
import Derived.Test.YtlelnpckbcpkkaaGreatD4
import Derived.StillTailTactics
namespace Go.Proofs.YtlelnpckbcpkkaaGreat.cb
open Go.RowKit
open Go.Proofs.YtlelnpckbcpkkaaGreat.br
open Go.Proofs.YtlelnpckbcpkkaaGreat.dn (En lget lset ldel nerr dotB Sorted getV DuX LaidX)
open Go.Proofs.YtlelnpckbcpkkaaGreat.bl (AB Only StoC Pq cut cutR wr WR U8 RF)
open Go.Proofs.YtlelnpckbcpkkaaGreat.bl.rx (RB RS2 Kp)
set_option linter.unusedVariables false
set_option linter.unusedSimpArgs false

theorem cut_zero (b : AB) : (cut b 0).n = 0 := by
  unfold cut
  rw [if_pos (by omega)]
  unfold AB.n bl.cnt
  simp [bl.cutB]
section
variable {w w' : World} {D lo RS room : Nat} {pl : Nat → Pd} {tag : Nat → Nat} {S : BS}
set_option maxRecDepth 100000 in
set_option maxHeartbeats 1000000 in
theorem q_less (h : DB w D lo RS pl tag S room) {I : Nat} (hok : (S.ino I).body.Ok) (hbn : (S.ino I).body.n ≤ S.used) (hur : S.used ≤ 65536) (i1 : 1 ≤ I) (i2 : I ≤ 200) (dl dh : Int) (b1 : 0 ≤ (S.ino I).links - dl) (b2 : (S.ino I).links ≤ 1000000) (b3 : 0 ≤ (S.ino I).holds - dh) (b4 : (S.ino I).holds ≤ 1000000) (b5 : 0 ≤ dl) (b6 : 0 ≤ dh) :
    Calls Tryz.prog 99 #[Pq D, .int .i64 (I : Int), .int .i64 dl, .int .i64 dh] w (RetD w D lo RS tag (.tuple #[]) (S.less (I : Int) dl dh) room) := by
  have hI0 : (0 : Int) ≤ (I : Int) := by omega
  have hI1 : (I : Int) < 201 := by omega
  have hw1 : IntKind.i64.wrap ((S.ino I).links - dl) = (S.ino I).links - dl := IntWalk.i64_in _ (by omega)
  have hw2 : IntKind.i64.wrap ((S.ino I).holds - dh) = (S.ino I).holds - dh := IntWalk.i64_in _ (by omega)
  -- the links
  have c1 := (h.drew.ino I i2).c1
  have f1 := h.drew.cf (1 + I * 9 + 1)
  obtain ⟨pl1, tag1, h1, s1⟩ := h.drew.links i2 ((S.ino I).links - dl)
  have st1 : Stp w (w.drew.setCell ⟨D, 1 + I * 9 + 1, none⟩ (.int .i64 ((S.ino I).links - dl))) tag tag1 := (Stp.below ((Below.refl _ w).drew)).trans s1
  obtain ⟨w1, e1⟩ : ∃ w1, w.drew.setCell ⟨D, 1 + I * 9 + 1, none⟩ (.int .i64 ((S.ino I).links - dl)) = w1 := ⟨_, rfl⟩
  rw [e1] at h1 st1
  -- the holds
  have c2 := (h1.drew.ino I i2).c2
  have f2 := h1.drew.cf (1 + I * 9 + 2)
  obtain ⟨pl2, tag2, h2, s2⟩ := h1.drew.holds i2 ((S.ino I).holds - dh)
  dsimp only at c2 h2
  rw [upd_same] at c2 h2
  rw [upd_upd] at h2
  have st2 : Stp w (w1.drew.setCell ⟨D, 1 + I * 9 + 2, none⟩ (.int .i64 ((S.ino I).holds - dh))) tag tag2 := (st1.trans (Stp.below ((Below.refl _ w1).drew))).trans s2
  obtain ⟨w2, e2⟩ : ∃ w2, w1.drew.setCell ⟨D, 1 + I * 9 + 2, none⟩ (.int .i64 ((S.ino I).holds - dh)) = w2 := ⟨_, rfl⟩
  rw [e2] at h2 st2
  have d1 := (h2.ino I i2).c1
  have d2 := (h2.ino I i2).c2
  dsimp only at d1 d2
  rw [upd_same] at d1 d2
  dsimp only at d1 d2
  by_cases hz : (S.ino I).links - dl = 0 ∧ (S.ino I).holds - dh = 0
  · -- the body goes
    have hLE := Lib.hid (show S.less (I : Int) dl dh = ⟨br.upd S.ino I Ino.nil, S.used - (S.ino I).body.n⟩ by
      unfold BS.less
      dsimp only
      rw [at_nat, if_pos hz, Int.toNat_natCast])
    rw [hLE.out]
    have hi2 := h2.drew.ino I i2
    dsimp only at hi2
    rw [upd_same] at hi2
    have hc0 := hi2.c0
    have hRF : ¬ RF D (pl2 I).vB (pl2 I).vT RS := by
      rintro (e | e | e)
      · exact h2.loD.2.2 e
      · have := h2.tI I i2 RS (.inl e); rw [h2.tS] at this; omega
      · have := h2.tI I i2 RS (.inr (.inl e)); rw [h2.tS] at this; omega
    have HC := Lib.hid (bl.rx.rcut_any (off := 0) hi2.b hok h2.drew.sto hRF hbn hur h2.drew.loD.2.1)
    have hst := h2.drew.c0
    have hfz : ∀ W, Only (fun b => RF D (pl2 I).vB (pl2 I).vT b ∨ b = RS) w2.drew W → True := fun _ _ => trivial
    have H2 := Lib.hid h2.drew
    have ST2 := Lib.hid (st2.trans (Stp.below ((Below.refl _ w2).drew)))
    have q1 : ((S.ino I).links - dl == 0) = true := by simpa using hz.1
    have q2 : ((S.ino I).holds - dh == 0) = true := by simpa using hz.2
    have HBN := Lib.hid (show S.used + (cut (S.ino I).body 0).n - (S.ino I).body.n = S.used - (S.ino I).body.n from by rw [cut_zero]; rfl)
    obtain ⟨S3, hS3⟩ : ∃ S3, BS.mk (br.upd S.ino I Ino.nil) (S.used - (S.ino I).body.n) = S3 := ⟨_, rfl⟩
    rw [hS3]
    have HS3 := Lib.hid hS3
    clear hS3
    generalize hlk : (S.ino I).links = L at *
    generalize hho : (S.ino I).holds = H at *
    clear hLE hz b1 b2 b3 b4 b5 b6 st2 s1 s2 hfz st1
    go_enter Tryz.func99, Tryz.ntmps99
    go_wp2_with fail
    go_still_tail 13, (by kernel_rfl)
    change wpList _ _ _ _ _ w.drew
    go_wp2_with fail
    go_still_tail 13, (by kernel_rfl)
    change wpList _ _ _ _ _ w1.drew
    go_wp2_with fail
    go_still_tail 10, (by kernel_rfl)
    change wpList _ _ _ _ _ w2.drew
    go_wp2_with fail
    refine HC.out.mono ?_
    rintro e w3 ⟨rfl, vB, vT, T, hr⟩
    obtain ⟨ht, hn⟩ := H2.out.layBody i2 hr 0 0 0 0 0 ⟨#[]⟩
    have HN := Lib.hid hn
    have HT := Lib.hid ht
    clear hr ht hn
    go_wp2_with (refine wpList_store_mid rfl 48 (.tmp 68) (.tmp 65) rfl D (1 + I * 9) #[.int .i64 0, .int .i64 0, .int .i64 0, .int .i64 0, .int .i64 0, .slice none 0 0, .slice none 0 0, .slice none 0 0, .string ⟨#[]⟩] rfl rfl HT.out (by kernel_rfl) (one9 _ _ _ _ _ _) ?_)
    go_end0
    refine ⟨rfl, NxD.trans ST2.out ?_⟩
    have hq := HN.out
    rw [upd_upd, HBN.out] at hq
    rw [← HS3.out]
    exact hq
  · have hLE := Lib.hid (show S.less (I : Int) dl dh = ⟨br.upd S.ino I { S.ino I with links := (S.ino I).links - dl, holds := (S.ino I).holds - dh }, S.used⟩ by
      unfold BS.less
      dsimp only
      rw [at_nat, if_neg hz]
      unfold BS.put
      rw [Int.toNat_natCast])
    rw [hLE.out]
    have HF := Lib.hid (show RetD w D lo RS tag (.tuple #[]) _ room (.returned (.tuple #[])) w2 from ⟨rfl, pl2, tag2, h2, st2⟩)
    dsimp only
    generalize BS.mk (br.upd S.ino I { S.ino I with links := (S.ino I).links - dl, holds := (S.ino I).holds - dh }) S.used = S2 at *
    generalize (S.ino I).links = L at *
    generalize (S.ino I).holds = H at *
    have hz2 : (L - dl == 0) = false ∨ ((L - dl == 0) = true ∧ (H - dh == 0) = false) := by
      by_cases e : L - dl = 0
      · exact .inr ⟨by simpa using e, by simpa using fun h => hz ⟨e, h⟩⟩
      · exact .inl (by simpa using e)
    clear h hok hbn hur h1 h2 s1 s2 st1 st2 hLE hz b1 b2 b3 b4 b5 b6
    rcases hz2 with q1 | ⟨q1, q2⟩
    · go_enter Tryz.func99, Tryz.ntmps99
      go_wp2_with fail
      go_still_tail 13, (by kernel_rfl)
      change wpList _ _ _ _ _ w.drew
      go_wp2_with fail
      go_still_tail 13, (by kernel_rfl)
      change wpList _ _ _ _ _ w1.drew
      go_wp2_with fail
      go_end0
      exact HF.out
    · go_enter Tryz.func99, Tryz.ntmps99
      go_wp2_with fail
      go_still_tail 13, (by kernel_rfl)
      change wpList _ _ _ _ _ w.drew
      go_wp2_with fail
      go_still_tail 13, (by kernel_rfl)
      change wpList _ _ _ _ _ w1.drew
      go_wp2_with fail
      go_end0
      exact HF.out
end
end Go.Proofs.YtlelnpckbcpkkaaGreat.cb
