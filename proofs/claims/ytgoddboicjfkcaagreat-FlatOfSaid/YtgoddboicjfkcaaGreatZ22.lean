/- Part 22 of what is known of the program's functions and of the document's words: contracts, and the mathematics beneath them. -/
import Derived.Test.YtgoddboicjfkcaaGreatProg
import Derived.Test.YtgoddboicjfkcaaGreatZ21
import Derived.StillTailTactics
set_option linter.unusedVariables false
set_option linter.unusedSimpArgs false
set_option maxRecDepth 100000
set_option maxHeartbeats 8000000
namespace Go.Proofs.YtgoddboicjfkcaaGreat.cb
open Go.RowKit
open br
open dn (En lget lset ldel nerr dotB Sorted getV DuX LaidX)
open bl (AB Only StoC Pq cut cutR wr WR U8 RF)
open bl.rx (RB RS2 Kp)
theorem cut_zero (b : AB) : (cut b 0).n = 0 := by
 unfold cut
 rw [if_pos (by omega)]
 unfold AB.n bl.cnt
 simp [bl.cutB]
section
variable {w w' : World} {D lo RS room : Nat} {pl : Nat → Pd} {tag : Nat → Nat} {S : BS}
theorem q_less (h : DB w D lo RS pl tag S room) {I : Nat} (hok : (S.ino I).body.Ok) (hbn : (S.ino I).body.n ≤ S.used) (hur : S.used ≤ 65536) (i1 : 1 ≤ I) (i2 : I ≤ 200) (dl dh : Int) (b1 : 0 ≤ (S.ino I).links - dl) (b2 : (S.ino I).links ≤ 1000000) (b3 : 0 ≤ (S.ino I).holds - dh) (b4 : (S.ino I).holds ≤ 1000000) (b5 : 0 ≤ dl) (b6 : 0 ≤ dh) :
  Calls Tryz.prog 103 #[Pq D, .int .i64 (I : Int), .int .i64 dl, .int .i64 dh] w (RetD w D lo RS tag (.tuple #[]) (S.less (I : Int) dl dh) room) := by
 have hI0 : (0 : Int) ≤ (I : Int) := by omega
 have hI1 : (I : Int) < 201 := by omega
 have hw1 : IntKind.i64.wrap ((S.ino I).links - dl) = (S.ino I).links - dl := IntWalk.i64_in _ (by omega)
 have hw2 : IntKind.i64.wrap ((S.ino I).holds - dh) = (S.ino I).holds - dh := IntWalk.i64_in _ (by omega)
 -- the links
 have c1 := (h.drew.ino I i2).c1
 have f1 := h.drew.cf (1 + I * 9 + 1)
 obtain ⟨pl1, tag1, h1, s1⟩ := h.drew.links i2 ((S.ino I).links - dl)
 have st1 : Stp w (w.drew.setCell ⟨D, 1 + I * 9 + 1, none⟩ (.int .i64 ((S.ino I).links - dl))) tag tag1 := (Stp.below ((Below.refl _ w).drew)).trans s1
 obtain ⟨w1, e1⟩ : ∃ w1, w.drew.setCell ⟨D, 1 + I * 9 + 1, none⟩ (.int .i64 ((S.ino I).links - dl)) = w1 := ⟨_, rfl⟩
 rw [e1] at h1 st1
 -- the holds
 have c2 := (h1.drew.ino I i2).c2
 have f2 := h1.drew.cf (1 + I * 9 + 2)
 obtain ⟨pl2, tag2, h2, s2⟩ := h1.drew.holds i2 ((S.ino I).holds - dh)
 dsimp only at c2 h2
 rw [upd_same] at c2 h2
 rw [upd_upd] at h2
 have st2 : Stp w (w1.drew.setCell ⟨D, 1 + I * 9 + 2, none⟩ (.int .i64 ((S.ino I).holds - dh))) tag tag2 := (st1.trans (Stp.below ((Below.refl _ w1).drew))).trans s2
 obtain ⟨w2, e2⟩ : ∃ w2, w1.drew.setCell ⟨D, 1 + I * 9 + 2, none⟩ (.int .i64 ((S.ino I).holds - dh)) = w2 := ⟨_, rfl⟩
 rw [e2] at h2 st2
 have d1 := (h2.ino I i2).c1
 have d2 := (h2.ino I i2).c2
 dsimp only at d1 d2
 rw [upd_same] at d1 d2
 dsimp only at d1 d2
 by_cases hz : (S.ino I).links - dl = 0 ∧ (S.ino I).holds - dh = 0
 ·-- the body goes
  have hLE := Lib.hid (show S.less (I : Int) dl dh = ⟨br.upd S.ino I Ino.nil, S.used - (S.ino I).body.n⟩ by
   unfold BS.less
   dsimp only
   rw [at_nat, if_pos hz, Int.toNat_natCast])
  rw [hLE.out]
  have hi2 := h2.drew.ino I i2
  dsimp only at hi2
  rw [upd_same] at hi2
  have hc0 := hi2.c0
  have hRF : ¬ RF D (pl2 I).vB (pl2 I).vT RS := by
   rintro (e | e | e)
   ·exact h2.loD.2.2 e
   ·have := h2.tI I i2 RS (.inl e); rw [h2.tS] at this; omega
   ·have := h2.tI I i2 RS (.inr (.inl e)); rw [h2.tS] at this; omega
  have HC := Lib.hid (bl.rx.rcut_any (off := 0) hi2.b hok h2.drew.sto hRF hbn hur h2.drew.loD.2.1)
  have hst := h2.drew.c0
  have hfz : ∀ W, Only (fun b => RF D (pl2 I).vB (pl2 I).vT b ∨ b = RS) w2.drew W → True := fun _ _ => trivial
  have H2 := Lib.hid h2.drew
  have ST2 := Lib.hid (st2.trans (Stp.below ((Below.refl _ w2).drew)))
  have q1 : ((S.ino I).links - dl == 0) = true := by simpa using hz.1
  have q2 : ((S.ino I).holds - dh == 0) = true := by simpa using hz.2
  have HBN := Lib.hid (show S.used + (cut (S.ino I).body 0).n - (S.ino I).body.n = S.used - (S.ino I).body.n from by rw [cut_zero]; rfl)
  obtain ⟨S3, hS3⟩ : ∃ S3, BS.mk (br.upd S.ino I Ino.nil) (S.used - (S.ino I).body.n) = S3 := ⟨_, rfl⟩
  rw [hS3]
  have HS3 := Lib.hid hS3
  clear hS3
  generalize hlk : (S.ino I).links = L at *
  generalize hho : (S.ino I).holds = H at *
  clear hLE hz b1 b2 b3 b4 b5 b6 st2 s1 s2 hfz st1
  go_enter Tryz.func103, Tryz.ntmps103
  go_wp2_with fail
  go_still_tail 13, (by kernel_rfl)
  change wpList _ _ _ _ _ w.drew
  go_wp2_with fail
  go_still_tail 13, (by kernel_rfl)
  change wpList _ _ _ _ _ w1.drew
  go_wp2_with fail
  go_still_tail 10, (by kernel_rfl)
  change wpList _ _ _ _ _ w2.drew
  go_wp2_with fail
  refine HC.out.mono ?_
  rintro e w3 ⟨rfl, vB, vT, T, hr⟩
  obtain ⟨ht, hn⟩ := H2.out.layBody i2 hr 0 0 0 0 0 ⟨#[]⟩
  have HN := Lib.hid hn
  have HT := Lib.hid ht
  clear hr ht hn
  go_wp2_with (refine wpList_store_mid rfl 146 (.tmp 68) (.tmp 65) rfl D (1 + I * 9) #[.int .i64 0, .int .i64 0, .int .i64 0, .int .i64 0, .int .i64 0, .slice none 0 0, .slice none 0 0, .slice none 0 0, .string ⟨#[]⟩] rfl rfl HT.out (by kernel_rfl) (one9 _ _ _ _ _ _) ?_)
  go_end0
  refine ⟨rfl, NxD.trans ST2.out ?_⟩
  have hq := HN.out
  rw [upd_upd, HBN.out] at hq
  rw [← HS3.out]
  exact hq
 ·have hLE := Lib.hid (show S.less (I : Int) dl dh = ⟨br.upd S.ino I { S.ino I with links := (S.ino I).links - dl, holds := (S.ino I).holds - dh }, S.used⟩ by
   unfold BS.less
   dsimp only
   rw [at_nat, if_neg hz]
   unfold BS.put
   rw [Int.toNat_natCast])
  rw [hLE.out]
  have HF := Lib.hid (show RetD w D lo RS tag (.tuple #[]) _ room (.returned (.tuple #[])) w2 from ⟨rfl, pl2, tag2, h2, st2⟩)
  dsimp only
  generalize BS.mk (br.upd S.ino I { S.ino I with links := (S.ino I).links - dl, holds := (S.ino I).holds - dh }) S.used = S2 at *
  generalize (S.ino I).links = L at *
  generalize (S.ino I).holds = H at *
  have hz2 : (L - dl == 0) = false ∨ ((L - dl == 0) = true ∧ (H - dh == 0) = false) := by
   by_cases e : L - dl = 0
   ·exact .inr ⟨by simpa using e, by simpa using fun h => hz ⟨e, h⟩⟩
   ·exact .inl (by simpa using e)
  clear h hok hbn hur h1 h2 s1 s2 st1 st2 hLE hz b1 b2 b3 b4 b5 b6
  rcases hz2 with q1 | ⟨q1, q2⟩
  ·go_enter Tryz.func103, Tryz.ntmps103
   go_wp2_with fail
   go_still_tail 13, (by kernel_rfl)
   change wpList _ _ _ _ _ w.drew
   go_wp2_with fail
   go_still_tail 13, (by kernel_rfl)
   change wpList _ _ _ _ _ w1.drew
   go_wp2_with fail
   go_end0
   exact HF.out
  ·go_enter Tryz.func103, Tryz.ntmps103
   go_wp2_with fail
   go_still_tail 13, (by kernel_rfl)
   change wpList _ _ _ _ _ w.drew
   go_wp2_with fail
   go_still_tail 13, (by kernel_rfl)
   change wpList _ _ _ _ _ w1.drew
   go_wp2_with fail
   go_end0
   exact HF.out
end
section
variable {w w' : World} {D lo RS room : Nat} {pl : Nat → Pd} {tag : Nat → Nat} {S : BS}
theorem q_mark (h : DB w D lo RS pl tag S room) (i m : Int) : Calls Tryz.prog 38 #[Pq D, .int .i64 i, .int .i64 m] w (RetD w D lo RS tag (.int .i64 (S.mark i m).1) (S.mark i m).2 room) := by
 have HI := Lib.hid (q_is h i)
 unfold RetQ at HI
 rcases isI_cases S i with hI | ⟨I, rfl, i1, i2, hn, hI⟩
 ·rw [hI] at HI
  rw [show S.mark i m = (2, S) by unfold BS.mark; rw [if_pos hI]]
  have HF := Lib.hid h.nx
  clear h hI
  go_enter Tryz.func38, Tryz.ntmps38
  go_wp2_with fail
  refine HI.out.mono ?_
  rintro e w3 ⟨rfl, rfl⟩
  go_wp2_with fail
  go_ret
  exact ⟨rfl, HF.out⟩
 ·rw [hI] at HI
  have c3 := (h.ino I i2).c3
  have f3 := h.cf (1 + I * 9 + 3)
  rw [show S.mark (I : Int) m = (0, ⟨br.upd S.ino I { S.ino I with marks := m }, S.used⟩) by unfold BS.mark; rw [if_neg (by rw [hI]; decide), at_nat]; unfold BS.put; rw [Int.toNat_natCast]]
  have HF := Lib.hid (h.marks i2 m)
  have hI0 : (0 : Int) ≤ (I : Int) := by omega
  have hI1 : (I : Int) < 201 := by omega
  dsimp only
  generalize BS.mk (br.upd S.ino I { S.ino I with marks := m }) S.used = S2 at *
  generalize (S.ino I).marks = K at *
  clear h hI hn
  go_enter Tryz.func38, Tryz.ntmps38
  go_wp2_with fail
  refine HI.out.mono ?_
  rintro e w3 ⟨rfl, hw3⟩
  subst hw3
  go_wp2_with fail
  go_ret
  exact ⟨rfl, HF.out⟩
theorem Good_body2 {S : BS} {room : Nat} (h : br.Good S room) (hr : room ≤ 65536) (I : Nat) : (S.ino I).body.Ok ∧ (S.ino I).body.n ≤ S.used ∧ S.used ≤ 65536 := by
 refine ⟨h.1.body I, ?_, by have := h.1.room; omega⟩
 by_cases e : 1 ≤ I ∧ I ≤ 200
 ·rw [h.1.used]; exact sumF_le (f := fun k => (S.ino k).body.n) e.1 e.2
 ·rw [h.1.out I (by omega)]; show abE.n ≤ _; rw [abE_n]; exact Nat.zero_le _
end
section
variable {w w' : World} {D lo RS room : Nat} {pl : Nat → Pd} {tag : Nat → Nat} {S : BS}
theorem drop_less (S : BS) (D : Nat) (s : ByteArray) (i : Int) : S.drop (D : Int) s i = BS.less ⟨br.upd S.ino D { S.ino D with dir := ldel s (S.ino D).dir }, S.used⟩ i 1 0 := by
 unfold BS.drop BS.putDir BS.put
 rw [at_nat, Int.toNat_natCast]
theorem q_unlink (h : DB w D lo RS pl tag S room) (hG : br.Good S room) (hr : room ≤ 65536) (hb : ∀ k, (S.ino k).holds ≤ 900000) (d : Int) (s : ByteArray) : Calls Tryz.prog 36 #[Pq D, .int .i64 d, .string s] w (RetD w D lo RS tag (.int .i64 (S.unlink d s).1) (S.unlink d s).2 room) := by
 have HD := Lib.hid (q_dir h d true)
 unfold RetQ at HD
 have HF := Lib.hid h.nx
 by_cases e1 : S.dirE d true = 0
 case neg =>
  rw [show S.unlink d s = (S.dirE d true, S) by unfold BS.unlink; rw [if_pos e1]]
  generalize S.dirE d true = x at *
  have hq : (x != 0) = true := by simpa using e1
  clear h hG hb e1
  go_enter Tryz.func36, Tryz.ntmps36
  go_wp2_with fail
  refine HD.out.mono ?_
  rintro e w3 ⟨rfl, rfl⟩
  go_wp2_with fail
  go_ret
  exact ⟨rfl, HF.out⟩
 have HG := Lib.hid (q_get h hG d s)
 unfold RetQ at HG
 by_cases e2 : (S.get d s).2 = 0
 case neg =>
  rw [show S.unlink d s = ((S.get d s).2, S) by unfold BS.unlink; rw [if_neg (by simpa using e1), if_pos e2]]
  rw [e1] at HD
  generalize (S.get d s).1 = y at *
  generalize (S.get d s).2 = x at *
  have hq : (x != 0) = true := by simpa using e2
  clear h hG hb e1 e2
  go_enter Tryz.func36, Tryz.ntmps36
  go_wp2_with fail
  refine HD.out.mono ?_
  rintro e w3 ⟨rfl, rfl⟩
  go_wp2_with fail
  refine HG.out.mono ?_
  rintro e w3 ⟨rfl, rfl⟩
  go_wp2_with fail
  go_ret
  exact ⟨rfl, HF.out⟩
 rw [e1] at HD
 rw [e2] at HG
 obtain ⟨N, rfl, n1, n2, hk, hg⟩ := get_ok e2
 have hget : S.get (N : Int) s = ((S.get (N : Int) s).1, 0) := by rw [← e2]
 generalize hv : (S.get (N : Int) s).1 = v at *
 obtain ⟨_, _, I, rfl, i1, i2, i3, i4, i5⟩ := hG.1.lead hg
 have hne : I ≠ N := fun e => by subst e; exact hG.1.own hG.2 hg
 have c0 := (h.ino I i2).c0
 have hI0 : (0 : Int) ≤ (I : Int) := by omega
 have hI1 : (I : Int) < 201 := by omega
 have hN0 : (0 : Int) ≤ (N : Int) := by omega
 have hN1 : (N : Int) < 201 := by omega
 by_cases hk2 : (S.ino I).kind = 2
 ·rw [show S.unlink (N : Int) s = (21, S) by unfold BS.unlink; rw [hget, if_neg (by rw [e1]; decide), if_neg (show ¬ ((0 : Int) ≠ 0) by decide), at_nat, if_pos hk2]]
  rw [hk2] at c0
  have HFs := HF
  clear h hG hb e1 e2 hk hg hget hv i3 i4 i5 hne hk2
  go_enter Tryz.func36, Tryz.ntmps36
  go_wp2_with fail
  refine HD.out.mono ?_
  rintro e w3 ⟨rfl, rfl⟩
  go_wp2_with fail
  refine HG.out.mono ?_
  rintro e w3 ⟨rfl, rfl⟩
  go_wp2_with fail
  go_ret
  exact ⟨rfl, HF.out⟩
 ·generalize hkk : (S.ino I).kind = kk at *
  have hq : (kk == 2) = false := by simpa using hk2
  have hU : S.unlink (N : Int) s = (0, S.drop (N : Int) s (I : Int)) := by unfold BS.unlink; rw [hget, if_neg (by rw [e1]; decide), if_neg (show ¬ ((0 : Int) ≠ 0) by decide), at_nat, if_neg (by rw [hkk]; exact hk2)]
  rw [hU, drop_less]
  dsimp only
  have HDD := Lib.hid (q_ddel h hG n2 hk s)
  unfold RetD at HDD
  obtain ⟨gv, hgv⟩ : ∃ gv, getV s (S.ino N).dir = gv := ⟨_, rfl⟩
  rw [hgv] at HDD
  obtain ⟨S1, hS1⟩ : ∃ S1, BS.mk (br.upd S.ino N { S.ino N with dir := ldel s (S.ino N).dir }) S.used = S1 := ⟨_, rfl⟩
  rw [hS1] at HDD ⊢
  have h1I : S1.ino I = S.ino I := by rw [← hS1]; exact upd_other _ _ hne
  obtain ⟨g1, g2, g3⟩ := Good_body2 hG hr I
  have hnum := hG.1.nums I
  have h9 := hb I
  have ht := hG.1.twenty I
  have HL := Lib.hid (fun w4 pl1 tag1 (h1 : DB w4 D lo RS pl1 tag1 S1 room) => q_less h1 (I := I) (by rw [h1I]; exact g1) (by rw [h1I, ← hS1]; exact g2) (by rw [← hS1]; exact g3) i1 i2 1 0 (by rw [h1I]; omega) (by rw [h1I]; omega) (by rw [h1I]; omega) (by rw [h1I]; omega) (by omega) (by omega))
  unfold RetD at HL
  generalize S1.less (I : Int) 1 0 = S2 at *
  clear h hG hb e1 e2 hk hg hget hv i3 i4 i5 hne hU hgv hS1 h1I g1 g2 g3 hnum h9 ht hkk hk2
  go_enter Tryz.func36, Tryz.ntmps36
  go_wp2_with fail
  refine HD.out.mono ?_
  rintro e w3 ⟨rfl, rfl⟩
  go_wp2_with fail
  refine HG.out.mono ?_
  rintro e w3 ⟨rfl, rfl⟩
  go_wp2_with fail
  refine HDD.out.mono ?_
  rintro e w4 ⟨rfl, pl1, tag1, h1, s1⟩
  have HL4 := Lib.hid (HL.out _ _ _ h1)
  have ST := Lib.hid s1
  clear h1 s1 HL HDD
  go_wp2_with fail
  refine HL4.out.mono ?_
  rintro e w5 ⟨rfl, hn5⟩
  have HN := Lib.hid (NxD.trans ST.out hn5)
  clear hn5 HL4
  go_wp2_with fail
  go_ret
  exact ⟨rfl, HN.out⟩
end
end Go.Proofs.YtgoddboicjfkcaaGreat.cb
