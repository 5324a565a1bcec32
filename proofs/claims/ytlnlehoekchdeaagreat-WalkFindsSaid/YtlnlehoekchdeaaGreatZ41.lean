/- The document's own branch: names that go, and come. -/
import Derived.Test.YtlnlehoekchdeaaGreatZ40
section
namespace Go.Proofs.YtlnlehoekchdeaaGreat.cb
open Go.RowKit
open Go.Proofs.YtlnlehoekchdeaaGreat.br
open Go.Proofs.YtlnlehoekchdeaaGreat.dn (En lget lset ldel nerr dotB Sorted getV DuX LaidX)
open Go.Proofs.YtlnlehoekchdeaaGreat.bl (AB Only StoC Pq cut cutR wr WR U8 RF)
open Go.Proofs.YtlnlehoekchdeaaGreat.bl.rx (RB RS2 Kp)
set_option linter.unusedVariables false
set_option linter.unusedSimpArgs false

section
variable {w w' : World} {D lo RS room : Nat} {pl : Nat → Pd} {tag : Nat → Nat} {S : BS}
theorem drop_less (S : BS) (D : Nat) (s : ByteArray) (i : Int) : S.drop (D : Int) s i = BS.less ⟨br.upd S.ino D { S.ino D with dir := ldel s (S.ino D).dir }, S.used⟩ i 1 0 := by
  unfold BS.drop BS.putDir BS.put
  rw [at_nat, Int.toNat_natCast]
set_option maxRecDepth 100000 in
set_option maxHeartbeats 1000000 in
theorem q_unlink (h : DB w D lo RS pl tag S room) (hG : br.Good S room) (hr : room ≤ 65536) (hb : ∀ k, (S.ino k).holds ≤ 900000) (d : Int) (s : ByteArray) : Calls Tryz.prog 26 #[Pq D, .int .i64 d, .string s] w (RetD w D lo RS tag (.int .i64 (S.unlink d s).1) (S.unlink d s).2 room) := by
  have HD := Lib.hid (q_dir h d true)
  unfold RetQ at HD
  have HF := Lib.hid h.nx
  by_cases e1 : S.dirE d true = 0
  case neg =>
    rw [show S.unlink d s = (S.dirE d true, S) by unfold BS.unlink; rw [if_pos e1]]
    generalize S.dirE d true = x at *
    have hq : (x != 0) = true := by simpa using e1
    clear h hG hb e1
    go_enter Tryz.func26, Tryz.ntmps26
    go_wp2_with fail
    refine HD.out.mono ?_
    rintro e w3 ⟨rfl, rfl⟩
    go_wp2_with fail
    go_ret
    exact ⟨rfl, HF.out⟩
  have HG := Lib.hid (q_get h hG d s)
  unfold RetQ at HG
  by_cases e2 : (S.get d s).2 = 0
  case neg =>
    rw [show S.unlink d s = ((S.get d s).2, S) by unfold BS.unlink; rw [if_neg (by simpa using e1), if_pos e2]]
    rw [e1] at HD
    generalize (S.get d s).1 = y at *
    generalize (S.get d s).2 = x at *
    have hq : (x != 0) = true := by simpa using e2
    clear h hG hb e1 e2
    go_enter Tryz.func26, Tryz.ntmps26
    go_wp2_with fail
    refine HD.out.mono ?_
    rintro e w3 ⟨rfl, rfl⟩
    go_wp2_with fail
    refine HG.out.mono ?_
    rintro e w3 ⟨rfl, rfl⟩
    go_wp2_with fail
    go_ret
    exact ⟨rfl, HF.out⟩
  rw [e1] at HD
  rw [e2] at HG
  obtain ⟨N, rfl, n1, n2, hk, hg⟩ := get_ok e2
  have hget : S.get (N : Int) s = ((S.get (N : Int) s).1, 0) := by rw [← e2]
  generalize hv : (S.get (N : Int) s).1 = v at *
  obtain ⟨_, _, I, rfl, i1, i2, i3, i4, i5⟩ := hG.1.lead hg
  have hne : I ≠ N := fun e => by subst e; exact hG.1.own hG.2 hg
  have c0 := (h.ino I i2).c0
  have hI0 : (0 : Int) ≤ (I : Int) := by omega
  have hI1 : (I : Int) < 201 := by omega
  have hN0 : (0 : Int) ≤ (N : Int) := by omega
  have hN1 : (N : Int) < 201 := by omega
  by_cases hk2 : (S.ino I).kind = 2
  · rw [show S.unlink (N : Int) s = (21, S) by unfold BS.unlink; rw [hget, if_neg (by rw [e1]; decide), if_neg (show ¬ ((0 : Int) ≠ 0) by decide), at_nat, if_pos hk2]]
    rw [hk2] at c0
    have HFs := HF
    clear h hG hb e1 e2 hk hg hget hv i3 i4 i5 hne hk2
    go_enter Tryz.func26, Tryz.ntmps26
    go_wp2_with fail
    refine HD.out.mono ?_
    rintro e w3 ⟨rfl, rfl⟩
    go_wp2_with fail
    refine HG.out.mono ?_
    rintro e w3 ⟨rfl, rfl⟩
    go_wp2_with fail
    go_ret
    exact ⟨rfl, HF.out⟩
  · generalize hkk : (S.ino I).kind = kk at *
    have hq : (kk == 2) = false := by simpa using hk2
    have hU : S.unlink (N : Int) s = (0, S.drop (N : Int) s (I : Int)) := by unfold BS.unlink; rw [hget, if_neg (by rw [e1]; decide), if_neg (show ¬ ((0 : Int) ≠ 0) by decide), at_nat, if_neg (by rw [hkk]; exact hk2)]
    rw [hU, drop_less]
    dsimp only
    have HDD := Lib.hid (q_ddel h hG n2 hk s)
    unfold RetD at HDD
    obtain ⟨gv, hgv⟩ : ∃ gv, getV s (S.ino N).dir = gv := ⟨_, rfl⟩
    rw [hgv] at HDD
    obtain ⟨S1, hS1⟩ : ∃ S1, BS.mk (br.upd S.ino N { S.ino N with dir := ldel s (S.ino N).dir }) S.used = S1 := ⟨_, rfl⟩
    rw [hS1] at HDD ⊢
    have h1I : S1.ino I = S.ino I := by rw [← hS1]; exact upd_other _ _ hne
    obtain ⟨g1, g2, g3⟩ := Good_body2 hG hr I
    have hnum := hG.1.nums I
    have h9 := hb I
    have ht := hG.1.twenty I
    have HL := Lib.hid (fun w4 pl1 tag1 (h1 : DB w4 D lo RS pl1 tag1 S1 room) => q_less h1 (I := I) (by rw [h1I]; exact g1) (by rw [h1I, ← hS1]; exact g2) (by rw [← hS1]; exact g3) i1 i2 1 0 (by rw [h1I]; omega) (by rw [h1I]; omega) (by rw [h1I]; omega) (by rw [h1I]; omega) (by omega) (by omega))
    unfold RetD at HL
    generalize S1.less (I : Int) 1 0 = S2 at *
    clear h hG hb e1 e2 hk hg hget hv i3 i4 i5 hne hU hgv hS1 h1I g1 g2 g3 hnum h9 ht hkk hk2
    go_enter Tryz.func26, Tryz.ntmps26
    go_wp2_with fail
    refine HD.out.mono ?_
    rintro e w3 ⟨rfl, rfl⟩
    go_wp2_with fail
    refine HG.out.mono ?_
    rintro e w3 ⟨rfl, rfl⟩
    go_wp2_with fail
    refine HDD.out.mono ?_
    rintro e w4 ⟨rfl, pl1, tag1, h1, s1⟩
    have HL4 := Lib.hid (HL.out _ _ _ h1)
    have ST := Lib.hid s1
    clear h1 s1 HL HDD
    go_wp2_with fail
    refine HL4.out.mono ?_
    rintro e w5 ⟨rfl, hn5⟩
    have HN := Lib.hid (NxD.trans ST.out hn5)
    clear hn5 HL4
    go_wp2_with fail
    go_ret
    exact ⟨rfl, HN.out⟩
set_option maxRecDepth 100000 in
set_option maxHeartbeats 1000000 in
theorem q_rmdir (h : DB w D lo RS pl tag S room) (hG : br.Good S room) (hr : room ≤ 65536) (hb : ∀ k, (S.ino k).holds ≤ 900000) (d : Int) (s : ByteArray) : Calls Tryz.prog 28 #[Pq D, .int .i64 d, .string s] w (RetD w D lo RS tag (.int .i64 (S.rmdir d s).1) (S.rmdir d s).2 room) := by
  have HD := Lib.hid (q_dir h d true)
  unfold RetQ at HD
  have HF := Lib.hid h.nx
  by_cases e1 : S.dirE d true = 0
  case neg =>
    rw [show S.rmdir d s = (S.dirE d true, S) by unfold BS.rmdir; rw [if_pos e1]]
    generalize S.dirE d true = x at *
    have hq : (x != 0) = true := by simpa using e1
    clear h hG hb e1
    go_enter Tryz.func28, Tryz.ntmps28
    go_wp2_with fail
    refine HD.out.mono ?_
    rintro e w3 ⟨rfl, rfl⟩
    go_wp2_with fail
    go_ret
    exact ⟨rfl, HF.out⟩
  have HG := Lib.hid (q_get h hG d s)
  unfold RetQ at HG
  by_cases e2 : (S.get d s).2 = 0
  case neg =>
    rw [show S.rmdir d s = ((S.get d s).2, S) by unfold BS.rmdir; rw [if_neg (by simpa using e1), if_pos e2]]
    rw [e1] at HD
    generalize (S.get d s).1 = y at *
    generalize (S.get d s).2 = x at *
    have hq : (x != 0) = true := by simpa using e2
    clear h hG hb e1 e2
    go_enter Tryz.func28, Tryz.ntmps28
    go_wp2_with fail
    refine HD.out.mono ?_
    rintro e w3 ⟨rfl, rfl⟩
    go_wp2_with fail
    refine HG.out.mono ?_
    rintro e w3 ⟨rfl, rfl⟩
    go_wp2_with fail
    go_ret
    exact ⟨rfl, HF.out⟩
  rw [e1] at HD
  rw [e2] at HG
  obtain ⟨N, rfl, n1, n2, hk, hg⟩ := get_ok e2
  have hget : S.get (N : Int) s = ((S.get (N : Int) s).1, 0) := by rw [← e2]
  generalize hv : (S.get (N : Int) s).1 = v at *
  obtain ⟨_, _, I, rfl, i1, i2, i3, i4, i5⟩ := hG.1.lead hg
  have hne : I ≠ N := fun e => by subst e; exact hG.1.own hG.2 hg
  have c0 := (h.ino I i2).c0
  have hI0 : (0 : Int) ≤ (I : Int) := by omega
  have hI1 : (I : Int) < 201 := by omega
  have hN0 : (0 : Int) ≤ (N : Int) := by omega
  have hN1 : (N : Int) < 201 := by omega
  by_cases hk2 : (S.ino I).kind = 2
  case neg =>
    rw [show S.rmdir (N : Int) s = (20, S) by unfold BS.rmdir; rw [hget, if_neg (by rw [e1]; decide), if_neg (show ¬ ((0 : Int) ≠ 0) by decide), at_nat, if_pos hk2]]
    generalize (S.ino I).kind = kk at *
    have hq : (kk != 2) = true := by simpa using hk2
    have HFs := HF
    clear h hG hb e1 e2 hk hg hget hv i3 i4 i5 hne hk2
    go_enter Tryz.func28, Tryz.ntmps28
    go_wp2_with fail
    refine HD.out.mono ?_
    rintro e w3 ⟨rfl, rfl⟩
    go_wp2_with fail
    refine HG.out.mono ?_
    rintro e w3 ⟨rfl, rfl⟩
    go_wp2_with fail
    go_ret
    exact ⟨rfl, HF.out⟩
  have d0 := (h.ino I i2).d.d0
  rw [hk2] at c0
  by_cases hd0 : (S.ino I).dir = []
  case neg =>
    rw [show S.rmdir (N : Int) s = (39, S) by unfold BS.rmdir; rw [hget, if_neg (by rw [e1]; decide), if_neg (show ¬ ((0 : Int) ≠ 0) by decide), at_nat, if_neg (by rw [hk2]; decide), if_pos hd0]]
    have hlen : 0 < (S.ino I).dir.length := List.length_pos_iff.2 hd0
    have hlen2 := hG.1.dirLen I
    generalize (S.ino I).dir.length = ln at *
    have hl0 : (0 : Int) < (ln : Int) := by omega
    generalize dn.Ao (pl I).o = Ad at *
    have HFs := HF
    clear h hG hb e1 e2 hk hg hget hv i3 i4 i5 hne hk2 hd0
    go_enter Tryz.func28, Tryz.ntmps28
    go_wp2_with fail
    refine HD.out.mono ?_
    rintro e w3 ⟨rfl, rfl⟩
    go_wp2_with fail
    refine HG.out.mono ?_
    rintro e w3 ⟨rfl, rfl⟩
    go_wp2_with fail
    go_ret
    exact ⟨rfl, HF.out⟩
  · rw [hd0] at d0
    generalize dn.Ao (pl I).o = Ad at *
    dsimp only [List.length_nil] at d0
    have hU : S.rmdir (N : Int) s = (0, S.drop (N : Int) s (I : Int)) := by unfold BS.rmdir; rw [hget, if_neg (by rw [e1]; decide), if_neg (show ¬ ((0 : Int) ≠ 0) by decide), at_nat, if_neg (by rw [hk2]; decide), if_neg (by rw [hd0]; simp)]
    rw [hU, drop_less]
    dsimp only
    have HDD := Lib.hid (q_ddel h hG n2 hk s)
    unfold RetD at HDD
    obtain ⟨gv, hgv⟩ : ∃ gv, getV s (S.ino N).dir = gv := ⟨_, rfl⟩
    rw [hgv] at HDD
    obtain ⟨S1, hS1⟩ : ∃ S1, BS.mk (br.upd S.ino N { S.ino N with dir := ldel s (S.ino N).dir }) S.used = S1 := ⟨_, rfl⟩
    rw [hS1] at HDD ⊢
    have h1I : S1.ino I = S.ino I := by rw [← hS1]; exact upd_other _ _ hne
    obtain ⟨g1, g2, g3⟩ := Good_body2 hG hr I
    have hnum := hG.1.nums I
    have h9 := hb I
    have ht := hG.1.twenty I
    have HL := Lib.hid (fun w4 pl1 tag1 (h1 : DB w4 D lo RS pl1 tag1 S1 room) => q_less h1 (I := I) (by rw [h1I]; exact g1) (by rw [h1I, ← hS1]; exact g2) (by rw [← hS1]; exact g3) i1 i2 1 0 (by rw [h1I]; omega) (by rw [h1I]; omega) (by rw [h1I]; omega) (by rw [h1I]; omega) (by omega) (by omega))
    unfold RetD at HL
    generalize S1.less (I : Int) 1 0 = S2 at *
    clear h hG hb e1 e2 hk hg hget hv i3 i4 i5 hne hU hgv hS1 h1I g1 g2 g3 hnum h9 ht hk2 hd0
    go_enter Tryz.func28, Tryz.ntmps28
    go_wp2_with fail
    refine HD.out.mono ?_
    rintro e w3 ⟨rfl, rfl⟩
    go_wp2_with fail
    refine HG.out.mono ?_
    rintro e w3 ⟨rfl, rfl⟩
    go_wp2_with fail
    refine HDD.out.mono ?_
    rintro e w4 ⟨rfl, pl1, tag1, h1, s1⟩
    have HL4 := Lib.hid (HL.out _ _ _ h1)
    have ST := Lib.hid s1
    clear h1 s1 HL HDD
    go_wp2_with fail
    refine HL4.out.mono ?_
    rintro e w5 ⟨rfl, hn5⟩
    have HN := Lib.hid (NxD.trans ST.out hn5)
    clear hn5 HL4
    go_wp2_with fail
    go_ret
    exact ⟨rfl, HN.out⟩
set_option maxRecDepth 100000 in
set_option maxHeartbeats 1000000 in
theorem q_link (h : DB w D lo RS pl tag S room) (hG : br.Good S room) (d : Int) (s : ByteArray) (i : Int) (hm : s.size ≤ 9223372036854775807) : Calls Tryz.prog 24 #[Pq D, .int .i64 d, .string s, .int .i64 i] w (RetD w D lo RS tag (.int .i64 (S.link d s i).1) (S.link d s i).2 room) := by
  have HV := Lib.hid (q_vacant h hG d s hm)
  unfold RetI at HV
  have HF := Lib.hid (fun w' (hb : Below w.heap.size w w') => h.nxb hb)
  by_cases e1 : S.vacant d s = 0
  case neg =>
    rw [show S.link d s i = (S.vacant d s, S) by unfold BS.link; rw [if_pos e1]]
    generalize S.vacant d s = x at *
    have hq : (x != 0) = true := by simpa using e1
    clear h hG e1
    go_enter Tryz.func24, Tryz.ntmps24
    go_wp2_with fail
    refine HV.out.mono ?_
    rintro e w3 ⟨rfl, hb3⟩
    go_wp2_with fail
    go_ret
    exact ⟨rfl, HF.out _ hb3⟩
  rw [e1] at HV
  obtain ⟨N, rfl, n1, n2, hk, hl, hg, hs⟩ := vacant_ok e1
  have HI := Lib.hid (fun w3 (hb : Below w.heap.size w w3) => q_is (h.below hb) i)
  unfold RetQ at HI
  rcases isI_cases S i with hI | ⟨I, rfl, i1, i2, hn, hI⟩
  · rw [hI] at HI
    rw [show S.link (N : Int) s i = (2, S) by unfold BS.link; rw [if_neg (by simpa using e1), if_pos (.inl hI)]]
    clear h hG e1 hI hk hl hg hs
    go_enter Tryz.func24, Tryz.ntmps24
    go_wp2_with fail
    refine HV.out.mono ?_
    rintro e w3 ⟨rfl, hb3⟩
    have HI3 := Lib.hid (HI.out _ hb3)
    go_wp2_with fail
    refine HI3.out.mono ?_
    rintro e w4 ⟨rfl, rfl⟩
    go_wp2_with fail
    go_ret
    exact ⟨rfl, HF.out _ hb3⟩
  rw [hI] at HI
  have HC := Lib.hid (fun w3 (hb : Below w.heap.size w w3) => (h.below hb).ino I i2)
  have hI0 : (0 : Int) ≤ (I : Int) := by omega
  have hI1 : (I : Int) < 201 := by omega
  have hN0 : (0 : Int) ≤ (N : Int) := by omega
  have hN1 : (N : Int) < 201 := by omega
  by_cases hl0 : (S.ino I).links = 0
  · rw [show S.link (N : Int) s (I : Int) = (2, S) by unfold BS.link; rw [if_neg (by simpa using e1), if_pos (.inr (by rw [at_nat]; exact hl0))]]
    have HC1 := Lib.hid (fun w3 hb => (HC.out w3 hb).c1)
    rw [hl0] at HC1
    clear h hG e1 hI hk hl hg hs hn hl0 HC
    go_enter Tryz.func24, Tryz.ntmps24
    go_wp2_with fail
    refine HV.out.mono ?_
    rintro e w3 ⟨rfl, hb3⟩
    have HI3 := Lib.hid (HI.out _ hb3)
    have c1 := HC1.out _ hb3
    go_wp2_with fail
    refine HI3.out.mono ?_
    rintro e w4 ⟨rfl, hw4⟩
    subst hw4
    go_wp2_with fail
    go_ret
    exact ⟨rfl, HF.out _ hb3⟩
  have HC0 := Lib.hid (fun w3 hb => (HC.out w3 hb).c0)
  have HC1 := Lib.hid (fun w3 hb => (HC.out w3 hb).c1)
  have hq1 : ((S.ino I).links == 0) = false := by simpa using hl0
  by_cases hk2 : (S.ino I).kind = 2
  · rw [show S.link (N : Int) s (I : Int) = (1, S) by unfold BS.link; rw [if_neg (by simpa using e1), if_neg (by rw [hI, at_nat]; simpa using hl0), at_nat, if_pos hk2]]
    rw [hk2] at HC0
    generalize (S.ino I).links = ll at *
    clear h hG e1 hI hk hl hg hs hn hl0 HC hk2
    go_enter Tryz.func24, Tryz.ntmps24
    go_wp2_with fail
    refine HV.out.mono ?_
    rintro e w3 ⟨rfl, hb3⟩
    have HI3 := Lib.hid (HI.out _ hb3)
    have c1 := HC1.out _ hb3
    have c0 := HC0.out _ hb3
    go_wp2_with fail
    refine HI3.out.mono ?_
    rintro e w4 ⟨rfl, hw4⟩
    subst hw4
    go_wp2_with fail
    go_ret
    exact ⟨rfl, HF.out _ hb3⟩
  have hq2 : ((S.ino I).kind == 2) = false := by simpa using hk2
  by_cases h20 : 20 ≤ (S.ino I).links
  · rw [show S.link (N : Int) s (I : Int) = (31, S) by unfold BS.link; rw [if_neg (by simpa using e1), if_neg (by rw [hI, at_nat]; simpa using hl0), at_nat, if_neg hk2, if_pos h20]]
    generalize (S.ino I).links = ll at *
    generalize (S.ino I).kind = kk at *
    clear h hG e1 hI hk hl hg hs hn hl0 HC hk2
    go_enter Tryz.func24, Tryz.ntmps24
    go_wp2_with fail
    refine HV.out.mono ?_
    rintro e w3 ⟨rfl, hb3⟩
    have HI3 := Lib.hid (HI.out _ hb3)
    have c1 := HC1.out _ hb3
    have c0 := HC0.out _ hb3
    go_wp2_with fail
    refine HI3.out.mono ?_
    rintro e w4 ⟨rfl, hw4⟩
    subst hw4
    go_wp2_with fail
    go_ret
    exact ⟨rfl, HF.out _ hb3⟩
  · have hne : I ≠ N := fun e => by subst e; exact hk2 hk
    have hln := (hG.1.nums I).1
    have hw1 : IntKind.i64.wrap ((S.ino I).links + 1) = (S.ino I).links + 1 := IntWalk.i64_in _ (by omega)
    have hcl : (S.ino N).dir.length ≤ 4000 := hG.1.dirLen N
    have hcg : ∀ e ∈ (S.ino N).dir, e.1.size ≤ 9223372036854775807 := fun e he => by have := nerr_len (hG.1.good N e he).1; omega
    have hcs := hG.1.sorted N
    rw [show S.link (N : Int) s (I : Int) = (0, ⟨br.upd (br.upd S.ino I { S.ino I with links := (S.ino I).links + 1 }) N { S.ino N with dir := lset s (I : Int) (S.ino N).dir }, S.used⟩) by
      unfold BS.link
      rw [if_neg (by simpa using e1), if_neg (by rw [hI, at_nat]; simpa using hl0), at_nat, if_neg hk2, if_neg h20]
      dsimp only
      unfold BS.putDir BS.put
      rw [Int.toNat_natCast, Int.toNat_natCast, at_nat]
      dsimp only
      rw [upd_other _ _ (fun e => hne e.symm)]]
    have HL := Lib.hid (fun w3 (hb : Below w.heap.size w w3) => (h.below hb).drew.links i2 ((S.ino I).links + 1))
    have HFZ := Lib.hid (fun w3 (hb : Below w.heap.size w w3) j => (h.below hb).drew.cf j)
    have hkN : (br.upd S.ino I { S.ino I with links := (S.ino I).links + 1 } N) = S.ino N := upd_other _ _ (fun e => hne e.symm)
    have HS := Lib.hid (fun w4 pl1 tag1 (h1 : DB w4 D lo RS pl1 tag1 ⟨br.upd S.ino I { S.ino I with links := (S.ino I).links + 1 }, S.used⟩ room) => q_dset h1 n2 (by dsimp only; rw [hkN]; exact hk) (by dsimp only; rw [hkN]; exact hcs) (by dsimp only; rw [hkN]; exact hcl) (by dsimp only; rw [hkN]; exact hcg) s (I : Int) hm hs.1 hs.2 (by omega))
    unfold RetD at HS
    dsimp only at HS
    rw [hkN] at HS
    have HB := Lib.hid (fun w3 (hb : Below w.heap.size w w3) => (Stp.below hb : Stp w w3 tag tag).trans (Stp.below ((Below.refl _ w3).drew)))
    dsimp only
    obtain ⟨S2, hS2⟩ : ∃ S2, BS.mk (br.upd (br.upd S.ino I { S.ino I with links := (S.ino I).links + 1 }) N { S.ino N with dir := lset s (I : Int) (S.ino N).dir }) S.used = S2 := ⟨_, rfl⟩
    rw [hS2] at HS ⊢
    obtain ⟨S1, hS1⟩ : ∃ S1, BS.mk (br.upd S.ino I { S.ino I with links := (S.ino I).links + 1 }) S.used = S1 := ⟨_, rfl⟩
    rw [hS1] at HS HL
    generalize (S.ino I).links = ll at *
    generalize (S.ino I).kind = kk at *
    clear h hG e1 hI hk hl hg hs hn hl0 HC hk2 hcl hcg hcs hkN hS1 hS2
    go_enter Tryz.func24, Tryz.ntmps24
    go_wp2_with fail
    refine HV.out.mono ?_
    rintro e w3 ⟨rfl, hb3⟩
    have HI3 := Lib.hid (HI.out _ hb3)
    have c1 := HC1.out _ hb3
    have c0 := HC0.out _ hb3
    have c1d : w3.drew.cell? ⟨D, 1 + I * 9 + 1, none⟩ = some (.int .i64 ll) := c1
    have f1 := HFZ.out _ hb3 (1 + I * 9 + 1)
    obtain ⟨pl1, tag1, h1, s1⟩ := HL.out _ hb3
    have HS3 := Lib.hid (HS.out _ _ _ h1)
    have ST := Lib.hid ((HB.out _ hb3).trans s1)
    clear h1 s1 HS HL HFZ
    go_wp2_with fail
    refine HI3.out.mono ?_
    rintro e w4 ⟨rfl, hw4⟩
    subst hw4
    go_wp2_with fail
    go_still_tail 12, (by kernel_rfl)
    change wpList _ _ _ _ _ (World.drew _)
    go_wp2_with fail
    refine HS3.out.mono ?_
    rintro e w5 ⟨rfl, hn5⟩
    have HN := Lib.hid (NxD.trans ST.out hn5)
    clear hn5 HS3
    go_wp2_with fail
    go_ret
    exact ⟨rfl, HN.out⟩
end
end Go.Proofs.YtlnlehoekchdeaaGreat.cb
end
