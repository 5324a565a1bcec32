/- The document's own branch: what is only asked of it, on. -/
import Derived.Test.YtlelnpckbcpkkaaGreatD2
namespace Go.Proofs.YtlelnpckbcpkkaaGreat.cb
open Go.RowKit
open Go.Proofs.YtlelnpckbcpkkaaGreat.br
open Go.Proofs.YtlelnpckbcpkkaaGreat.dn (En lget lset ldel nerr dotB Sorted getV DuX LaidX)
open Go.Proofs.YtlelnpckbcpkkaaGreat.bl (AB Only StoC Pq cut cutR wr WR U8 RF)
open Go.Proofs.YtlelnpckbcpkkaaGreat.bl.rx (RB RS2 Kp)
set_option linter.unusedVariables false
set_option linter.unusedSimpArgs false

section
variable {w w' : World} {D lo RS room : Nat} {pl : Nat → Pd} {tag : Nat → Nat} {S : BS}
set_option maxRecDepth 100000 in
set_option maxHeartbeats 1000000 in
theorem q_kind (h : DB w D lo RS pl tag S room) (i : Int) : Calls Tryz.prog 66 #[Pq D, .int .i64 i] w (RetQ w (.int .i64 (S.kindOf i))) := by
  have HI := Lib.hid (q_is h i)
  unfold RetQ at HI ⊢
  rcases isI_cases S i with hI | ⟨I, rfl, i1, i2, hn, hI⟩
  · rw [hI] at HI
    rw [show S.kindOf i = 0 by unfold BS.kindOf; rw [hI]; rfl]
    clear h hI
    go_enter Tryz.func66, Tryz.ntmps66
    go_wp2_with fail
    refine HI.out.mono ?_
    rintro e w2 ⟨rfl, rfl⟩
    go_wp2_with fail
    go_ret
    exact ⟨rfl, rfl⟩
  · rw [hI] at HI
    rw [show S.kindOf (I : Int) = (S.ino I).kind from kind_of i1 i2]
    have c0 := (h.ino I i2).c0
    generalize (S.ino I).kind = kk at *
    clear h hI hn
    go_enter Tryz.func66, Tryz.ntmps66
    go_wp2_with fail
    refine HI.out.mono ?_
    rintro e w2 ⟨rfl, rfl⟩
    go_wp2_with fail
    go_ret
    exact ⟨rfl, rfl⟩
set_option maxRecDepth 100000 in
set_option maxHeartbeats 1000000 in
theorem q_parent (h : DB w D lo RS pl tag S room) (i : Int) : Calls Tryz.prog 67 #[Pq D, .int .i64 i] w (RetQ w (.int .i64 (S.parentOf i))) := by
  have HI := Lib.hid (q_is h i)
  unfold RetQ at HI ⊢
  rcases isI_cases S i with hI | ⟨I, rfl, i1, i2, hn, hI⟩
  · rw [hI] at HI
    rw [show S.parentOf i = 0 by unfold BS.parentOf; rw [hI]; rfl]
    clear h hI
    go_enter Tryz.func67, Tryz.ntmps67
    go_wp2_with fail
    refine HI.out.mono ?_
    rintro e w2 ⟨rfl, rfl⟩
    go_wp2_with fail
    go_ret
    exact ⟨rfl, rfl⟩
  · rw [hI] at HI
    rw [show S.parentOf (I : Int) = (S.ino I).parent from parent_of i1 i2 hn]
    have c4 := (h.ino I i2).c4
    generalize (S.ino I).parent = kk at *
    clear h hI hn
    go_enter Tryz.func67, Tryz.ntmps67
    go_wp2_with fail
    refine HI.out.mono ?_
    rintro e w2 ⟨rfl, rfl⟩
    go_wp2_with fail
    go_ret
    exact ⟨rfl, rfl⟩
set_option maxRecDepth 100000 in
set_option maxHeartbeats 1000000 in
theorem q_target (h : DB w D lo RS pl tag S room) (i : Int) : Calls Tryz.prog 62 #[Pq D, .int .i64 i] w (RetQ w (.tuple #[.string (S.targetOf i).1, .int .i64 (S.targetOf i).2])) := by
  have HI := Lib.hid (q_is h i)
  unfold RetQ at HI ⊢
  rcases isI_cases S i with hI | ⟨I, rfl, i1, i2, hn, hI⟩
  · rw [hI] at HI
    rw [show S.targetOf i = (⟨#[]⟩, 2) by unfold BS.targetOf; rw [if_pos hI]]
    clear h hI
    go_enter Tryz.func62, Tryz.ntmps62
    go_wp2_with fail
    refine HI.out.mono ?_
    rintro e w2 ⟨rfl, rfl⟩
    go_wp2_with fail
    go_ret2
    exact ⟨rfl, rfl⟩
  · rw [hI] at HI
    have c0 := (h.ino I i2).c0
    have c8 := (h.ino I i2).c8
    by_cases hk : (S.ino I).kind = 3
    · rw [show S.targetOf (I : Int) = ((S.ino I).target, 0) by unfold BS.targetOf; rw [if_neg (by rw [hI]; decide), at_nat, if_neg (by rw [hk]; decide)]]
      rw [hk] at c0
      generalize (S.ino I).target = tt at *
      clear h hI hn hk
      go_enter Tryz.func62, Tryz.ntmps62
      go_wp2_with fail
      refine HI.out.mono ?_
      rintro e w2 ⟨rfl, rfl⟩
      go_wp2_with fail
      go_ret2
      exact ⟨rfl, rfl⟩
    · rw [show S.targetOf (I : Int) = (⟨#[]⟩, 22) by unfold BS.targetOf; rw [if_neg (by rw [hI]; decide), at_nat, if_pos hk]]
      generalize (S.ino I).kind = kk at *
      have hq : (kk != 3) = true := by simpa using hk
      clear h hI hn hk c8
      go_enter Tryz.func62, Tryz.ntmps62
      go_wp2_with fail
      refine HI.out.mono ?_
      rintro e w2 ⟨rfl, rfl⟩
      go_wp2_with fail
      go_ret2
      exact ⟨rfl, rfl⟩
set_option maxRecDepth 100000 in
set_option maxHeartbeats 1000000 in
theorem q_file (h : DB w D lo RS pl tag S room) (i : Int) : Calls Tryz.prog 102 #[Pq D, .int .i64 i] w (RetQ w (.int .i64 (S.fileE i))) := by
  have HK := Lib.hid (q_kind h i)
  unfold RetQ at HK ⊢
  unfold BS.fileE
  generalize S.kindOf i = kk at *
  clear h
  by_cases h0 : kk = 0
  · subst h0
    rw [if_pos rfl]
    go_enter Tryz.func102, Tryz.ntmps102
    go_wp2_with fail
    refine HK.out.mono ?_
    rintro e w2 ⟨rfl, rfl⟩
    go_wp2_with fail
    go_ret
    exact ⟨rfl, rfl⟩
  rw [if_neg h0]
  by_cases h2 : kk = 2
  · subst h2
    rw [if_pos rfl]
    go_enter Tryz.func102, Tryz.ntmps102
    go_wp2_with fail
    refine HK.out.mono ?_
    rintro e w2 ⟨rfl, rfl⟩
    go_wp2_with fail
    go_ret
    exact ⟨rfl, rfl⟩
  rw [if_neg h2]
  by_cases h1 : kk = 1
  · subst h1
    rw [if_pos rfl]
    go_enter Tryz.func102, Tryz.ntmps102
    go_wp2_with fail
    refine HK.out.mono ?_
    rintro e w2 ⟨rfl, rfl⟩
    go_wp2_with fail
    go_ret
    exact ⟨rfl, rfl⟩
  rw [if_neg h1]
  have q0 : (kk == 0) = false := by simpa using h0
  have q1 : (kk == 1) = false := by simpa using h1
  have q2 : (kk == 2) = false := by simpa using h2
  clear h0 h1 h2
  go_enter Tryz.func102, Tryz.ntmps102
  go_wp2_with fail
  refine HK.out.mono ?_
  rintro e w2 ⟨rfl, rfl⟩
  go_wp2_with fail
  go_ret
  exact ⟨rfl, rfl⟩
set_option maxRecDepth 100000 in
set_option maxHeartbeats 1000000 in
theorem q_inodes (h : DB w D lo RS pl tag S room) : Calls Tryz.prog 21 #[Pq D] w (RetQ w (.int .i64 (S.count 200 : Int))) := by
  have HH := Lib.hid h
  have HC := Lib.hid (count_next S)
  have HCL := Lib.hid (count_le S)
  have h0 : S.count 0 = 0 := rfl
  unfold RetQ
  obtain ⟨cf, hcf⟩ : ∃ cf : Nat → Nat, S.count = cf := ⟨_, rfl⟩
  rw [hcf] at HC HCL h0 ⊢
  clear h hcf
  go_enter Tryz.func21, Tryz.ntmps21
  go_wp2_with fail
  go_loopg [3, 4] 200 (fun g s3 s4 wr => ∃ k : Nat, g + k = 200 ∧ s3 = .int .i64 ((cf k : Nat) : Int) ∧ s4 = .int .i64 ((k : Int) + 1) ∧ wr = w)
  case atStart => exact ⟨0, by omega, by rw [h0]; rfl, rfl, rfl⟩
  case round =>
    obtain ⟨k, hg, rfl, rfl, rfl⟩ := hrel
    by_cases hk : k < 200
    · have c0 := (HH.out.ino (k + 1) (by omega)).c0
      have hc := HC.out k
      have hcl := HCL.out k
      by_cases hz : (S.ino (k + 1)).kind = 0
      · rw [hz] at c0
        rw [if_neg (by rw [hz]; decide)] at hc
        have HC1 := Lib.hid hc
        clear hz hc
        go_wp2_with fail
        go_roundg (gk - 1)
        case measure => omega
        case rel => exact ⟨k + 1, by omega, by rw [HC1.out]; go_num, by go_num, rfl⟩
      · rw [if_pos hz] at hc
        have HC1 := Lib.hid hc
        generalize (S.ino (k + 1)).kind = kk at *
        have hq : (kk != 0) = true := by simpa using hz
        generalize cf k = ck at *
        clear hz hc
        go_wp2_with fail
        go_roundg (gk - 1)
        case measure => omega
        case rel => exact ⟨k + 1, by omega, by rw [HC1.out]; go_num, by go_num, rfl⟩
    · obtain rfl : k = 200 := by omega
      go_wp2_with fail
      go_ret
      exact ⟨rfl, rfl⟩
set_option maxRecDepth 100000 in
set_option maxHeartbeats 1000000 in
theorem q_below (h : DB w D lo RS pl tag S room) (hG : br.Good S room) {I : Nat} (hk : (S.ino I).kind = 2) (hl : (S.ino I).links ≠ 0) (top : Int) : Calls Tryz.prog 101 #[Pq D, .int .i64 (I : Int), .int .i64 top] w (RetQ w (.bool (S.below (I : Int) top 300))) := by
  have HH := Lib.hid h
  have HG := Lib.hid hG
  obtain ⟨bv, hbv⟩ : ∃ bv, S.below (I : Int) top 300 = bv := ⟨_, rfl⟩
  rw [hbv]
  have hi := hG.1.num (k := I) (by rw [hk]; decide)
  have HS := Lib.hid (show ∃ C : Nat, (I : Int) = (C : Int) ∧ C ≤ 200 ∧ (S.ino C).kind = 2 ∧ (S.ino C).links ≠ 0 ∧ S.below (I : Int) top 300 = bv from ⟨I, rfl, hi.2, hk, hl, hbv⟩)
  unfold RetQ
  clear h hG hk hl hi hbv
  go_enter Tryz.func101, Tryz.ntmps101
  go_wp2_with fail
  go_loopg [1, 7] 300 (fun g s1 s7 wr => ∃ (z : Int) (k : Nat), g + k = 300 ∧ s1 = .int .i64 z ∧ s7 = .int .i64 (k : Int) ∧ wr = w ∧ Hid (∃ C : Nat, z = (C : Int) ∧ C ≤ 200 ∧ (S.ino C).kind = 2 ∧ (S.ino C).links ≠ 0 ∧ S.below z top (300 - k) = bv))
  case atStart => exact ⟨_, 0, by omega, rfl, rfl, rfl, HS⟩
  case round =>
    clear HS
    obtain ⟨z, k, hg, rfl, rfl, rfl, HZ⟩ := hrel
    obtain ⟨C, rfl, c1, c2, c3, c4⟩ := HZ.out
    by_cases hk : k < 300
    · rw [show 300 - k = (300 - (k + 1)) + 1 by omega] at c4
      unfold BS.below at c4
      rw [at_nat] at c4
      by_cases he : (C : Int) = top
      · rw [decide_eq_true he, Bool.true_or] at c4
        subst he
        subst c4
        clear c2 c3 HZ
        go_wp2_with fail
        try rw [Exit.noGoto_ret]
        go_ret
        exact ⟨rfl, rfl⟩
      · rw [decide_eq_false he, Bool.false_or] at c4
        have d4 := (HH.out.ino C c1).c4
        obtain ⟨p, hp, hp2, hp3, hp4⟩ : ∃ p : Nat, (S.ino C).parent = (p : Int) ∧ p ≤ 200 ∧ (S.ino p).kind = 2 ∧ (S.ino p).links ≠ 0 := by
          by_cases e1 : C = 1
          · subst e1
            have hr := HG.out.1.root
            exact ⟨1, hr.2.2, by omega, hr.1, by rw [hr.2.1]; decide⟩
          · obtain ⟨deep, hd⟩ := HG.out.2
            obtain ⟨p, q1, q2, q3, _⟩ := hd C c2 c3 e1
            exact ⟨p, q1, (HG.out.1.num (k := p) (by rw [q2]; decide)).2, q2, q3⟩
        rw [hp] at d4 c4
        have HZ2 := Lib.hid (show ∃ C : Nat, (p : Int) = (C : Int) ∧ C ≤ 200 ∧ (S.ino C).kind = 2 ∧ (S.ino C).links ≠ 0 ∧ S.below (p : Int) top (300 - (k + 1)) = bv from ⟨p, rfl, hp2, hp3, hp4, c4⟩)
        have hq : ((C : Int) == top) = false := by simpa using he
        clear c2 c3 c4 hp hp2 hp3 hp4 he HZ
        go_wp2_with fail
        go_roundg (gk - 1)
        case measure => omega
        case rel => exact ⟨_, k + 1, by omega, rfl, by go_num, rfl, HZ2⟩
    · obtain rfl : k = 300 := by omega
      have hb : bv = false := by rw [← c4]; rfl
      subst hb
      clear c2 c3 c4 HZ
      go_wp2_with fail
      go_ret
      exact ⟨rfl, rfl⟩
end
end Go.Proofs.YtlelnpckbcpkkaaGreat.cb
