/- The document's own branch: what is only asked of it. -/
import Derived.Test.YtlelnpckbcpkkaaGreatD1
namespace Go.Proofs.YtlelnpckbcpkkaaGreat.cb
open Go.RowKit
open Go.Proofs.YtlelnpckbcpkkaaGreat.br
open Go.Proofs.YtlelnpckbcpkkaaGreat.dn (En lget lset ldel nerr dotB Sorted getV DuX LaidX)
open Go.Proofs.YtlelnpckbcpkkaaGreat.bl (AB Only StoC Pq cut cutR wr WR U8 RF)
open Go.Proofs.YtlelnpckbcpkkaaGreat.bl.rx (RB RS2 Kp)
set_option linter.unusedVariables false
set_option linter.unusedSimpArgs false

def RetQ (w : World) (v : Value) (e : Ending) (w' : World) : Prop := e = .returned v ∧ w' = w
section
variable {w w' : World} {D lo RS room : Nat} {pl : Nat → Pd} {tag : Nat → Nat} {S : BS}
set_option maxRecDepth 100000 in
set_option maxHeartbeats 1000000 in
theorem q_is (h : DB w D lo RS pl tag S room) (i : Int) : Calls Tryz.prog 64 #[Pq D, .int .i64 i] w (RetQ w (.bool (S.isI i))) := by
  unfold RetQ
  by_cases h1 : 1 ≤ i
  · by_cases h2 : i ≤ 200
    · obtain ⟨I, rfl⟩ : ∃ I : Nat, i = (I : Int) := ⟨i.toNat, by omega⟩
      have c0 := (h.ino I (by omega)).c0
      have hv : S.isI (I : Int) = ((S.ino I).kind != 0) := by
        unfold BS.isI
        rw [at_nat]
        by_cases e : (S.ino I).kind = 0
        · rw [e]; simp
        · simp [h1, h2, e]
      rw [hv]
      generalize (S.ino I).kind = kk at *
      clear h hv
      go_enter Tryz.func64, Tryz.ntmps64
      go_wp2_with fail
      go_ret
      exact ⟨rfl, rfl⟩
    · have hv : S.isI i = false := by unfold BS.isI; simp; omega
      rw [hv]
      clear h hv
      go_enter Tryz.func64, Tryz.ntmps64
      go_wp2_with fail
      go_ret
      exact ⟨rfl, rfl⟩
  · have hv : S.isI i = false := by unfold BS.isI; simp; omega
    rw [hv]
    clear h hv
    go_enter Tryz.func64, Tryz.ntmps64
    go_wp2_with fail
    go_ret
    exact ⟨rfl, rfl⟩
set_option maxRecDepth 100000 in
set_option maxHeartbeats 1000000 in
theorem q_dir (h : DB w D lo RS pl tag S room) (d : Int) (c : Bool) : Calls Tryz.prog 48 #[Pq D, .int .i64 d, .bool c] w (RetQ w (.int .i64 (S.dirE d c))) := by
  have HI := Lib.hid (q_is h d)
  unfold RetQ at HI ⊢
  rcases dirE_cases S d with ⟨h1, h2⟩ | ⟨I, rfl, d1, d2, h1, h3, ⟨h4, h5⟩ | ⟨h4, h5, h6⟩⟩
  · rw [h1] at HI
    rw [h2]
    clear h h1 h2
    go_enter Tryz.func48, Tryz.ntmps48
    go_wp2_with fail
    refine HI.out.mono ?_
    rintro e w2 ⟨rfl, rfl⟩
    go_wp2_with fail
    go_ret
    exact ⟨rfl, rfl⟩
  · rw [h1] at HI
    rw [h5]
    have c0 := (h.ino I d2).c0
    generalize (S.ino I).kind = kk at *
    have hk : (kk != 2) = true := by simpa using h4
    clear h h1 h4 h5
    go_enter Tryz.func48, Tryz.ntmps48
    go_wp2_with fail
    refine HI.out.mono ?_
    rintro e w2 ⟨rfl, rfl⟩
    go_wp2_with fail
    go_ret
    exact ⟨rfl, rfl⟩
  · rw [h1] at HI
    have c0 := (h.ino I d2).c0
    have c1 := (h.ino I d2).c1
    rw [h4] at c0
    cases c
    · rw [h5]
      clear h h1 h4 h5 h6 h3
      go_enter Tryz.func48, Tryz.ntmps48
      go_wp2_with fail
      refine HI.out.mono ?_
      rintro e w2 ⟨rfl, rfl⟩
      go_wp2_with fail
      go_ret
      exact ⟨rfl, rfl⟩
    · generalize (S.ino I).links = ll at *
      rcases h6 with ⟨h6, h7⟩ | ⟨h6, h7⟩
      · rw [h7]
        subst h6
        clear h h1 h4 h5 h7 h3
        go_enter Tryz.func48, Tryz.ntmps48
        go_wp2_with fail
        refine HI.out.mono ?_
        rintro e w2 ⟨rfl, rfl⟩
        go_wp2_with fail
        go_ret
        exact ⟨rfl, rfl⟩
      · rw [h7]
        have hq : (ll == 0) = false := by simpa using h6
        clear h h1 h4 h5 h6 h7 h3
        go_enter Tryz.func48, Tryz.ntmps48
        go_wp2_with fail
        refine HI.out.mono ?_
        rintro e w2 ⟨rfl, rfl⟩
        go_wp2_with fail
        go_ret
        exact ⟨rfl, rfl⟩
set_option maxRecDepth 100000 in
set_option maxHeartbeats 1000000 in
theorem q_set (s : ByteArray) (w : World) (hm : s.size ≤ 9223372036854775807) : Calls Tryz.prog 100 #[.string s] w (RetI w (nameE s)) := by
  have HN := Lib.hid (dn.rname_any s w hm)
  unfold dn.NameE at HN
  unfold RetI
  by_cases he : nerr s.data.toList = 0
  · rw [he] at HN
    obtain ⟨q1, h1⟩ : ∃ a, (s.toList == [46]) = a := ⟨_, rfl⟩
    obtain ⟨q2, h2⟩ : ∃ a, (s.toList == [46, 46]) = a := ⟨_, rfl⟩
    have hV := Lib.hid (show nameE s = if (q1 || q2) = true then 22 else 0 by unfold nameE dotB; rw [h1, h2, he]; simp)
    generalize nameE s = r at *
    clear he
    rcases (show q1 = true ∨ (q1 = false ∧ q2 = true) ∨ (q1 = false ∧ q2 = false) by cases q1 <;> cases q2 <;> simp) with rfl | ⟨rfl, rfl⟩ | ⟨rfl, rfl⟩
    all_goals
      go_enter Tryz.func100, Tryz.ntmps100
      go_wp2_with fail
      refine HN.out.mono ?_
      rintro e w2 ⟨rfl, hb2⟩
      go_wp2_with fail
      go_ret
      exact ⟨by rw [hV.out]; rfl, hb2⟩
  · have hV := Lib.hid (show nameE s = nerr s.data.toList by unfold nameE; rw [if_neg (fun h => he h.1)])
    generalize nameE s = r at *
    generalize nerr s.data.toList = x at *
    have hr : (x == 0) = false := by simpa using he
    clear he
    go_enter Tryz.func100, Tryz.ntmps100
    go_wp2_with fail
    refine HN.out.mono ?_
    rintro e w2 ⟨rfl, hb2⟩
    go_wp2_with fail
    go_ret
    exact ⟨by rw [hV.out]; rfl, hb2⟩
theorem q_dget (h : DB w D lo RS pl tag S room) (hG : br.Good S room) {I : Nat} (hI : I ≤ 200) (s : ByteArray) : Calls Tryz.prog 49 #[dn.Px D (1 + I * 9 + 7), .string s] w (RetQ w (getV s (S.ino I).dir)) :=
  dn.rgetx_any D (1 + I * 9 + 7) lo _ _ _ s w (by have := hG.1.dirLen I; omega) (h.ino I hI).d
set_option maxRecDepth 100000 in
set_option maxHeartbeats 1000000 in
theorem q_get (h : DB w D lo RS pl tag S room) (hG : br.Good S room) (d : Int) (s : ByteArray) : Calls Tryz.prog 16 #[Pq D, .int .i64 d, .string s] w (RetQ w (.tuple #[.int .i64 (S.get d s).1, .int .i64 (S.get d s).2])) := by
  have HI := Lib.hid (q_dir h d false)
  unfold RetQ at HI ⊢
  by_cases h1 : S.dirE d false = 0
  · obtain ⟨I, rfl, d1, d2, hD, _⟩ := dirE_ok h1
    have HG := Lib.hid (q_dget h hG d2 s)
    unfold RetQ at HG
    rw [getV_eq h1] at HG
    rw [h1] at HI
    generalize (S.get (I : Int) s).1 = a at *
    generalize (S.get (I : Int) s).2 = b at *
    clear h h1 hG
    go_enter Tryz.func16, Tryz.ntmps16
    go_wp2_with fail
    refine HI.out.mono ?_
    rintro e w2 ⟨rfl, rfl⟩
    go_wp2_with fail
    refine HG.out.mono ?_
    rintro e w2 ⟨rfl, rfl⟩
    go_wp2_with fail
    go_ret2
    exact ⟨rfl, rfl⟩
  · have hv : S.get d s = (0, S.dirE d false) := by unfold BS.get; rw [if_pos h1]
    rw [hv]
    generalize S.dirE d false = x at *
    have hr : (x != 0) = true := by simpa using h1
    clear h h1 hG hv
    go_enter Tryz.func16, Tryz.ntmps16
    go_wp2_with fail
    refine HI.out.mono ?_
    rintro e w2 ⟨rfl, rfl⟩
    go_wp2_with fail
    go_ret2
    exact ⟨rfl, rfl⟩
set_option maxRecDepth 100000 in
set_option maxHeartbeats 1000000 in
theorem q_vacant (h : DB w D lo RS pl tag S room) (hG : br.Good S room) (d : Int) (s : ByteArray) (hm : s.size ≤ 9223372036854775807) : Calls Tryz.prog 96 #[Pq D, .int .i64 d, .string s] w (RetI w (S.vacant d s)) := by
  have HI := Lib.hid (q_dir h d true)
  unfold RetQ at HI
  unfold RetI
  by_cases h1 : S.dirE d true = 0
  · rw [h1] at HI
    have HN := Lib.hid (q_set s w hm)
    unfold RetI at HN
    by_cases h2 : nameE s = 0
    · rw [h2] at HN
      obtain ⟨I, rfl, d1, d2, hD, _⟩ := dirE_ok h1
      have HG := Lib.hid (fun w2 (hb : Below w.heap.size w w2) => q_dget (h.below hb) hG d2 s)
      unfold RetQ at HG
      cases hg : lget s (S.ino I).dir with
      | none =>
        have hv : S.vacant (I : Int) s = 0 := by unfold BS.vacant; rw [if_neg (by omega), if_neg (by omega), at_nat, hg]; rfl
        rw [hv]
        rw [show getV s (S.ino I).dir = .tuple #[.int .i64 0, .int .i64 2] from by unfold getV; rw [hg]] at HG
        clear h h1 hG hv h2 hg
        go_enter Tryz.func96, Tryz.ntmps96
        go_wp2_with fail
        refine HI.out.mono ?_
        rintro e w2 ⟨rfl, rfl⟩
        go_wp2_with fail
        refine HN.out.mono ?_
        rintro e w3 ⟨rfl, hb3⟩
        have HG3 := Lib.hid (HG.out w3 hb3)
        go_wp2_with fail
        refine HG3.out.mono ?_
        rintro e w4 ⟨rfl, rfl⟩
        go_wp2_with fail
        go_ret
        exact ⟨rfl, hb3⟩
      | some v =>
        have hv : S.vacant (I : Int) s = 17 := by unfold BS.vacant; rw [if_neg (by omega), if_neg (by omega), at_nat, hg]; rfl
        rw [hv]
        rw [show getV s (S.ino I).dir = .tuple #[.int .i64 v, .int .i64 0] from by unfold getV; rw [hg]] at HG
        clear h h1 hG hv h2 hg
        go_enter Tryz.func96, Tryz.ntmps96
        go_wp2_with fail
        refine HI.out.mono ?_
        rintro e w2 ⟨rfl, rfl⟩
        go_wp2_with fail
        refine HN.out.mono ?_
        rintro e w3 ⟨rfl, hb3⟩
        have HG3 := Lib.hid (HG.out w3 hb3)
        go_wp2_with fail
        refine HG3.out.mono ?_
        rintro e w4 ⟨rfl, rfl⟩
        go_wp2_with fail
        go_ret
        exact ⟨rfl, hb3⟩
    · have hv : S.vacant d s = nameE s := by unfold BS.vacant; rw [if_neg (by omega), if_pos h2]
      rw [hv]
      generalize nameE s = x at *
      have hr : (x != 0) = true := by simpa using h2
      clear h h1 hG hv h2
      go_enter Tryz.func96, Tryz.ntmps96
      go_wp2_with fail
      refine HI.out.mono ?_
      rintro e w2 ⟨rfl, rfl⟩
      go_wp2_with fail
      refine HN.out.mono ?_
      rintro e w3 ⟨rfl, hb3⟩
      go_wp2_with fail
      go_ret
      exact ⟨rfl, hb3⟩
  · have hv : S.vacant d s = S.dirE d true := by unfold BS.vacant; rw [if_pos h1]
    rw [hv]
    generalize S.dirE d true = x at *
    have hr : (x != 0) = true := by simpa using h1
    clear h h1 hG hv
    go_enter Tryz.func96, Tryz.ntmps96
    go_wp2_with fail
    refine HI.out.mono ?_
    rintro e w2 ⟨rfl, rfl⟩
    go_wp2_with fail
    go_ret
    exact ⟨rfl, Below.refl _ _⟩
end
end Go.Proofs.YtlelnpckbcpkkaaGreat.cb
