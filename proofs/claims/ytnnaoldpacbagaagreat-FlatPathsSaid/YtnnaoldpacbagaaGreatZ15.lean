/- The branch's functions that look: what has a name, what an inode is. The branch's functions that look: what is told of an inode. The branch's functions that look: an inode told whole, and what is asked of it. The branch's functions that turn it: an inode that is settled, a name that goes. -/
import Derived.Test.YtnnaoldpacbagaaGreatZ14
import Derived.Deep.RegionHeld3
import Derived.Deep.QuietTactic
section
namespace Go.Proofs.YtnnaoldpacbagaaGreat.cb
open Go.RowKit
open Go.Proofs.YtnnaoldpacbagaaGreat.qu (KN ins QL)
open Go.Proofs.YtnnaoldpacbagaaGreat.dn (Du En lget lset ldel getV nerr dotB Sorted RetV)
open Go.Proofs.YtnnaoldpacbagaaGreat.bl (AB Bod BodC StoC Only Pq)
open Go.Proofs.YtnnaoldpacbagaaGreat.br
set_option linter.unusedVariables false
set_option linter.unusedSimpArgs false

theorem emp_eq (t : ByteArray) : t.toList.isEmpty = decide (t = ⟨#[]⟩) := by
  rw [Lib.toList_data]
  obtain ⟨⟨l⟩⟩ := t
  cases l <;> simp
section
variable {w w' : World} {P lo st qb room T : Nat} {qo : Option Nat} {pl : Nat → Pl} {tag : Nat → Nat} {S : BS} {L : List KN}
def namV (S : BS) (pl : Nat → Pl) (d : Int) (s : ByteArray) : Value :=
  if S.dirE d true ≠ 0 then .tuple #[.pointer none, .int .i64 0, .int .i64 (S.dirE d true)]
  else .tuple #[Pq (pl d.toNat).nd, .int .i64 (S.get d s).1, .int .i64 (S.get d s).2]
theorem get_eq {S : BS} {D : Nat} (h : S.dirE (D : Int) false = 0) (s : ByteArray) : S.get (D : Int) s = match lget s (S.ino D).dir with | some v => (v, 0) | none => (0, 2) := by
  unfold BS.get; rw [if_neg (by omega), at_nat]; rfl
theorem getV_eq {S : BS} {D : Nat} (h : S.dirE (D : Int) false = 0) (s : ByteArray) : getV s (S.ino D).dir = .tuple #[.int .i64 (S.get (D : Int) s).1, .int .i64 (S.get (D : Int) s).2] := by
  rw [get_eq h]; unfold getV; cases lget s (S.ino D).dir <;> rfl
theorem dirE_less {S : BS} {d : Int} (h : S.dirE d true = 0) : S.dirE d false = 0 := by
  rcases dirE_cases S d with ⟨_, h2⟩ | ⟨D, rfl, d1, d2, h1, h3, ⟨h4, h5⟩ | ⟨h4, h5, _⟩⟩
  · rw [h2] at h; cases h
  · rw [h5] at h; cases h
  · exact h5
set_option maxRecDepth 100000 in
theorem named_any (h : CB w P lo st qb qo pl tag S room L T) (hG : br.Good S room) (d : Int) (s : ByteArray) : Calls Tryz.prog 84 #[Pq P, .int .i64 d, .string s] w (RetW w (namV S pl d s)) := by
  have HC := Lib.hid (changed_any h hG.z0 d)
  unfold RetW
  by_cases h1 : S.dirE d true = 0
  · obtain ⟨D, rfl, d1, d2, hD, hl⟩ := dirE_ok h1
    rw [listV_ok h1] at HC
    have c5 := (h.ino D d2 (by rw [hD]; decide)).c5d hD
    have HG := Lib.hid (h.get hG hD s)
    rw [getV_eq (dirE_less h1)] at HG
    have hv := Lib.hid (show namV S pl (D : Int) s = .tuple #[Pq (pl D).nd, .int .i64 (S.get (D : Int) s).1, .int .i64 (S.get (D : Int) s).2] by unfold namV; rw [if_neg (by omega)]; rfl)
    generalize (S.get (D : Int) s).1 = a at *
    generalize (S.get (D : Int) s).2 = b at *
    generalize (pl D).nd = N at *
    generalize (pl D).di = M at *
    clear h h1 hl hG
    go_enter Tryz.func84, Tryz.ntmps84
    go_wp2_with fail
    refine HC.out.mono ?_
    rintro e w2 ⟨rfl, rfl⟩
    go_wp2_with fail
    refine HG.out.mono ?_
    rintro e w4 ⟨rfl, hb4⟩
    clear c5
    go_wp2_with fail
    go_ret3
    exact ⟨by rw [hv.out]; rfl, hb4⟩
  · have hv := Lib.hid (show namV S pl d s = .tuple #[.pointer none, .int .i64 0, .int .i64 (S.dirE d true)] by unfold namV; rw [if_pos h1])
    rw [listV_bad h1] at HC
    generalize S.dirE d true = x at *
    have hr : (x != 0) = true := by simpa using h1
    clear h h1 hG
    go_enter Tryz.func84, Tryz.ntmps84
    go_wp2_with fail
    refine HC.out.mono ?_
    rintro e w2 ⟨rfl, rfl⟩
    go_wp2_with fail
    go_ret3
    exact ⟨by rw [hv.out]; rfl, Below.refl _ _⟩
set_option maxRecDepth 100000 in
theorem get_any (h : CB w P lo st qb qo pl tag S room L T) (hG : br.Good S room) (d : Int) (s : ByteArray) : Calls Tryz.prog 55 #[Pq P, .int .i64 d, .string s] w (RetW w (.tuple #[.int .i64 (S.get d s).1, .int .i64 (S.get d s).2])) := by
  have HC := Lib.hid (listed_any h hG.z0 d)
  unfold RetW
  by_cases h1 : S.dirE d false = 0
  · obtain ⟨D, rfl, d1, d2, hD, hl⟩ := dirE_ok h1
    rw [listV_ok h1] at HC
    have c5 := (h.ino D d2 (by rw [hD]; decide)).c5d hD
    have HG := Lib.hid (h.get hG hD s)
    rw [getV_eq h1] at HG
    generalize (S.get (D : Int) s).1 = a at *
    generalize (S.get (D : Int) s).2 = b at *
    generalize (pl D).nd = N at *
    generalize (pl D).di = M at *
    clear h h1 hl hG
    go_enter Tryz.func55, Tryz.ntmps55
    go_wp2_with fail
    refine HC.out.mono ?_
    rintro e w2 ⟨rfl, rfl⟩
    go_wp2_with fail
    refine HG.out.mono ?_
    rintro e w4 ⟨rfl, hb4⟩
    clear c5
    go_wp2_with fail
    go_ret2
    exact ⟨rfl, hb4⟩
  · have hv := Lib.hid (show S.get d s = (0, S.dirE d false) by unfold BS.get; rw [if_pos h1])
    rw [hv.out]
    rw [listV_bad h1] at HC
    generalize S.dirE d false = x at *
    have hr : (x != 0) = true := by simpa using h1
    clear h h1 hG hv
    go_enter Tryz.func55, Tryz.ntmps55
    go_wp2_with fail
    refine HC.out.mono ?_
    rintro e w2 ⟨rfl, rfl⟩
    go_wp2_with fail
    go_ret2
    exact ⟨rfl, Below.refl _ _⟩
set_option maxRecDepth 100000 in
theorem fits_any (k : Int) (t : ByteArray) (w : World) (hm : t.size ≤ 9223372036854775807) : Calls Tryz.prog 79 #[.int .i64 k, .string t] w (fun e w' => e = .returned (.bool (!badKind k t)) ∧ w' = w) := by
  have hs : (t.size : Int) ≤ 9223372036854775807 := by omega
  have hE := emp_eq t
  by_cases h3 : k = 3
  · subst h3
    by_cases ht : t = ⟨#[]⟩
    · have hV := Lib.hid (show badKind 3 t = true by unfold badKind; simp [ht])
      rw [decide_eq_true ht] at hE
      generalize badKind 3 t = r at *
      clear ht
      go_enter Tryz.func79, Tryz.ntmps79
      go_wp2_with fail
      go_ret
      exact ⟨by rw [hV.out]; rfl, rfl⟩
    · have hV := Lib.hid (show badKind 3 t = decide (400 < t.size) by unfold badKind; simp [ht])
      rw [decide_eq_false ht] at hE
      by_cases hl : 400 < t.size
      · have hg : decide ((t.size : Int) ≤ 400) = false := by simp; omega
        have hV2 := Lib.hid (hV.out.trans (decide_eq_true hl))
        generalize badKind 3 t = r at *
        clear ht hV
        go_enter Tryz.func79, Tryz.ntmps79
        go_wp2_with fail
        go_ret
        exact ⟨by rw [hV2.out]; simp [hg], rfl⟩
      · have hg : decide ((t.size : Int) ≤ 400) = true := by simp; omega
        have hV2 := Lib.hid (hV.out.trans (decide_eq_false hl))
        generalize badKind 3 t = r at *
        clear ht hV
        go_enter Tryz.func79, Tryz.ntmps79
        go_wp2_with fail
        go_ret
        exact ⟨by rw [hV2.out]; simp [hg], rfl⟩
  · by_cases hk : k = 1 ∨ k = 2 ∨ k = 4
    · have hV := Lib.hid (show badKind k t = !(decide (t = ⟨#[]⟩)) by unfold badKind; rcases hk with rfl | rfl | rfl <;> simp)
      rw [← hE] at hV
      generalize badKind k t = r at *
      obtain ⟨q, hq⟩ : ∃ q, t.toList.isEmpty = q := ⟨_, rfl⟩
      rw [hq] at hV
      clear hE
      rcases hk with rfl | rfl | rfl
      all_goals
        go_enter Tryz.func79, Tryz.ntmps79
        go_wp2_with fail
        go_ret
        exact ⟨by rw [hV.out, Bool.not_not]; simp [hq], rfl⟩
    · have hV := Lib.hid (show badKind k t = true by unfold badKind; simp; omega)
      generalize badKind k t = r at *
      have h1 : (k == 1) = false := by simp; omega
      have h2 : (k == 2) = false := by simp; omega
      have h4 : (k == 4) = false := by simp; omega
      have h5 : (k == 3) = false := by simp; omega
      clear hk h3 hE
      go_enter Tryz.func79, Tryz.ntmps79
      go_wp2_with fail
      go_ret
      exact ⟨by rw [hV.out]; rfl, rfl⟩
end
end Go.Proofs.YtnnaoldpacbagaaGreat.cb
end
section
namespace Go.Proofs.YtnnaoldpacbagaaGreat.cb
open Go.RowKit
open Go.Proofs.YtnnaoldpacbagaaGreat.qu (KN ins QL)
open Go.Proofs.YtnnaoldpacbagaaGreat.dn (Du En lget lset ldel getV nerr dotB Sorted RetV)
open Go.Proofs.YtnnaoldpacbagaaGreat.bl (AB Bod BodC StoC Only Pq)
open Go.Proofs.YtnnaoldpacbagaaGreat.br
set_option linter.unusedVariables false
set_option linter.unusedSimpArgs false

section
variable {w w' : World} {P lo st qb room T : Nat} {qo : Option Nat} {pl : Nat → Pl} {tag : Nat → Nat} {S : BS} {L : List KN}
theorem isI_cases (S : BS) (i : Int) : S.isI i = false ∨ ∃ I : Nat, i = (I : Int) ∧ 1 ≤ I ∧ I ≤ 200 ∧ (S.ino I).kind ≠ 0 ∧ S.isI (I : Int) = true := by
  cases h : S.isI i
  · exact .inl rfl
  · obtain ⟨I, rfl, h1, h2, h3⟩ := isI_yes h
    exact .inr ⟨I, rfl, h1, h2, h3, h⟩
set_option maxRecDepth 100000 in
theorem used_any (h : CB w P lo st qb qo pl tag S room L T) : Calls Tryz.prog 45 #[Pq P] w (fun e w' => e = .returned (.int .i64 (S.used : Int)) ∧ w' = w) := by
  have HU := Lib.hid (bl.used_any st room _ w h.sto)
  have c0 := h.c0
  generalize S.used = u at *
  clear h
  go_enter Tryz.func45, Tryz.ntmps45
  go_wp2_with fail
  refine HU.out.mono ?_
  rintro e w2 ⟨rfl, rfl⟩
  go_wp2_with fail
  go_ret
  exact ⟨rfl, rfl⟩
set_option maxRecDepth 100000 in
theorem inodes_any (h : CB w P lo st qb qo pl tag S room L T) (hL : L.length ≤ 200) : Calls Tryz.prog 44 #[Pq P] w (fun e w' => e = .returned (.int .i64 (200 - (L.length : Int))) ∧ w' = w) := by
  have HU := Lib.hid (qu.llen qb lo T qo L w h.q)
  have cq := h.cq
  generalize L.length = u at *
  clear h
  go_enter Tryz.func44, Tryz.ntmps44
  go_wp2_with fail
  refine HU.out.mono ?_
  rintro e w2 ⟨rfl, rfl⟩
  go_wp2_with fail
  go_ret
  exact ⟨rfl, rfl⟩
theorem CB.bsize (h : CB w P lo st qb qo pl tag S room L T) {k : Nat} (hk : k ≤ 200) (hf : (S.ino k).kind = 1) : Calls Tryz.prog 166 #[Pq (pl k).bo] w (fun e w' => e = .returned (.int .i64 ((S.ino k).body.size : Int)) ∧ w = w') :=
  bl.size_any st (pl k).bo (pl k).bm _ w ((h.ino k hk (by rw [hf]; decide)).bod hf).c
set_option maxRecDepth 100000 in
theorem size_any (h : CB w P lo st qb qo pl tag S room L T) (hG : br.Good S room) {k : Nat} (hk : k ≤ 200) (hn : (S.ino k).kind ≠ 0) : Calls Tryz.prog 123 #[Pq (pl k).nd] w (fun e w' => e = .returned (.int .i64 ((S.ino k).sizeOf : Int)) ∧ w' = w) := by
  have hi := h.ino k hk hn
  have c0 := hi.c0
  by_cases h1 : (S.ino k).kind = 1
  · have HS := Lib.hid (h.bsize hk h1)
    have hv := Lib.hid (show (S.ino k).sizeOf = (S.ino k).body.size by unfold Ino.sizeOf; rw [if_pos h1])
    have c4 := hi.c4f h1
    rw [h1] at c0
    generalize (S.ino k).sizeOf = r at *
    generalize (S.ino k).body.size = u at *
    generalize (pl k).nd = N at *
    generalize (pl k).bo = M at *
    clear h hi hn h1 hG
    go_enter Tryz.func123, Tryz.ntmps123
    go_wp2_with fail
    refine HS.out.mono ?_
    rintro e w2 ⟨rfl, rfl⟩
    go_wp2_with fail
    go_ret
    exact ⟨by rw [hv.out]; rfl, rfl⟩
  · by_cases h2 : (S.ino k).kind = 2
    · have HS := Lib.hid (h.len hG h2)
      have hv := Lib.hid (show (S.ino k).sizeOf = (S.ino k).dir.length by unfold Ino.sizeOf; rw [if_neg h1, if_pos h2])
      have c5 := hi.c5d h2
      rw [h2] at c0
      generalize (S.ino k).sizeOf = r at *
      generalize (S.ino k).dir.length = u at *
      generalize (pl k).nd = N at *
      generalize (pl k).di = M at *
      clear h hi hn h1 h2 hG
      go_enter Tryz.func123, Tryz.ntmps123
      go_wp2_with fail
      refine HS.out.mono ?_
      rintro e w2 ⟨rfl, rfl⟩
      go_wp2_with fail
      go_ret
      exact ⟨by rw [hv.out]; rfl, rfl⟩
    · have hv := Lib.hid (show (S.ino k).sizeOf = (S.ino k).target.size by
        unfold Ino.sizeOf; rw [if_neg h1, if_neg h2]
        by_cases h3 : (S.ino k).kind = 3
        · rw [if_pos h3]
        · rw [if_neg h3, hG.1.noTarget k h3]; rfl)
      have c7 := hi.c7
      have ht := hG.1.target k
      generalize (S.ino k).sizeOf = r at *
      generalize (S.ino k).target = u at *
      generalize (pl k).nd = N at *
      generalize (S.ino k).kind = K at *
      have hs : (u.size : Int) ≤ 9223372036854775807 := by omega
      have e1 : (K == 1) = false := by simpa using h1
      have e2 : (K == 2) = false := by simpa using h2
      clear h hi hn h1 h2 hG
      go_enter Tryz.func123, Tryz.ntmps123
      go_wp2_with fail
      go_ret
      exact ⟨by rw [hv.out]; rfl, rfl⟩
set_option maxRecDepth 100000 in
theorem target_any (h : CB w P lo st qb qo pl tag S room L T) (hG : br.Good S room) (i : Int) : Calls Tryz.prog 69 #[Pq P, .int .i64 i] w (fun e w' => e = .returned (.tuple #[.string (S.targetOf i).1, .int .i64 (S.targetOf i).2]) ∧ w' = w) := by
  have HA := Lib.hid (at_any h hG.z0 i)
  rcases isI_cases S i with h1 | ⟨I, rfl, i1, i2, hn, h1⟩
  · have hv := Lib.hid (show S.targetOf i = (⟨#[]⟩, 2) by unfold BS.targetOf; rw [if_pos h1])
    rw [atV_no h1] at HA
    rw [hv.out]
    clear h hG hv h1
    go_enter Tryz.func69, Tryz.ntmps69
    go_wp2_with fail
    refine HA.out.mono ?_
    rintro e w2 ⟨rfl, rfl⟩
    go_wp2_with fail
    go_ret2
    exact ⟨rfl, rfl⟩
  · have hi := h.ino I i2 hn
    have c0 := hi.c0
    have c7 := hi.c7
    rw [atV_yes i1 i2 hn] at HA
    by_cases h3 : (S.ino I).kind = 3
    · have hv := Lib.hid (show S.targetOf (I : Int) = ((S.ino I).target, 0) by unfold BS.targetOf; rw [if_neg (by rw [h1]; decide), at_nat, if_neg (by omega)])
      rw [hv.out]
      rw [h3] at c0
      generalize (S.ino I).target = u at *
      generalize (pl I).nd = N at *
      clear h hi hn h1 hG hv h3
      go_enter Tryz.func69, Tryz.ntmps69
      go_wp2_with fail
      refine HA.out.mono ?_
      rintro e w2 ⟨rfl, rfl⟩
      go_wp2_with fail
      go_ret2
      exact ⟨rfl, rfl⟩
    · have hv := Lib.hid (show S.targetOf (I : Int) = (⟨#[]⟩, 22) by unfold BS.targetOf; rw [if_neg (by rw [h1]; decide), at_nat, if_pos h3])
      rw [hv.out]
      generalize (S.ino I).kind = K at *
      generalize (pl I).nd = N at *
      clear h hi hn h1 hG hv c7
      go_enter Tryz.func69, Tryz.ntmps69
      go_wp2_with fail
      refine HA.out.mono ?_
      rintro e w2 ⟨rfl, rfl⟩
      go_wp2_with fail
      go_ret2
      exact ⟨rfl, rfl⟩
def bodV (S : BS) (pl : Nat → Pl) (i : Int) : Value := .tuple #[if S.fileE i = 0 then Pq (pl i.toNat).bo else .pointer none, .int .i64 (S.fileE i)]
set_option maxRecDepth 100000 in
theorem body_any (h : CB w P lo st qb qo pl tag S room L T) (hG : br.Good S room) (i : Int) : Calls Tryz.prog 91 #[Pq P, .int .i64 i] w (fun e w' => e = .returned (bodV S pl i) ∧ w' = w) := by
  have HA := Lib.hid (at_any h hG.z0 i)
  rcases isI_cases S i with h1 | ⟨I, rfl, i1, i2, hn, h1⟩
  · have hv := Lib.hid (show bodV S pl i = .tuple #[.pointer none, .int .i64 2] by
      have : S.fileE i = 2 := by
        have hk : S.kindOf i = 0 := by unfold BS.kindOf; rw [h1]; rfl
        unfold BS.fileE; rw [if_pos hk]
      unfold bodV; rw [this]; rfl)
    rw [atV_no h1] at HA
    rw [hv.out]
    clear h hG hv h1
    go_enter Tryz.func91, Tryz.ntmps91
    go_wp2_with fail
    refine HA.out.mono ?_
    rintro e w2 ⟨rfl, rfl⟩
    go_wp2_with fail
    go_ret2
    exact ⟨rfl, rfl⟩
  · have hi := h.ino I i2 hn
    have c0 := hi.c0
    have hk : S.kindOf (I : Int) = (S.ino I).kind := by unfold BS.kindOf; rw [if_pos h1, at_nat]
    rw [atV_yes i1 i2 hn] at HA
    by_cases e1 : (S.ino I).kind = 1
    · have hv := Lib.hid (show bodV S pl (I : Int) = .tuple #[Pq (pl I).bo, .int .i64 0] by
        have : S.fileE (I : Int) = 0 := by unfold BS.fileE; rw [hk, e1]; rfl
        unfold bodV; rw [this]; rfl)
      rw [hv.out]
      rw [e1] at c0
      have c4 := hi.c4f e1
      generalize (pl I).nd = N at *
      generalize (pl I).bo = M at *
      clear h hi hn h1 hG hv e1 hk
      go_enter Tryz.func91, Tryz.ntmps91
      go_wp2_with fail
      refine HA.out.mono ?_
      rintro e w2 ⟨rfl, rfl⟩
      go_wp2_with fail
      go_ret2
      exact ⟨rfl, rfl⟩
    · by_cases e2 : (S.ino I).kind = 2
      · have hv := Lib.hid (show bodV S pl (I : Int) = .tuple #[.pointer none, .int .i64 21] by
          have : S.fileE (I : Int) = 21 := by unfold BS.fileE; rw [hk, e2]; rfl
          unfold bodV; rw [this]; rfl)
        rw [hv.out]
        rw [e2] at c0
        generalize (pl I).nd = N at *
        clear h hi hn h1 hG hv e1 hk e2
        go_enter Tryz.func91, Tryz.ntmps91
        go_wp2_with fail
        refine HA.out.mono ?_
        rintro e w2 ⟨rfl, rfl⟩
        go_wp2_with fail
        go_ret2
        exact ⟨rfl, rfl⟩
      · have hv := Lib.hid (show bodV S pl (I : Int) = .tuple #[.pointer none, .int .i64 22] by
          have : S.fileE (I : Int) = 22 := by unfold BS.fileE; rw [hk, if_neg hn, if_neg e2, if_neg e1]
          unfold bodV; rw [this]; rfl)
        rw [hv.out]
        generalize (pl I).nd = N at *
        generalize (S.ino I).kind = K at *
        have q2 : (K == 2) = false := by simpa using e2
        clear h hi hn h1 hG hv hk
        go_enter Tryz.func91, Tryz.ntmps91
        go_wp2_with fail
        refine HA.out.mono ?_
        rintro e w2 ⟨rfl, rfl⟩
        go_wp2_with fail
        go_ret2
        exact ⟨rfl, rfl⟩
set_option maxRecDepth 100000 in
theorem all_any (h : CB w P lo st qb qo pl tag S room L T) (hG : br.Good S room) (i : Int) : Calls Tryz.prog 117 #[Pq P, .int .i64 i] w (fun e w' => ∃ o c, e = .returned (.tuple #[.slice (dn.Ao o) (S.all i).1.length c, .int .i64 (S.all i).2]) ∧ (S.all i).1.length ≤ c ∧ c ≤ maxLen ∧ dn.Sl w' w.heap.size o c (S.all i).1 ∧ Below w.heap.size w w') := by
  have HC := Lib.hid (listed_any h hG.z0 i)
  by_cases h1 : S.dirE i false = 0
  · obtain ⟨D, rfl, d1, d2, hD, hl⟩ := dirE_ok h1
    have hv := Lib.hid (show S.all (D : Int) = ((S.ino D).dir, 0) by unfold BS.all; rw [if_neg (by omega), at_nat])
    rw [listV_ok h1] at HC
    have hi := h.ino D d2 (by rw [hD]; decide)
    have c5 := hi.c5d hD
    have hlen := hG.1.dirLen D
    have HG := Lib.hid (dn.all_any _ _ _ _ _ w (by omega) (hi.dir hD))
    rw [hv.out]
    unfold dn.AllE at HG
    dsimp only
    generalize (S.ino D).dir = K at *
    generalize (pl D).nd = N at *
    generalize (pl D).di = M at *
    clear h h1 hl hG hi hv hD
    go_enter Tryz.func117, Tryz.ntmps117
    go_wp2_with fail
    refine HC.out.mono ?_
    rintro e w2 ⟨rfl, rfl⟩
    go_wp2_with fail
    refine HG.out.mono ?_
    rintro e w4 ⟨o, c, rfl, k1, k2, k3, hb4⟩
    clear c5
    go_wp2_with fail
    go_ret2
    exact ⟨o, c, rfl, k1, k2, k3, hb4⟩
  · have hv := Lib.hid (show S.all i = ([], S.dirE i false) by unfold BS.all; rw [if_pos h1])
    rw [hv.out]
    rw [listV_bad h1] at HC
    generalize S.dirE i false = x at *
    have hr : (x != 0) = true := by simpa using h1
    clear h h1 hG hv
    go_enter Tryz.func117, Tryz.ntmps117
    go_wp2_with fail
    refine HC.out.mono ?_
    rintro e w2 ⟨rfl, rfl⟩
    go_wp2_with fail
    go_ret2
    exact ⟨none, 0, rfl, Nat.le_refl _, by decide, ⟨rfl, rfl⟩, Below.refl _ _⟩
end
end Go.Proofs.YtnnaoldpacbagaaGreat.cb
end
section
namespace Go.Proofs.YtnnaoldpacbagaaGreat.cb
open Go.RowKit
open Go.Proofs.YtnnaoldpacbagaaGreat.qu (KN ins QL)
open Go.Proofs.YtnnaoldpacbagaaGreat.dn (Du En lget lset ldel getV nerr dotB Sorted RetV)
open Go.Proofs.YtnnaoldpacbagaaGreat.bl (AB Bod BodC StoC Only Pq)
open Go.Proofs.YtnnaoldpacbagaaGreat.br
set_option linter.unusedVariables false
set_option linter.unusedSimpArgs false

section
variable {w w' : World} {P lo st qb room T : Nat} {qo : Option Nat} {pl : Nat → Pl} {tag : Nat → Nat} {S : BS} {L : List KN}
theorem bpV_ptr (p : Pl) (x : Ino) : ∃ a, bpV p x = .pointer a := by unfold bpV; split <;> exact ⟨_, rfl⟩
theorem dpV_ptr (p : Pl) (x : Ino) : ∃ a, dpV p x = .pointer a := by unfold dpV; split <;> exact ⟨_, rfl⟩
def toldV (S : BS) (pl : Nat → Pl) (i : Int) : Value :=
  if S.isI i = true then .agg #[.int .i64 (S.at i).kind, .int .i64 (S.at i).links, .int .i64 (S.at i).holds, .int .i64 (S.at i).marks, bpV (pl i.toNat) (S.at i), dpV (pl i.toNat) (S.at i), .int .i64 (S.at i).parent, .string (S.at i).target]
  else .agg #[.int .i64 0, .int .i64 0, .int .i64 0, .int .i64 0, .pointer none, .pointer none, .int .i64 0, .string ⟨#[]⟩]
set_option maxRecDepth 100000 in
set_option maxHeartbeats 1000000 in
theorem told_any (h : CB w P lo st qb qo pl tag S room L T) (hG : br.Good S room) (i : Int) : Calls Tryz.prog 113 #[Pq P, .int .i64 i] w (RetW w (toldV S pl i)) := by
  have HA := Lib.hid (fun ob => at_any (h.below (dn.below_alloc w ob)) hG.z0 i)
  have HB := Lib.hid (fun ob => dn.below_alloc w ob)
  unfold RetW
  rcases isI_cases S i with h1 | ⟨I, rfl, i1, i2, hn, h1⟩
  · have hv := Lib.hid (show toldV S pl i = .agg #[.int .i64 0, .int .i64 0, .int .i64 0, .int .i64 0, .pointer none, .pointer none, .int .i64 0, .string ⟨#[]⟩] by unfold toldV; rw [h1]; rfl)
    rw [atV_no h1] at HA
    rw [hv.out]
    clear h hG hv h1
    go_enter Tryz.func113, Tryz.ntmps113
    go_wp2_with fail
    refine (HA.out _).mono ?_
    rintro e w2 ⟨rfl, rfl⟩
    go_wp2_with fail
    exact bodyPost_ret (v := .agg #[.int .i64 0, .int .i64 0, .int .i64 0, .int .i64 0, .pointer none, .pointer none, .int .i64 0, .string ⟨#[]⟩]) (by simp [results, Tryz.results113, go_sem]) rfl ⟨rfl, HB.out _⟩
  · have hv := Lib.hid (show toldV S pl (I : Int) = .agg #[.int .i64 (S.ino I).kind, .int .i64 (S.ino I).links, .int .i64 (S.ino I).holds, .int .i64 (S.ino I).marks, bpV (pl I) (S.ino I), dpV (pl I) (S.ino I), .int .i64 (S.ino I).parent, .string (S.ino I).target] by
      unfold toldV; rw [if_pos h1, at_nat]; rfl)
    have hi := fun ob => (h.ino I i2 hn).below (dn.below_alloc w ob)
    have c0 := fun ob => (hi ob).c0
    have c1 := fun ob => (hi ob).c1
    have c2 := fun ob => (hi ob).c2
    have c3 := fun ob => (hi ob).c3
    have c4 := fun ob => (hi ob).c4
    have c5 := fun ob => (hi ob).c5
    have c6 := fun ob => (hi ob).c6
    have c7 := fun ob => (hi ob).c7
    have hlt := (h.ino I i2 hn).nlt
    rw [atV_yes i1 i2 hn] at HA
    rw [hv.out]
    obtain ⟨k4, e4⟩ := bpV_ptr (pl I) (S.ino I)
    obtain ⟨k5, e5⟩ := dpV_ptr (pl I) (S.ino I)
    rw [e4] at c4 ⊢
    rw [e5] at c5 ⊢
    generalize (pl I).nd = N at *
    generalize (S.ino I).kind = k0 at *
    generalize (S.ino I).links = k1 at *
    generalize (S.ino I).holds = k2 at *
    generalize (S.ino I).marks = k3 at *
    generalize (S.ino I).parent = k6 at *
    generalize (S.ino I).target = k7 at *
    have hne : w.heap.size ≠ N := by omega
    clear h hG hv h1 hi hn hlt e4 e5
    go_enter Tryz.func113, Tryz.ntmps113
    go_wp2_with fail
    refine (HA.out _).mono ?_
    rintro e w2 ⟨rfl, rfl⟩
    go_wp2_with fail
    exact bodyPost_ret (v := .agg #[.int .i64 k0, .int .i64 k1, .int .i64 k2, .int .i64 k3, .pointer k4, .pointer k5, .int .i64 k6, .string k7]) (by simp [results, Tryz.results113, go_sem]) rfl ⟨rfl, HB.out _⟩
set_option maxRecDepth 100000 in
theorem kind_any (h : CB w P lo st qb qo pl tag S room L T) (hG : br.Good S room) (i : Int) : Calls Tryz.prog 50 #[Pq P, .int .i64 i] w (RetI w (S.kindOf i)) := by
  have HT := Lib.hid (told_any h hG i)
  unfold RetW at HT
  unfold RetI BS.kindOf
  unfold toldV at HT
  clear h hG
  cases hb : S.isI i
  · rw [hb] at HT
    have hf : ∀ w : World, (Instr.field 142 (.agg #[.int .i64 0, .int .i64 0, .int .i64 0, .int .i64 0, .pointer none, .pointer none, .int .i64 0, .string ⟨#[]⟩]) 0).run Tryz.prog w = .ok (.int .i64 0) w := fun _ => by kernel_rfl
    simp only [if_neg (show ¬ false = true by decide)] at HT ⊢
    go_enter Tryz.func50, Tryz.ntmps50
    go_wp2_with fail
    refine HT.out.mono ?_
    rintro e w2 ⟨rfl, hb2⟩
    go_wp2_with fail
    go_ret
    exact ⟨rfl, hb2⟩
  · rw [hb] at HT
    have hf : ∀ w : World, (Instr.field 142 (.agg #[.int .i64 (S.at i).kind, .int .i64 (S.at i).links, .int .i64 (S.at i).holds, .int .i64 (S.at i).marks, bpV (pl i.toNat) (S.at i), dpV (pl i.toNat) (S.at i), .int .i64 (S.at i).parent, .string (S.at i).target]) 0).run Tryz.prog w = .ok (.int .i64 (S.at i).kind) w := fun _ => by kernel_rfl
    simp only [if_true] at HT ⊢
    go_enter Tryz.func50, Tryz.ntmps50
    go_wp2_with fail
    refine HT.out.mono ?_
    rintro e w2 ⟨rfl, hb2⟩
    go_wp2_with fail
    go_ret
    exact ⟨rfl, hb2⟩
set_option maxRecDepth 100000 in
theorem marks_any (h : CB w P lo st qb qo pl tag S room L T) (hG : br.Good S room) (i : Int) : Calls Tryz.prog 114 #[Pq P, .int .i64 i] w (RetI w (S.marksOf i)) := by
  have HT := Lib.hid (told_any h hG i)
  unfold RetW at HT
  unfold RetI BS.marksOf
  unfold toldV at HT
  clear h hG
  cases hb : S.isI i
  · rw [hb] at HT
    have hf : ∀ w : World, (Instr.field 142 (.agg #[.int .i64 0, .int .i64 0, .int .i64 0, .int .i64 0, .pointer none, .pointer none, .int .i64 0, .string ⟨#[]⟩]) 3).run Tryz.prog w = .ok (.int .i64 0) w := fun _ => by kernel_rfl
    simp only [if_neg (show ¬ false = true by decide)] at HT ⊢
    go_enter Tryz.func114, Tryz.ntmps114
    go_wp2_with fail
    refine HT.out.mono ?_
    rintro e w2 ⟨rfl, hb2⟩
    go_wp2_with fail
    go_ret
    exact ⟨rfl, hb2⟩
  · rw [hb] at HT
    have hf : ∀ w : World, (Instr.field 142 (.agg #[.int .i64 (S.at i).kind, .int .i64 (S.at i).links, .int .i64 (S.at i).holds, .int .i64 (S.at i).marks, bpV (pl i.toNat) (S.at i), dpV (pl i.toNat) (S.at i), .int .i64 (S.at i).parent, .string (S.at i).target]) 3).run Tryz.prog w = .ok (.int .i64 (S.at i).marks) w := fun _ => by kernel_rfl
    simp only [if_true] at HT ⊢
    go_enter Tryz.func114, Tryz.ntmps114
    go_wp2_with fail
    refine HT.out.mono ?_
    rintro e w2 ⟨rfl, hb2⟩
    go_wp2_with fail
    go_ret
    exact ⟨rfl, hb2⟩
def statV (S : BS) (i : Int) : Value := .tuple #[.agg #[.int .i64 (S.stat i).1.1, .int .i64 ((S.stat i).1.2.1 : Int), .int .i64 (S.stat i).1.2.2], .int .i64 (S.stat i).2]
set_option maxRecDepth 100000 in
set_option maxHeartbeats 1000000 in
theorem stat_any (h : CB w P lo st qb qo pl tag S room L T) (hG : br.Good S room) (i : Int) : Calls Tryz.prog 67 #[Pq P, .int .i64 i] w (RetW w (statV S i)) := by
  have HA := Lib.hid (fun ob => at_any (h.below (dn.below_alloc w ob)) hG.z0 i)
  have HB := Lib.hid (fun ob => dn.below_alloc w ob)
  unfold RetW
  rcases isI_cases S i with h1 | ⟨I, rfl, i1, i2, hn, h1⟩
  · have hv := Lib.hid (show statV S i = .tuple #[.agg #[.int .i64 0, .int .i64 0, .int .i64 0], .int .i64 2] by unfold statV BS.stat; rw [h1]; rfl)
    rw [atV_no h1] at HA
    rw [hv.out]
    clear h hG hv h1
    go_enter Tryz.func67, Tryz.ntmps67
    go_wp2_with fail
    refine (HA.out _).mono ?_
    rintro e w2 ⟨rfl, rfl⟩
    go_wp2_with fail
    exact bodyPost_ret (v := .tuple #[.agg #[.int .i64 0, .int .i64 0, .int .i64 0], .int .i64 2]) (by simp [results, Tryz.results67, go_sem]) rfl ⟨rfl, HB.out _⟩
  · have hv := Lib.hid (show statV S (I : Int) = .tuple #[.agg #[.int .i64 (S.ino I).kind, .int .i64 ((S.ino I).sizeOf : Int), .int .i64 (S.ino I).links], .int .i64 0] by
      unfold statV BS.stat; rw [if_pos h1, at_nat])
    have hi := fun ob => (h.ino I i2 hn).below (dn.below_alloc w ob)
    have c0 := fun ob => (hi ob).c0
    have c1 := fun ob => (hi ob).c1
    have HS := Lib.hid (fun W (hb : Below w.heap.size w W) => size_any (h.below hb) hG i2 hn)
    have hlt := (h.ino I i2 hn).nlt
    rw [atV_yes i1 i2 hn] at HA
    rw [hv.out]
    generalize (pl I).nd = N at *
    generalize (S.ino I).kind = k0 at *
    generalize (S.ino I).links = k1 at *
    generalize (S.ino I).sizeOf = k2 at *
    have hne : w.heap.size ≠ N := by omega
    clear h hG hv h1 hi hn hlt
    go_enter Tryz.func67, Tryz.ntmps67
    go_wp2_with fail
    refine (HA.out _).mono ?_
    rintro e w2 ⟨rfl, rfl⟩
    go_wp2_with fail
    go_region_held3 (fun w' => w'.cell? ⟨N, 0, none⟩ = some (.int .i64 k0) ∧ w'.cell? ⟨N, 1, none⟩ = some (.int .i64 k1))
      (first | exact ⟨c0 _, c1 _⟩ | assumption | go_keep)
      (first
      | (go_at_call 123; ((with_reducible refine (HS.out _ (HB.out _).drew).mono ?_); rintro e w2 ⟨rfl, rfl⟩)))
    all_goals
      go_wp2_with fail
      exact bodyPost_ret (v := .tuple #[.agg #[.int .i64 k0, .int .i64 (k2 : Int), .int .i64 k1], .int .i64 0]) (by simp [results, Tryz.results67, go_sem]) rfl ⟨rfl, (HB.out _).drew⟩
end
end Go.Proofs.YtnnaoldpacbagaaGreat.cb
end
section
namespace Go.Proofs.YtnnaoldpacbagaaGreat.cb
open Go.RowKit
open Go.Proofs.YtnnaoldpacbagaaGreat.qu (KN ins QL)
open Go.Proofs.YtnnaoldpacbagaaGreat.dn (Du En lget lset ldel getV nerr dotB Sorted RetV serr lsetE)
open Go.Proofs.YtnnaoldpacbagaaGreat.bl (AB Bod BodC StoC Only Pq cut cutR wr WR)
open Go.Proofs.YtnnaoldpacbagaaGreat.br
set_option linter.unusedVariables false
set_option linter.unusedSimpArgs false

section
variable {w w' : World} {P lo st qb room T : Nat} {qo : Option Nat} {pl : Nat → Pl} {tag : Nat → Nat} {S : BS} {L : List KN}
theorem Nx.of {S' : BS} {T' : Nat} {L' : List KN} {qo' : Option Nat} {tag' : Nat → Nat} (h : CB w' P lo st qb qo' pl tag' S' room L' T') (hs : Stp w w' tag tag') : Nx w w' P lo st qb pl tag S' room L' T' := ⟨qo', pl, tag', h, hs, fun _ _ => rfl⟩
/-- One step and then others. -/
theorem Nx.trans {w1 w2 : World} {S'' : BS} {T'' : Nat} {L'' : List KN} {pl' : Nat → Pl} {tag' : Nat → Nat} (hs : Stp w w1 tag tag') (hp : ∀ j, (S''.ino j).kind ≠ 0 → (pl' j).nd = (pl j).nd) (h2 : Nx w1 w2 P lo st qb pl' tag' S'' room L'' T'') : Nx w w2 P lo st qb pl tag S'' room L'' T'' := by
  obtain ⟨qo2, pl2, tag2, h, hs2, hp2⟩ := h2
  exact ⟨qo2, pl2, tag2, h, hs.trans hs2, fun j hj => (hp2 j hj).trans (hp j hj)⟩
theorem CB.drew (h : CB w P lo st qb qo pl tag S room L T) : CB w.drew P lo st qb qo pl tag S room L T := h.below (Below.refl _ _).drew
theorem Stp.drew {w w' : World} {t t' : Nat → Nat} (h : Stp w w' t t') : Stp w w'.drew t t' := ⟨h.tg, h.o.drew⟩
theorem CB.sep (h : CB w P lo st qb qo pl tag S room L T) {k : Nat} (hk : k ≤ 200) (hf : (S.ino k).kind = 1) : st ≠ (pl k).bo ∧ st ≠ (pl k).bm ∧ (pl k).bo ≠ (pl k).bm := by
  have t := h.ti k hk (by rw [hf]; decide)
  have b := t.b hf
  refine ⟨fun e => ?_, fun e => ?_, fun e => ?_⟩
  · have := h.tS; rw [e, b.1] at this; omega
  · have := h.tS; rw [e, b.2] at this; omega
  · have := b.1; rw [e, b.2] at this; omega
theorem CB.bfree (h : CB w P lo st qb qo pl tag S room L T) {k : Nat} (hk : k ≤ 200) (hf : (S.ino k).kind = 1) (hu : (S.ino k).body.n ≤ S.used) (hr : S.used ≤ 65536) :
    Calls Tryz.prog 176 #[Pq st, Pq (pl k).bo] w (fun e w' => e = .returned (.tuple #[]) ∧ CB w' P lo st qb qo pl tag ⟨upd S.ino k { S.ino k with body := cut (S.ino k).body 0 }, S.used + (cut (S.ino k).body 0).n - (S.ino k).body.n⟩ room L T ∧ Stp w w' tag tag) := by
  have s := h.sep hk hf
  exact (bl.free_any st (pl k).bo (pl k).bm room S.used _ w ((h.ino k hk (by rw [hf]; decide)).bod hf) h.sto hu hr s.1 s.2.1 s.2.2).mono fun e w' ⟨he, hb⟩ => ⟨he, h.bstep hk hf hb⟩
theorem CB.bcut (h : CB w P lo st qb qo pl tag S room L T) {k : Nat} (hk : k ≤ 200) (hf : (S.ino k).kind = 1) (hu : (S.ino k).body.n ≤ S.used) (hr : S.used ≤ 65536) (off : Int) :
    Calls Tryz.prog 189 #[Pq st, Pq (pl k).bo, .int .i64 off] w (fun e w' => e = .returned (.int .i64 (cutR off)) ∧ CB w' P lo st qb qo pl tag ⟨upd S.ino k { S.ino k with body := cut (S.ino k).body off }, S.used + (cut (S.ino k).body off).n - (S.ino k).body.n⟩ room L T ∧ Stp w w' tag tag) := by
  have s := h.sep hk hf
  exact (bl.cut_any st (pl k).bo (pl k).bm room S.used _ off w ((h.ino k hk (by rw [hf]; decide)).bod hf) h.sto hu hr s.1 s.2.1 s.2.2).mono fun e w' ⟨he, hb⟩ => ⟨he, h.bstep hk hf hb⟩
theorem CB.bread (h : CB w P lo st qb qo pl tag S room L T) {k : Nat} (hk : k ≤ 200) (hf : (S.ino k).kind = 1) (off n : Int) : Calls Tryz.prog 124 #[Pq st, Pq (pl k).bo, .int .i64 off, .int .i64 n] w (bl.ReadE w (S.ino k).body off n) :=
  bl.read_any st (pl k).bo (pl k).bm _ off n w ((h.ino k hk (by rw [hf]; decide)).bod hf)
/-- What lies in no block of the branch. -/
theorem CB.bwrite (h : CB w P lo st qb qo pl tag S room L T) {k : Nat} (hk : k ≤ 200) (hf : (S.ino k).kind = 1) (hu : (S.ino k).body.n ≤ S.used) (hur : S.used ≤ room) (hr : room ≤ 65536) (off : Int) (A : Option Addr) (len dc : Nat) (f : Nat → UInt8) (hA : bl.BytesIn w (fun b => tag b ≠ 0) A len f) (hlc : len ≤ dc) (hdc : dc ≤ maxLen) :
    Calls Tryz.prog 92 #[Pq st, Pq (pl k).bo, .int .i64 off, .slice A len dc] w (fun e w' => ∃ (p : Nat) (err : Int), e = .returned (.tuple #[.int .i64 (p : Int), .int .i64 err]) ∧ WR (S.ino k).body S.used room off len p err ∧ S.used + (wr (S.ino k).body off p f).n - (S.ino k).body.n ≤ room ∧ (wr (S.ino k).body off p f).Ok ∧
      CB w' P lo st qb qo pl tag ⟨upd S.ino k { S.ino k with body := wr (S.ino k).body off p f }, S.used + (wr (S.ino k).body off p f).n - (S.ino k).body.n⟩ room L T ∧ Stp w w' tag tag) := by
  have s := h.sep hk hf
  have b := (h.ti k hk (by rw [hf]; decide)).b hf
  refine (bl.write_any st (pl k).bo (pl k).bm room S.used len dc _ A off f w ((h.ino k hk (by rw [hf]; decide)).bod hf) h.sto hu hur hr s.1 s.2.1 s.2.2 (fun i hi => ?_) hlc hdc).mono fun e w' ⟨p, err, he, hw, hle, hb⟩ => ?_
  · obtain ⟨x, o, e, h1, h2, h3⟩ := hA i hi
    refine ⟨x, o, e, fun hF => h1 ?_, h2, h3⟩
    rcases hF with rfl | rfl | rfl
    · rw [h.tS]; decide
    · rw [b.1]; omega
    · rw [b.2]; omega
  · have := h.bstep hk hf hb
    exact ⟨p, err, he, hw, hle, hb.b.ok, this.1, this.2⟩
theorem CB.ddel (h : CB w P lo st qb qo pl tag S room L T) {D : Nat} (hk : D ≤ 200) (hD : (S.ino D).kind = 2) (hs : Sorted (S.ino D).dir) (hN : (S.ino D).dir.length ≤ 4000) (s : ByteArray) :
    Calls Tryz.prog 110 #[Pq (pl D).di, .string s] w (fun e w' => e = .returned (getV s (S.ino D).dir) ∧ Nx w w' P lo st qb pl tag ⟨upd S.ino D { S.ino D with dir := ldel s (S.ino D).dir }, S.used⟩ room L T) :=
  (dn.ddel_any _ _ _ _ _ s w ((h.ino D hk (by rw [hD]; decide)).dir hD) hs (by omega)).mono fun _ _ hst => h.dstep hk hD hst
theorem CB.dset (h : CB w P lo st qb qo pl tag S room L T) {D : Nat} (hk : D ≤ 200) (hD : (S.ino D).kind = 2) (hs : Sorted (S.ino D).dir) (hN : (S.ino D).dir.length ≤ 4000) (s : ByteArray) (v : Int) (hm : s.size ≤ 9223372036854775807) :
    Calls Tryz.prog 81 #[Pq (pl D).di, .string s, .int .i64 v] w (fun e w' => e = .returned (.int .i64 (serr s v)) ∧ Nx w w' P lo st qb pl tag ⟨upd S.ino D { S.ino D with dir := lsetE s v (S.ino D).dir }, S.used⟩ room L T) :=
  (dn.set_any _ _ _ _ _ s v w hm ((h.ino D hk (by rw [hD]; decide)).dir hD) (by have := h.plt; omega) hs (by omega)).mono fun _ _ hst => h.dstep hk hD hst
theorem CB.qpush (h : CB w P lo st qb qo pl tag S room L T) (hT : T ≤ 900000) (k m : Int) :
    Calls Tryz.prog 76 #[Pq qb, .int .i64 k, .int .i64 m] w (fun e w' => e = .returned (.tuple #[]) ∧ Nx w w' P lo st qb pl tag S room (ins (k, m) L) (T + 1)) :=
  (qu.lpush qb lo T qo L k m w (by have := h.plt; omega) hT h.q).mono fun _ _ hs => h.qstep hs
theorem CB.qpop (h : CB w P lo st qb qo pl tag S room L T) (hT : T ≤ 900000) :
    Calls Tryz.prog 80 #[Pq qb] w (fun e w' => e = .returned (qu.popV L) ∧ Nx w w' P lo st qb pl tag S room L.tail T) :=
  (qu.lpop qb lo T qo L w hT h.q).mono fun _ _ hs => h.qstep hs

theorem CB.goneS (h : CB w P lo st qb qo pl tag S room L T) (k : Nat) : Stp w (w.setCell ⟨P, 1 + k, none⟩ (.pointer none)) tag tag :=
  ⟨fun _ _ => rfl, rfl, rfl, rfl, by simp [World.setCell], fun j hj hF => Below.heap_setCell _ _ _ _ (fun e => hF (by show tag j ≠ 0; rw [e, h.tP]; decide))⟩
/-- An inode with neither links nor holds goes. -/
def settB (S : BS) (k : Nat) : Bool := decide ((S.ino k).links = 0 ∧ (S.ino k).holds = 0)
def settS (S : BS) (k : Nat) : BS := if settB S k = true then ⟨upd S.ino k Ino.nil, S.used - (S.ino k).body.n⟩ else S
def settL (S : BS) (k : Nat) (L : List KN) : List KN := if settB S k = true then ins (kk k) L else L
def settT (S : BS) (k : Nat) (T : Nat) : Nat := if settB S k = true then T + 1 else T
theorem upd_upd (f : Nat → Ino) (k : Nat) (x y : Ino) : upd (upd f k x) k y = upd f k y := by
  funext j; by_cases e : j = k
  · subst e; rw [upd_same, upd_same]
  · rw [upd_other _ _ e, upd_other _ _ e, upd_other _ _ e]
theorem cut0_n (b : AB) : (cut b 0).n = 0 := by
  unfold cut
  rw [if_pos (by decide)]
  unfold AB.n bl.cutB
  show bl.cnt 4096 _ = 0
  rw [bl.cnt_congr (g := fun _ => false) (fun k => by simp)]
  exact bl.cnt_none _
def RetS (w : World) (P lo st qb : Nat) (pl : Nat → Pl) (tag : Nat → Nat) (v : Value) (S' : BS) (room : Nat) (L' : List KN) (T' : Nat) (e : Ending) (w' : World) : Prop := e = .returned v ∧ Nx w w' P lo st qb pl tag S' room L' T'
/-- Behind the freeing of a file's body: its number goes. -/
theorem settle_end {S' : BS} {k : Nat} {u : Nat} {x : Ino} (h : CB w' P lo st qb qo pl tag ⟨upd S.ino k x, u⟩ room L T) (hs : Stp w w' tag tag) (hk : k ≤ 200) (hT : T ≤ 900000) (e : S' = ⟨upd S.ino k Ino.nil, u⟩) :
    (w'.setCell ⟨P, 1 + k, none⟩ (.pointer none)).cell? ⟨P, 202, none⟩ = some (Pq qb) ∧ w'.frozen? ⟨P, 1 + k, none⟩ = false ∧
    Calls Tryz.prog 76 #[Pq qb, .int .i64 (k : Int), .int .i64 (k : Int)] (w'.setCell ⟨P, 1 + k, none⟩ (.pointer none)) (fun e w2 => e = .returned (.tuple #[]) ∧ Nx w w2 P lo st qb pl tag S' room (ins (kk k) L) (T + 1)) := by
  have hg := h.gone hk
  dsimp only at hg
  rw [upd_upd, ← e] at hg
  exact ⟨hg.cq, h.cf _, (hg.qpush hT _ _).mono fun e w2 ⟨he, hx⟩ => ⟨he, Nx.trans (hs.trans (h.goneS k)) (fun _ _ => rfl) hx⟩⟩
set_option maxRecDepth 100000 in
set_option maxHeartbeats 1000000 in
theorem settle_any (h : CB w P lo st qb qo pl tag S room L T) {k : Nat} (hk : k ≤ 200) (hn : (S.ino k).kind ≠ 0) (hl : 0 ≤ (S.ino k).links) (hh : 0 ≤ (S.ino k).holds) (hnb : (S.ino k).kind ≠ 1 → (S.ino k).body.n = 0) (hu : (S.ino k).body.n ≤ S.used) (hr : S.used ≤ 65536) (hT : T ≤ 900000) :
    Calls Tryz.prog 135 #[Pq P, .int .i64 (k : Int)] w (RetS w P lo st qb pl tag (.tuple #[]) (settS S k) room (settL S k L) (settT S k T)) := by
  unfold RetS
  have hi := h.ino k hk hn
  have c0 := hi.c0
  have c1 := hi.c1
  have c2 := hi.c2
  have p1 := h.ci k hk
  rw [ptV_yes hn] at p1
  by_cases h1 : 0 < (S.ino k).links
  · have hb : settB S k = false := by unfold settB; simp; omega
    have HS := Lib.hid (show settS S k = S ∧ settL S k L = L ∧ settT S k T = T from ⟨if_neg (by rw [hb]; decide), if_neg (by rw [hb]; decide), if_neg (by rw [hb]; decide)⟩)
    have HF := Lib.hid (Nx.of h (Stp.refl w tag))
    rw [HS.out.1, HS.out.2.1, HS.out.2.2]
    generalize (S.ino k).links = K1 at *
    generalize (pl k).nd = N at *
    clear h hi hn hl hh hnb hu hr hT HS hb c0 c2
    go_enter Tryz.func135, Tryz.ntmps135
    go_wp2_with fail
    exact bodyPost_ret (v := .tuple #[]) (by simp [results, Tryz.results135, go_sem]) rfl ⟨rfl, HF.out⟩
  · have e1 : (S.ino k).links = 0 := by omega
    rw [e1] at c1
    by_cases h2 : 0 < (S.ino k).holds
    · have hb : settB S k = false := by unfold settB; simp; omega
      have HS := Lib.hid (show settS S k = S ∧ settL S k L = L ∧ settT S k T = T from ⟨if_neg (by rw [hb]; decide), if_neg (by rw [hb]; decide), if_neg (by rw [hb]; decide)⟩)
      have HF := Lib.hid (Nx.of h (Stp.refl w tag))
      rw [HS.out.1, HS.out.2.1, HS.out.2.2]
      generalize (S.ino k).holds = K2 at *
      generalize (pl k).nd = N at *
      clear h hi hn hl hh hnb hu hr hT HS hb c0 h1 e1
      go_enter Tryz.func135, Tryz.ntmps135
      go_wp2_with fail
      exact bodyPost_ret (v := .tuple #[]) (by simp [results, Tryz.results135, go_sem]) rfl ⟨rfl, HF.out⟩
    · have e2 : (S.ino k).holds = 0 := by omega
      rw [e2] at c2
      have hb : settB S k = true := by unfold settB; simp [e1, e2]
      have HS := Lib.hid (show settS S k = ⟨upd S.ino k Ino.nil, S.used - (S.ino k).body.n⟩ ∧ settL S k L = ins (kk k) L ∧ settT S k T = T + 1 from ⟨if_pos hb, if_pos hb, if_pos hb⟩)
      rw [HS.out.1, HS.out.2.1, HS.out.2.2]
      have pq := h.cq
      have pf := h.cf (1 + k)
      by_cases h3 : (S.ino k).kind = 1
      · have c4 := hi.c4f h3
        have p0 := h.c0
        have hu' : S.used + (cut (S.ino k).body 0).n - (S.ino k).body.n = S.used - (S.ino k).body.n := by rw [cut0_n]; omega
        have HFR := Lib.hid (fun W (hb : Below w.heap.size w W) => (h.below hb).bfree hk h3 hu hr)
        rw [hu'] at HFR
        rw [h3] at c0
        have HK := Lib.hid (fun W (h2 : CB W P lo st qb qo pl tag ⟨upd S.ino k { S.ino k with body := cut (S.ino k).body 0 }, S.used - (S.ino k).body.n⟩ room L T) (hs2 : Stp w W tag tag) => settle_end (S' := ⟨upd S.ino k Ino.nil, S.used - (S.ino k).body.n⟩) h2 hs2 hk hT rfl)
        have HS2 := Lib.hid (fun W (h2 : CB W P lo st qb qo pl tag ⟨upd S.ino k { S.ino k with body := cut (S.ino k).body 0 }, S.used - (S.ino k).body.n⟩ room L T) => (show W.cell? ⟨P, 1 + k, none⟩ = some (Pq (pl k).nd) ∧ W.cell? ⟨(pl k).nd, 4, none⟩ = some (Pq (pl k).bo) from by
          have a1 := h2.ci k hk
          have a2 := h2.ino k hk
          dsimp only at a1 a2
          rw [upd_same] at a1 a2
          exact ⟨a1.trans (congrArg some (ptV_yes (by exact hn))), (a2 (by exact hn)).c4f (by exact h3)⟩))
        generalize (pl k).nd = N at *
        generalize (pl k).bo = M at *
        clear h hi hn hl hh hnb hu hr hT HS hb h1 h2 e1 e2 h3 hu' pf pq
        go_enter Tryz.func135, Tryz.ntmps135
        go_wp2_with fail
        go_region_held3 (fun w' => w'.cell? ⟨P, 0, none⟩ = some (Pq st) ∧ w'.cell? ⟨N, 4, none⟩ = some (Pq M))
          (first | exact ⟨p0, c4⟩ | assumption | go_keep)
          (first
          | (go_at_call 176; ((with_reducible refine (HFR.out _ (Below.refl _ _).drew).mono ?_); rintro e w2 ⟨rfl, h2, hs2⟩; have q0 := h2.c0; obtain ⟨q1, q4⟩ := HS2.out _ h2)))
        all_goals
          obtain ⟨q2, qf, hq⟩ := HK.out _ h2 ((Stp.refl w tag).drew.trans hs2)
          have HQ := Lib.hid hq
          clear h2 hs2 hq q0 q4 p0 c0 c1 c2 c4 p1
          go_wp2_with fail
          refine HQ.out.mono ?_
          rintro e w3 ⟨rfl, hx⟩
          go_wp2_with fail
          go_end0
          exact ⟨rfl, hx⟩
      · have HG := h.gone hk
        have HQ := Lib.hid (HG.qpush hT (k : Int) (k : Int))
        have hst := h.goneS k
        have q0 := HG.cq
        have hbn : S.used = S.used - (S.ino k).body.n := by rw [hnb h3]; omega
        rw [← hbn]
        generalize (pl k).nd = N at *
        generalize (S.ino k).kind = K0 at *
        clear h hi hn hl hh hnb hu hr hT HS hb h1 h2 e1 e2 hbn HG
        go_enter Tryz.func135, Tryz.ntmps135
        go_wp2_with fail
        refine HQ.out.mono ?_
        rintro e w2 ⟨rfl, hx⟩
        go_wp2_with fail
        go_end0
        exact ⟨rfl, Nx.trans hst (fun _ _ => rfl) hx⟩
end
end Go.Proofs.YtnnaoldpacbagaaGreat.cb
end
