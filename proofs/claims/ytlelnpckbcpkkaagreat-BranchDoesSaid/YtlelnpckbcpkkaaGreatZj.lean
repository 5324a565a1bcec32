/- 'Link'. 'Hold', 'Release', 'Mark', 'Cut', 'Write', 'Read'. 'within' and 'replaces'. 'Rename': a name goes from one directory to another. -/
import Derived.Test.YtlelnpckbcpkkaaGreatZi
import Derived.Deep.LoopGhost
namespace Go.Proofs.YtlelnpckbcpkkaaGreat.cb
open Go.RowKit
open Go.Proofs.YtlelnpckbcpkkaaGreat.qu (KN ins QL)
open Go.Proofs.YtlelnpckbcpkkaaGreat.dn (Du En lget lset ldel getV nerr dotB Sorted RetV serr lsetE)
open Go.Proofs.YtlelnpckbcpkkaaGreat.bl (AB Bod BodC StoC Only Pq cut cutR wr WR)
open Go.Proofs.YtlelnpckbcpkkaaGreat.br
set_option linter.unusedVariables false
set_option linter.unusedSimpArgs false

theorem upd_comm (f : Nat → Ino) {i j : Nat} (x y : Ino) (h : i ≠ j) : upd (upd f i x) j y = upd (upd f j y) i x := by
  funext k
  by_cases e1 : k = i
  · subst e1; rw [upd_other _ _ h, upd_same, upd_same]
  · by_cases e2 : k = j
    · subst e2; rw [upd_same, upd_other _ _ e1, upd_same]
    · rw [upd_other _ _ e2, upd_other _ _ e1, upd_other _ _ e1, upd_other _ _ e2]
section
variable {w w' : World} {P lo st qb room T : Nat} {qo : Option Nat} {pl : Nat → Pl} {tag : Nat → Nat} {S : BS} {L : List KN}
/-- Behind the name's being set the inode has one link more. -/
theorem link_end {w1 : World} {qo1 : Option Nat} {pl1 : Nat → Pl} {tag1 : Nat → Nat} {D I : Nat} {s : ByteArray} (hv : S.vacant (D : Int) s = 0) (i1 : 1 ≤ I) (i2 : I ≤ 200) (hne : I ≠ D) (hn : (S.ino I).kind ≠ 0) (hk : (S.ino I).kind ≠ 2) (h0 : (S.ino I).links ≠ 0) (hl : (S.ino I).links < 20) (hI : S.isI (I : Int) = true)
    (h1 : CB w1 P lo st qb qo1 pl1 tag1 ⟨upd S.ino D { S.ino D with dir := lset s (I : Int) (S.ino D).dir }, S.used⟩ room (freeL S) T) (hs : Stp w w1 tag tag1) (hp : ∀ j, (upd S.ino D { S.ino D with dir := lset s (I : Int) (S.ino D).dir } j).kind ≠ 0 → (pl1 j).nd = (pl j).nd) :
    w1.cell? ⟨(pl I).nd, 1, none⟩ = some (.int .i64 (S.ino I).links) ∧ w1.frozen? ⟨(pl I).nd, 1, none⟩ = false ∧
    RetG w P lo st qb tag (.int .i64 0) (S.link (D : Int) s (I : Int)).2 room T (.returned (.int .i64 0)) (w1.setCell ⟨(pl I).nd, 1, none⟩ (.int .i64 ((S.ino I).links + 1))) := by
  have eI : upd S.ino D { S.ino D with dir := lset s (I : Int) (S.ino D).dir } I = S.ino I := upd_other _ _ hne
  have hp' := hp I (by rw [eI]; exact hn)
  have hn1 : (BS.ino ⟨upd S.ino D { S.ino D with dir := lset s (I : Int) (S.ino D).dir }, S.used⟩ I).kind ≠ 0 := by show (upd _ _ _ I).kind ≠ 0; rw [eI]; exact hn
  have hi := h1.ino I i2 hn1
  have ec1 := hi.c1
  have ef1 := hi.f 1
  have h2 := h1.links i2 hn1 ((S.ino I).links + 1)
  dsimp only at ec1 h2
  rw [eI] at ec1 h2
  rw [hp'] at ec1 ef1 h2
  have eM : (S.link (D : Int) s (I : Int)).2 = ⟨upd (upd S.ino D { S.ino D with dir := lset s (I : Int) (S.ino D).dir }) I { S.ino I with links := (S.ino I).links + 1 }, S.used⟩ := by
    unfold BS.link
    rw [if_neg (by omega), if_neg (by rw [hI, at_nat]; simp; exact h0), if_neg (by rw [at_nat]; exact hk), if_neg (by rw [at_nat]; omega)]
    unfold BS.putDir BS.put
    dsimp only
    rw [Int.toNat_natCast, Int.toNat_natCast, at_nat]
    show BS.mk (upd (upd S.ino I { S.ino I with links := (S.ino I).links + 1 }) D { upd S.ino I { S.ino I with links := (S.ino I).links + 1 } D with dir := lset s (I : Int) (upd S.ino I { S.ino I with links := (S.ino I).links + 1 } D).dir }) S.used = _
    rw [upd_other _ _ (fun e => hne e.symm), upd_comm _ _ _ hne]
  have hf : freeL (S.link (D : Int) s (I : Int)).2 = freeL S := by
    rw [eM]
    refine freeL_same fun j => ?_
    show (upd (upd _ _ _) _ _ j).kind = _
    by_cases e : j = I
    · subst e; rw [upd_same]
    · rw [upd_other _ _ e]
      by_cases e2 : j = D
      · subst e2; rw [upd_same]
      · rw [upd_other _ _ e2]
  refine ⟨ec1, ef1, rfl, qo1, pl1, tag1, T, Nat.le_succ T, ?_, hs.trans h2.2⟩
  rw [hf, eM]; exact h2.1
set_option maxRecDepth 100000 in
set_option maxHeartbeats 1000000 in
theorem link_any (h : CB w P lo st qb qo pl tag S room (freeL S) T) (hG : br.Good S room) (d : Int) (s : ByteArray) (i : Int) (hm : s.size ≤ 9223372036854775807) :
    Calls Tryz.prog 29 #[Pq P, .int .i64 d, .string s, .int .i64 i] w (RetG w P lo st qb tag (.int .i64 (S.link d s i).1) (S.link d s i).2 room T) := by
  have HV := Lib.hid (vacant_any h hG d s hm)
  unfold RetW at HV
  have HF := Lib.hid (fun w2 v hb => RetG.same (w' := w2) h v hb)
  by_cases h1 : S.vacant d s = 0
  · obtain ⟨D, rfl, d1, d2, hD, hDl, hg, hne, hdo⟩ := vacant_ok h1
    have hvv : vacV S pl (D : Int) s = .tuple #[Pq (pl D).nd, .int .i64 0] := by unfold vacV; rw [if_pos h1, h1]; rfl
    rw [hvv] at HV
    have HA := Lib.hid (fun w2 (hb : Below w.heap.size w w2) => at_any (h.below hb) hG.z0 i)
    rcases isI_cases S i with hI | ⟨I, rfl, i1, i2, hn, hI⟩
    · rw [atV_no hI] at HA
      have hv := Lib.hid (show S.link (D : Int) s i = (2, S) by unfold BS.link; rw [if_neg (by omega), if_pos (.inl hI)])
      rw [hv.out]
      generalize (pl D).nd = N at *
      clear h hG h1 hvv hv hI hg
      go_enter Tryz.func29, Tryz.ntmps29
      go_wp2_with fail
      refine HV.out.mono ?_
      rintro e w2 ⟨rfl, hb⟩
      go_wp2_with fail
      refine (HA.out _ hb).mono ?_
      rintro e w3 ⟨rfl, rfl⟩
      go_wp2_with fail
      go_ret
      exact HF.out _ _ hb
    · rw [atV_yes i1 i2 hn] at HA
      have HI := Lib.hid (fun w2 (hb : Below w.heap.size w w2) => (h.below hb).ino I i2 hn)
      have C0 := Lib.hid (fun w2 (hb : Below w.heap.size w w2) => (HI.out w2 hb).c0)
      have C1 := Lib.hid (fun w2 (hb : Below w.heap.size w w2) => (HI.out w2 hb).c1)
      by_cases e0 : (S.ino I).links = 0
      · have hv := Lib.hid (show S.link (D : Int) s (I : Int) = (2, S) by unfold BS.link; rw [if_neg (by omega), if_pos (.inr (by rw [at_nat]; exact e0))])
        rw [hv.out]
        rw [e0] at C1
        generalize (pl D).nd = N at *
        generalize (pl I).nd = M at *
        clear h hG h1 hvv hv hI hg HI C0 e0 hn
        go_enter Tryz.func29, Tryz.ntmps29
        go_wp2_with fail
        refine HV.out.mono ?_
        rintro e w2 ⟨rfl, hb⟩
        have c1 := C1.out _ hb
        go_wp2_with fail
        refine (HA.out _ hb).mono ?_
        rintro e w3 ⟨rfl, rfl⟩
        clear C1 HA
        go_wp2_with fail
        go_ret
        exact HF.out _ _ hb
      · by_cases e2 : (S.ino I).kind = 2
        · have hv := Lib.hid (show S.link (D : Int) s (I : Int) = (1, S) by unfold BS.link; rw [if_neg (by omega), if_neg (by rw [hI, at_nat]; simp; exact e0), if_pos (by rw [at_nat]; exact e2)])
          rw [hv.out]
          rw [e2] at C0
          generalize (pl D).nd = N at *
          generalize (pl I).nd = M at *
          generalize (S.ino I).links = K at *
          have q0 : (K == 0) = false := by simpa using e0
          clear h hG h1 hvv hv hI hg HI e0 e2 hn
          go_enter Tryz.func29, Tryz.ntmps29
          go_wp2_with fail
          refine HV.out.mono ?_
          rintro e w2 ⟨rfl, hb⟩
          have c1 := C1.out _ hb
          have c0 := C0.out _ hb
          go_wp2_with fail
          refine (HA.out _ hb).mono ?_
          rintro e w3 ⟨rfl, rfl⟩
          clear C1 C0 HA
          go_wp2_with fail
          go_ret
          exact HF.out _ _ hb
        · by_cases e3 : 20 ≤ (S.ino I).links
          · have hv := Lib.hid (show S.link (D : Int) s (I : Int) = (31, S) by unfold BS.link; rw [if_neg (by omega), if_neg (by rw [hI, at_nat]; simp; exact e0), if_neg (by rw [at_nat]; exact e2), if_pos (by rw [at_nat]; exact e3)])
            rw [hv.out]
            generalize (pl D).nd = N at *
            generalize (pl I).nd = M at *
            generalize (S.ino I).links = K at *
            generalize (S.ino I).kind = K2 at *
            have q0 : (K == 0) = false := by simpa using e0
            have q2 : (K2 == 2) = false := by simpa using e2
            clear h hG h1 hvv hv hI hg HI e0 e2 hn
            go_enter Tryz.func29, Tryz.ntmps29
            go_wp2_with fail
            refine HV.out.mono ?_
            rintro e w2 ⟨rfl, hb⟩
            have c1 := C1.out _ hb
            have c0 := C0.out _ hb
            go_wp2_with fail
            refine (HA.out _ hb).mono ?_
            rintro e w3 ⟨rfl, rfl⟩
            clear C1 C0 HA
            go_wp2_with fail
            go_ret
            exact HF.out _ _ hb
          · have hIne : I ≠ D := fun e => e2 (by rw [e]; exact hD)
            have hv := Lib.hid (show (S.link (D : Int) s (I : Int)).1 = 0 by unfold BS.link; rw [if_neg (by omega), if_neg (by rw [hI, at_nat]; simp; exact e0), if_neg (by rw [at_nat]; exact e2), if_neg (by rw [at_nat]; omega)])
            rw [hv.out]
            obtain ⟨s0, s1⟩ := serr_ok (n := I) hne hdo i1 (S.ino D).dir
            have HD := Lib.hid (fun w2 (hb : Below w.heap.size w w2) => (h.below hb).dset d2 hD (hG.1.sorted D) (hG.1.dirLen D) s (I : Int) hm)
            rw [s0, s1] at HD
            have C5 := Lib.hid (fun w2 (hb : Below w.heap.size w w2) => ((h.below hb).ino D d2 (by rw [hD]; decide)).c5d hD)
            have HM := Lib.hid (fun w1 qo1 pl1 tag1 h2 hs hp => link_end (w := w) (w1 := w1) (qo1 := qo1) (pl1 := pl1) (tag1 := tag1) (P := P) (lo := lo) (st := st) (qb := qb) (room := room) (T := T) (pl := pl) (tag := tag) (S := S) (s := s) h1 i1 i2 hIne hn e2 e0 (by omega) hI h2 hs hp)
            have hl0 := (hG.1.nums I).1
            generalize (pl D).nd = N at *
            generalize (pl D).di = C at *
            generalize (pl I).nd = M at *
            generalize (S.ino I).links = K at *
            generalize (S.ino I).kind = K2 at *
            have q0 : (K == 0) = false := by simpa using e0
            have q2 : (K2 == 2) = false := by simpa using e2
            have q3 : K ≤ 20 := by omega
            clear h hG h1 hvv hv hI hg HI e0 e2 hn s0 s1 HF
            go_enter Tryz.func29, Tryz.ntmps29
            go_wp2_with fail
            refine HV.out.mono ?_
            rintro e w2 ⟨rfl, hb⟩
            have c1 := C1.out _ hb
            have c0 := C0.out _ hb
            have c5 := C5.out _ hb
            have HD2 := Lib.hid (HD.out _ hb)
            have HB := Lib.hid hb
            go_wp2_with fail
            refine (HA.out _ hb).mono ?_
            rintro e w3 ⟨rfl, rfl⟩
            clear C1 C0 C5 HA HD hb
            go_wp2_with fail
            refine HD2.out.mono ?_
            rintro e w4 ⟨rfl, qo4, pl4, tag4, h4, hs4, hp4⟩
            obtain ⟨z1, z2, z3⟩ := HM.out w4 qo4 pl4 tag4 h4 ((Stp.below HB.out).trans hs4) hp4
            have HZ := Lib.hid z3
            clear c0 c1 c5 h4 hs4 hp4 z3 HM HD2
            go_wp2_with fail
            go_ret
            exact HZ.out
  · have hv := Lib.hid (show S.link d s i = (S.vacant d s, S) by unfold BS.link; rw [if_pos h1])
    have hvv : vacV S pl d s = .tuple #[.pointer none, .int .i64 (S.vacant d s)] := by unfold vacV; rw [if_neg h1]
    rw [hvv] at HV
    rw [hv.out]
    generalize S.vacant d s = x at *
    have hx : (x != 0) = true := by simpa using h1
    clear h hG h1 hvv hv
    go_enter Tryz.func29, Tryz.ntmps29
    go_wp2_with fail
    refine HV.out.mono ?_
    rintro e w2 ⟨rfl, hb⟩
    go_wp2_with fail
    go_ret
    exact HF.out _ _ hb
end
end Go.Proofs.YtlelnpckbcpkkaaGreat.cb
namespace Go.Proofs.YtlelnpckbcpkkaaGreat.cb
open Go.RowKit
open Go.Proofs.YtlelnpckbcpkkaaGreat.qu (KN ins QL)
open Go.Proofs.YtlelnpckbcpkkaaGreat.dn (Du En lget lset ldel getV nerr dotB Sorted RetV serr lsetE)
open Go.Proofs.YtlelnpckbcpkkaaGreat.bl (AB Bod BodC StoC Only Pq cut cutR wr WR)
open Go.Proofs.YtlelnpckbcpkkaaGreat.br
set_option linter.unusedVariables false
set_option linter.unusedSimpArgs false

section
variable {w w' : World} {P lo st qb room T : Nat} {qo : Option Nat} {pl : Nat → Pl} {tag : Nat → Nat} {S : BS} {L : List KN}
theorem freeL_upd {S : BS} {k : Nat} {x : Ino} {u : Nat} (h : x.kind = (S.ino k).kind) : freeL ⟨upd S.ino k x, u⟩ = freeL S := freeL_same fun j => by
  show (upd _ _ _ j).kind = _
  by_cases e : j = k
  · subst e; rw [upd_same, h]
  · rw [upd_other _ _ e]
theorem RetG.step {S' : BS} {v : Value} {T' : Nat} (h : CB w' P lo st qb qo pl tag S' room (freeL S) T') (hs : Stp w w' tag tag) (hf : freeL S' = freeL S) (hT : T' ≤ T + 1) : RetG w P lo st qb tag v S' room T (.returned v) w' :=
  ⟨rfl, qo, pl, tag, T', hT, by rw [hf]; exact h, hs⟩
set_option maxRecDepth 100000 in
set_option maxHeartbeats 1000000 in
theorem hold_any (h : CB w P lo st qb qo pl tag S room (freeL S) T) (hG : br.Good S room) (hh : ∀ k, (S.ino k).holds ≤ 900000) (i : Int) :
    Calls Tryz.prog 36 #[Pq P, .int .i64 i] w (RetG w P lo st qb tag (.int .i64 (S.hold i).1) (S.hold i).2 room T) := by
  have HA := Lib.hid (at_any h hG.z0 i)
  rcases isI_cases S i with hI | ⟨I, rfl, i1, i2, hn, hI⟩
  · rw [atV_no hI] at HA
    have hv := Lib.hid (show S.hold i = (2, S) by unfold BS.hold; rw [if_pos hI])
    rw [hv.out]
    have HF := Lib.hid (RetG.same h (.int .i64 2) (Below.refl _ _))
    clear h hG hv hI hh
    go_enter Tryz.func36, Tryz.ntmps36
    go_wp2_with fail
    refine HA.out.mono ?_
    rintro e w3 ⟨rfl, rfl⟩
    go_wp2_with fail
    go_ret
    exact HF.out
  · rw [atV_yes i1 i2 hn] at HA
    have hi := h.ino I i2 hn
    have c2 := hi.c2
    have f2 := hi.f 2
    have hv := Lib.hid (show S.hold (I : Int) = (0, ⟨upd S.ino I { S.ino I with holds := (S.ino I).holds + 1 }, S.used⟩) by unfold BS.hold; rw [if_neg (by rw [hI]; decide), at_nat]; rfl)
    rw [hv.out]
    have h2 := h.holds i2 hn ((S.ino I).holds + 1)
    have HF := Lib.hid (RetG.step (v := .int .i64 0) h2.1 h2.2 (freeL_upd rfl) (Nat.le_succ T))
    have h0 := (hG.1.nums I).2
    have h9 := hh I
    dsimp only
    generalize BS.mk (upd S.ino I { S.ino I with holds := (S.ino I).holds + 1 }) S.used = S2 at *
    generalize (pl I).nd = M at *
    generalize (S.ino I).holds = K at *
    clear h hG hv hI hh h2 hi hn
    go_enter Tryz.func36, Tryz.ntmps36
    go_wp2_with fail
    refine HA.out.mono ?_
    rintro e w3 ⟨rfl, rfl⟩
    go_wp2_with fail
    go_ret
    exact HF.out
set_option maxRecDepth 100000 in
set_option maxHeartbeats 1000000 in
theorem mark_any (h : CB w P lo st qb qo pl tag S room (freeL S) T) (hG : br.Good S room) (i m : Int) :
    Calls Tryz.prog 38 #[Pq P, .int .i64 i, .int .i64 m] w (RetG w P lo st qb tag (.int .i64 (S.mark i m).1) (S.mark i m).2 room T) := by
  have HA := Lib.hid (at_any h hG.z0 i)
  rcases isI_cases S i with hI | ⟨I, rfl, i1, i2, hn, hI⟩
  · rw [atV_no hI] at HA
    have hv := Lib.hid (show S.mark i m = (2, S) by unfold BS.mark; rw [if_pos hI])
    rw [hv.out]
    have HF := Lib.hid (RetG.same h (.int .i64 2) (Below.refl _ _))
    clear h hG hv hI
    go_enter Tryz.func38, Tryz.ntmps38
    go_wp2_with fail
    refine HA.out.mono ?_
    rintro e w3 ⟨rfl, rfl⟩
    go_wp2_with fail
    go_ret
    exact HF.out
  · rw [atV_yes i1 i2 hn] at HA
    have hi := h.ino I i2 hn
    have c3 := hi.c3
    have f3 := hi.f 3
    have hv := Lib.hid (show S.mark (I : Int) m = (0, ⟨upd S.ino I { S.ino I with marks := m }, S.used⟩) by unfold BS.mark; rw [if_neg (by rw [hI]; decide), at_nat]; rfl)
    rw [hv.out]
    have h2 := h.marks i2 hn m
    have HF := Lib.hid (RetG.step (v := .int .i64 0) h2.1 h2.2 (freeL_upd rfl) (Nat.le_succ T))
    dsimp only
    generalize BS.mk (upd S.ino I { S.ino I with marks := m }) S.used = S2 at *
    generalize (pl I).nd = M at *
    generalize (S.ino I).marks = K at *
    clear h hG hv hI h2 hi hn
    go_enter Tryz.func38, Tryz.ntmps38
    go_wp2_with fail
    refine HA.out.mono ?_
    rintro e w3 ⟨rfl, rfl⟩
    go_wp2_with fail
    go_ret
    exact HF.out
/-- Behind a hold's going the inode is settled. -/
theorem release_end {I : Nat} (h : CB w P lo st qb qo pl tag S room (freeL S) T) (hG : br.Good S room) (hr : room ≤ 65536) (hT : T ≤ 900000) (i1 : 1 ≤ I) (i2 : I ≤ 200) (hn : (S.ino I).kind ≠ 0) (h0 : (S.ino I).holds ≠ 0) :
    Calls Tryz.prog 91 #[Pq P, .int .i64 (I : Int)] (w.setCell ⟨(pl I).nd, 2, none⟩ (.int .i64 ((S.ino I).holds - 1))) (RetG w P lo st qb tag (.tuple #[]) (S.less (I : Int) 0 1) room T) := by
  have hb := Good_body hG I
  have hu : S.used ≤ 65536 := Nat.le_trans hG.1.room hr
  have hnum := hG.1.nums I
  obtain ⟨h2, hs2⟩ := h.holds i2 hn ((S.ino I).holds - 1)
  have e2 : (BS.ino ⟨upd S.ino I { S.ino I with holds := (S.ino I).holds - 1 }, S.used⟩ I) = { S.ino I with holds := (S.ino I).holds - 1 } := upd_same _ _ _
  have eS := settS_less S I 0 1 (x := { S.ino I with holds := (S.ino I).holds - 1 }) (by rw [Int.sub_zero])
  have hk2 : freeL ⟨upd S.ino I { S.ino I with holds := (S.ino I).holds - 1 }, S.used⟩ = freeL S := freeL_upd rfl
  have eu : (BS.mk (upd S.ino I { S.ino I with holds := (S.ino I).holds - 1 }) S.used).used = S.used := rfl
  generalize BS.mk (upd S.ino I { S.ino I with holds := (S.ino I).holds - 1 }) S.used = S2 at *
  have hx := settle_any h2 (k := I) i2 (by rw [e2]; exact hn) (by rw [e2]; exact hnum.1) (by rw [e2]; dsimp only; omega) (by rw [e2]; exact hb.2) (by rw [e2, eu]; exact hb.1) (by rw [eu]; exact hu) hT
  rw [← hk2, settL_free i1 i2 (by rw [e2]; exact hn), eS] at hx
  exact hx.mono fun e w2 ⟨he, qo', pl', tag', k1, k2, k3⟩ => ⟨he, qo', pl', tag', _, settT_le S2 I T, k1, hs2.trans k2⟩
set_option maxRecDepth 100000 in
set_option maxHeartbeats 1000000 in
theorem release_any (h : CB w P lo st qb qo pl tag S room (freeL S) T) (hG : br.Good S room) (hr : room ≤ 65536) (hT : T ≤ 900000) (hh : ∀ k, (S.ino k).holds ≤ 900000) (i : Int) :
    Calls Tryz.prog 37 #[Pq P, .int .i64 i] w (RetG w P lo st qb tag (.int .i64 (S.release i).1) (S.release i).2 room T) := by
  have HA := Lib.hid (at_any h hG.z0 i)
  rcases isI_cases S i with hI | ⟨I, rfl, i1, i2, hn, hI⟩
  · rw [atV_no hI] at HA
    have hv := Lib.hid (show S.release i = (2, S) by unfold BS.release; rw [if_pos hI])
    rw [hv.out]
    have HF := Lib.hid (RetG.same h (.int .i64 2) (Below.refl _ _))
    clear h hG hv hI hh
    go_enter Tryz.func37, Tryz.ntmps37
    go_wp2_with fail
    refine HA.out.mono ?_
    rintro e w3 ⟨rfl, rfl⟩
    go_wp2_with fail
    go_ret
    exact HF.out
  · rw [atV_yes i1 i2 hn] at HA
    have hi := h.ino I i2 hn
    have c2 := hi.c2
    have f2 := hi.f 2
    by_cases h0 : (S.ino I).holds = 0
    · have hv := Lib.hid (show S.release (I : Int) = (22, S) by unfold BS.release; rw [if_neg (by rw [hI]; decide), if_pos (by rw [at_nat]; exact h0)])
      rw [hv.out]
      have HF := Lib.hid (RetG.same h (.int .i64 22) (Below.refl _ _))
      rw [h0] at c2
      generalize (pl I).nd = M at *
      clear h hG hv hI hh hi hn h0
      go_enter Tryz.func37, Tryz.ntmps37
      go_wp2_with fail
      refine HA.out.mono ?_
      rintro e w3 ⟨rfl, rfl⟩
      go_wp2_with fail
      go_ret
      exact HF.out
    · have hv := Lib.hid (show S.release (I : Int) = (0, S.less (I : Int) 0 1) by unfold BS.release; rw [if_neg (by rw [hI]; decide), if_neg (by rw [at_nat]; exact h0)])
      rw [hv.out]
      have HE := Lib.hid (release_end h hG hr hT i1 i2 hn h0)
      have hn0 := (hG.1.nums I).2
      have h9 := hh I
      generalize S.less (I : Int) 0 1 = S2 at *
      generalize (pl I).nd = M at *
      generalize (S.ino I).holds = K at *
      have q0 : (K == 0) = false := by simpa using h0
      clear h hG hv hI hh hi hn
      go_enter Tryz.func37, Tryz.ntmps37
      go_wp2_with fail
      refine HA.out.mono ?_
      rintro e w3 ⟨rfl, rfl⟩
      go_wp2_with fail
      refine HE.out.mono ?_
      rintro e w4 ⟨rfl, hx⟩
      go_wp2_with fail
      go_ret
      exact ⟨rfl, hx⟩
set_option maxRecDepth 100000 in
set_option maxHeartbeats 1000000 in
theorem cut_any (h : CB w P lo st qb qo pl tag S room (freeL S) T) (hG : br.Good S room) (hr : room ≤ 65536) (i off : Int) :
    Calls Tryz.prog 35 #[Pq P, .int .i64 i, .int .i64 off] w (RetG w P lo st qb tag (.int .i64 (S.cutI i off).1) (S.cutI i off).2 room T) := by
  have HB := Lib.hid (body_any h hG i)
  by_cases h1 : S.fileE i = 0
  · obtain ⟨I, rfl, i1, i2, hk⟩ := fileE_ok h1
    have hb : bodV S pl (I : Int) = .tuple #[Pq (pl I).bo, .int .i64 0] := by unfold bodV; rw [if_pos h1, h1]; rfl
    rw [hb] at HB
    have HC := Lib.hid (h.bcut i2 hk (Good_body hG I).1 (Nat.le_trans hG.1.room hr) off)
    have c0 := h.c0
    have hv := Lib.hid (show S.cutI (I : Int) off = (cutR off, ⟨upd S.ino I { S.ino I with body := cut (S.ino I).body off }, S.used + (cut (S.ino I).body off).n - (S.ino I).body.n⟩) by unfold BS.cutI; rw [if_neg (by omega), at_nat]; rfl)
    have hf := Lib.hid (show freeL ⟨upd S.ino I { S.ino I with body := cut (S.ino I).body off }, S.used + (cut (S.ino I).body off).n - (S.ino I).body.n⟩ = freeL S from freeL_upd rfl)
    rw [hv.out]
    dsimp only
    generalize BS.mk (upd S.ino I { S.ino I with body := cut (S.ino I).body off }) (S.used + (cut (S.ino I).body off).n - (S.ino I).body.n) = S2 at *
    generalize cutR off = r at *
    generalize (pl I).bo = M at *
    clear h hG hv h1 hb hk
    go_enter Tryz.func35, Tryz.ntmps35
    go_wp2_with fail
    refine HB.out.mono ?_
    rintro e w3 ⟨rfl, rfl⟩
    go_wp2_with fail
    refine HC.out.mono ?_
    rintro e w4 ⟨rfl, hx, hs⟩
    clear c0
    go_wp2_with fail
    go_ret
    exact RetG.step hx hs hf.out (Nat.le_succ T)
  · have hv := Lib.hid (show S.cutI i off = (S.fileE i, S) by unfold BS.cutI; rw [if_pos h1])
    have hb : bodV S pl i = .tuple #[.pointer none, .int .i64 (S.fileE i)] := by unfold bodV; rw [if_neg h1]
    rw [hb] at HB
    rw [hv.out]
    have HF := Lib.hid (RetG.same h (.int .i64 (S.fileE i)) (Below.refl _ _))
    dsimp only
    generalize S.fileE i = x at *
    have hx : (x != 0) = true := by simpa using h1
    clear h hG hv hb h1
    go_enter Tryz.func35, Tryz.ntmps35
    go_wp2_with fail
    refine HB.out.mono ?_
    rintro e w3 ⟨rfl, rfl⟩
    go_wp2_with fail
    go_ret
    exact HF.out
/-- What a write comes to. -/
def WrI (S : BS) (room : Nat) (i off : Int) (len : Nat) (f : Nat → UInt8) (p : Nat) (err : Int) (S' : BS) : Prop :=
  (S.fileE i ≠ 0 ∧ p = 0 ∧ err = S.fileE i ∧ S' = S) ∨
  (S.fileE i = 0 ∧ WR (S.at i).body S.used room off len p err ∧ S.used + (wr (S.at i).body off p f).n - (S.at i).body.n ≤ room ∧ (wr (S.at i).body off p f).Ok ∧ S' = S.wrote i off p f)
set_option maxRecDepth 100000 in
set_option maxHeartbeats 1000000 in
theorem write_any (h : CB w P lo st qb qo pl tag S room (freeL S) T) (hG : br.Good S room) (hr : room ≤ 65536) (i off : Int) (A : Option Addr) (len dc : Nat) (f : Nat → UInt8) (hA : bl.BytesIn w (fun b => tag b ≠ 0) A len f) (hlc : len ≤ dc) (hdc : dc ≤ maxLen) :
    Calls Tryz.prog 33 #[Pq P, .int .i64 i, .int .i64 off, .slice A len dc] w (fun e w' => ∃ p err S', WrI S room i off len f p err S' ∧ RetG w P lo st qb tag (.tuple #[.int .i64 (p : Int), .int .i64 err]) S' room T e w') := by
  have HB := Lib.hid (body_any h hG i)
  by_cases h1 : S.fileE i = 0
  · obtain ⟨I, rfl, i1, i2, hk⟩ := fileE_ok h1
    have hb : bodV S pl (I : Int) = .tuple #[Pq (pl I).bo, .int .i64 0] := by unfold bodV; rw [if_pos h1, h1]; rfl
    rw [hb] at HB
    have HC := Lib.hid (h.bwrite i2 hk (Good_body hG I).1 hG.1.room hr off A len dc f hA hlc hdc)
    have c0 := h.c0
    have hv := Lib.hid (show ∀ w4 p err, WR (S.ino I).body S.used room off len p err → S.used + (wr (S.ino I).body off p f).n - (S.ino I).body.n ≤ room → (wr (S.ino I).body off p f).Ok →
        CB w4 P lo st qb qo pl tag ⟨upd S.ino I { S.ino I with body := wr (S.ino I).body off p f }, S.used + (wr (S.ino I).body off p f).n - (S.ino I).body.n⟩ room (freeL S) T → Stp w w4 tag tag →
        ∃ p' err' S', WrI S room (I : Int) off len f p' err' S' ∧ RetG w P lo st qb tag (.tuple #[.int .i64 (p' : Int), .int .i64 err']) S' room T (.returned (.tuple #[.int .i64 (p : Int), .int .i64 err])) w4 from fun w4 p err k1 k2 k3 k4 k5 =>
      ⟨p, err, _, .inr ⟨h1, by rw [at_nat]; exact k1, by rw [at_nat]; exact k2, by rw [at_nat]; exact k3, by unfold BS.wrote; rw [at_nat, Int.toNat_natCast]⟩, RetG.step k4 k5 (freeL_upd rfl) (Nat.le_succ T)⟩)
    have hw : ∀ p : Nat, p ≤ 0 ∨ True := fun _ => .inr trivial
    generalize (pl I).bo = M at *
    clear h hG h1 hb hk hA hw
    go_enter Tryz.func33, Tryz.ntmps33
    go_wp2_with fail
    refine HB.out.mono ?_
    rintro e w3 ⟨rfl, rfl⟩
    go_wp2_with fail
    refine HC.out.mono ?_
    rintro e w4 ⟨p, err, rfl, k1, k2, k3, k4, k5⟩
    have HZ := Lib.hid (hv.out w4 p err k1 k2 k3 k4 k5)
    clear c0 k1 k2 k3 k4 k5 hv HC HB
    go_wp2_with fail
    go_ret2
    exact HZ.out
  · have hb : bodV S pl i = .tuple #[.pointer none, .int .i64 (S.fileE i)] := by unfold bodV; rw [if_neg h1]
    rw [hb] at HB
    have HF := Lib.hid (show ∃ p err S', WrI S room i off len f p err S' ∧ RetG w P lo st qb tag (.tuple #[.int .i64 (p : Int), .int .i64 err]) S' room T (.returned (.tuple #[.int .i64 0, .int .i64 (S.fileE i)])) w from
      ⟨0, S.fileE i, S, .inl ⟨h1, rfl, rfl, rfl⟩, RetG.same h (.tuple #[.int .i64 0, .int .i64 (S.fileE i)]) (Below.refl _ _)⟩)
    unfold WrI at HF ⊢
    generalize S.fileE i = x at *
    have hx : (x != 0) = true := by simpa using h1
    clear h hG hb h1 hA
    go_enter Tryz.func33, Tryz.ntmps33
    go_wp2_with fail
    refine HB.out.mono ?_
    rintro e w3 ⟨rfl, rfl⟩
    go_wp2_with fail
    go_ret2
    exact HF.out
/-- What is read. -/
def readI (S : BS) (i off n : Int) : Int × Nat := if S.fileE i ≠ 0 then (S.fileE i, 0) else bl.readR (S.at i).body off n
def ReadI (w : World) (S : BS) (i off n : Int) (e : Ending) (w' : World) : Prop :=
  ∃ A c, e = .returned (.tuple #[.slice A (readI S i off n).2 c, .int .i64 (readI S i off n).1]) ∧ bl.Row w' w.heap.size A (readI S i off n).2 c (fun j => (S.at i).body.dat (off.toNat + j)) ∧ Below w.heap.size w w'
set_option maxRecDepth 100000 in
set_option maxHeartbeats 1000000 in
theorem read_any (h : CB w P lo st qb qo pl tag S room L T) (hG : br.Good S room) (i off n : Int) : Calls Tryz.prog 34 #[Pq P, .int .i64 i, .int .i64 off, .int .i64 n] w (ReadI w S i off n) := by
  have HB := Lib.hid (body_any h hG i)
  unfold ReadI
  by_cases h1 : S.fileE i = 0
  · obtain ⟨I, rfl, i1, i2, hk⟩ := fileE_ok h1
    have hb : bodV S pl (I : Int) = .tuple #[Pq (pl I).bo, .int .i64 0] := by unfold bodV; rw [if_pos h1, h1]; rfl
    rw [hb] at HB
    have HC := Lib.hid (h.bread i2 hk off n)
    unfold bl.ReadE at HC
    have c0 := h.c0
    have hv : readI S (I : Int) off n = bl.readR (S.ino I).body off n := by unfold readI; rw [if_neg (by omega), at_nat]
    rw [hv, at_nat]
    generalize (bl.readR (S.ino I).body off n).1 = r1 at *
    generalize (bl.readR (S.ino I).body off n).2 = r2 at *
    generalize (fun j => (S.ino I).body.dat (off.toNat + j)) = ff at *
    generalize (pl I).bo = M at *
    clear h hG h1 hb hk hv
    go_enter Tryz.func34, Tryz.ntmps34
    go_wp2_with fail
    refine HB.out.mono ?_
    rintro e w3 ⟨rfl, rfl⟩
    go_wp2_with fail
    refine HC.out.mono ?_
    rintro e w4 ⟨A, c, rfl, k1, k2⟩
    clear c0
    go_wp2_with fail
    go_ret2
    exact ⟨A, c, rfl, k1, k2⟩
  · have hb : bodV S pl i = .tuple #[.pointer none, .int .i64 (S.fileE i)] := by unfold bodV; rw [if_neg h1]
    rw [hb] at HB
    have hv : readI S i off n = (S.fileE i, 0) := by unfold readI; rw [if_pos h1]
    rw [hv]
    dsimp only
    generalize (fun j => (S.at i).body.dat (off.toNat + j)) = ff at *
    generalize S.fileE i = x at *
    have hx : (x != 0) = true := by simpa using h1
    clear h hG hb h1 hv
    go_enter Tryz.func34, Tryz.ntmps34
    go_wp2_with fail
    refine HB.out.mono ?_
    rintro e w3 ⟨rfl, rfl⟩
    go_wp2_with fail
    go_ret2
    exact ⟨none, 0, rfl, ⟨rfl, .inl ⟨rfl, rfl⟩⟩, Below.refl _ _⟩
end
end Go.Proofs.YtlelnpckbcpkkaaGreat.cb
namespace Go.Proofs.YtlelnpckbcpkkaaGreat.cb
open Go.RowKit
open Go.Proofs.YtlelnpckbcpkkaaGreat.qu (KN ins QL)
open Go.Proofs.YtlelnpckbcpkkaaGreat.dn (Du En lget lset ldel getV nerr dotB Sorted RetV serr lsetE)
open Go.Proofs.YtlelnpckbcpkkaaGreat.bl (AB Bod BodC StoC Only Pq cut cutR wr WR)
open Go.Proofs.YtlelnpckbcpkkaaGreat.br
set_option linter.unusedVariables false
set_option linter.unusedSimpArgs false

/-- With steps enough it is one whether a directory is below another. -/
theorem below_fuel {S : BS} {room I : Nat} (h : Inv S room) (hI : I ≠ 1) {deep : Nat → Nat} (hd : ∀ k, (S.ino k).kind = 2 → (S.ino k).links ≠ 0 → k ≠ 1 → ∃ p : Nat, (S.ino k).parent = (p : Int) ∧ (S.ino p).kind = 2 ∧ (S.ino p).links ≠ 0 ∧ deep p < deep k) :
    ∀ (g x : Nat), deep x ≤ g → (S.ino x).kind = 2 → (S.ino x).links ≠ 0 → ∀ n m, deep x < n → deep x < m → S.below (x : Int) I n = S.below (x : Int) I m := by
  intro g
  induction g with
  | zero =>
    intro x hx hk hl n m hn hm
    by_cases e : x = 1
    · subst e
      have := below_root h hI
      rw [show ((1 : Nat) : Int) = 1 from rfl, this, this]
    · obtain ⟨p, _, _, _, h4⟩ := hd x hk hl e
      omega
  | succ g ih =>
    intro x hx hk hl n m hn hm
    by_cases e : x = 1
    · subst e
      have := below_root h hI
      rw [show ((1 : Nat) : Int) = 1 from rfl, this, this]
    · obtain ⟨p, h1, h2, h3, h4⟩ := hd x hk hl e
      obtain ⟨n', rfl⟩ : ∃ n', n = n' + 1 := ⟨n - 1, by omega⟩
      obtain ⟨m', rfl⟩ : ∃ m', m = m' + 1 := ⟨m - 1, by omega⟩
      rw [below_up, below_up, h1, ih p (by omega) h2 h3 n' m' (by omega) (by omega)]
section
variable {w w' : World} {P lo st qb room T : Nat} {qo : Option Nat} {pl : Nat → Pl} {tag : Nat → Nat} {S : BS} {L : List KN}
set_option maxRecDepth 100000 in
set_option maxHeartbeats 1000000 in
theorem within_any (h : CB w P lo st qb qo pl tag S room L T) (hG : br.Good S room) {t I : Nat} (hI : I ≠ 1) (hk : (S.ino t).kind = 2) (hl : (S.ino t).links ≠ 0) : Calls Tryz.prog 84 #[Pq P, .int .i64 (t : Int), .int .i64 (I : Int)] w (fun e w' => e = .returned (.bool (S.below (t : Int) I 300)) ∧ w' = w) := by
  obtain ⟨deep, db, hd⟩ := Tree.bound hG.1 hG.2
  have HF := Lib.hid (fun x (k1 : (S.ino x).kind = 2) (k2 : (S.ino x).links ≠ 0) n m => below_fuel hG.1 hI hd (deep x) x (Nat.le_refl _) k1 k2 n m)
  have HS := Lib.hid (fun x (k1 : (S.ino x).kind = 2) => (show x ≤ 200 ∧ w.cell? ⟨P, 1 + x, none⟩ = some (Pq (pl x).nd) ∧ w.cell? ⟨(pl x).nd, 6, none⟩ = some (.int .i64 (S.ino x).parent) from by
    have hn := hG.1.num (k := x) (by rw [k1]; decide)
    exact ⟨hn.2, h.slot hn.2 (by rw [k1]; decide), (h.ino x hn.2 (by rw [k1]; decide)).c6⟩))
  have HR := Lib.hid (below_root hG.1 hI)
  have HD := Lib.hid hd
  have HB := Lib.hid db
  have HK := Lib.hid (And.intro hk hl)
  generalize hr : S.below (t : Int) I 300 = r at *
  have HRR := Lib.hid hr
  clear h hG hd db hk hl hr
  go_enter Tryz.func84, Tryz.ntmps84
  go_wp2_with fail
  go_loopg [1] (deep t) (fun g s1 wr => ∃ x : Nat, g = deep x ∧ s1 = .int .i64 x ∧ Hid ((S.ino x).kind = 2) ∧ Hid ((S.ino x).links ≠ 0) ∧ Hid (S.below (x : Int) I 300 = r) ∧ wr = w)
  case atStart => exact ⟨t, rfl, rfl, Lib.hid HK.out.1, Lib.hid HK.out.2, HRR, rfl⟩
  case round =>
    obtain ⟨x, hg, rfl, K1, K2, K3, rfl⟩ := hrel
    obtain ⟨x2, s1, s2⟩ := HS.out x K1.out
    by_cases e1 : x = I
    · have hq : ((x : Int) != (I : Int)) = false := by simp [e1]
      have HE := Lib.hid (show r = true by rw [← K3.out, e1]; exact below_self)
      subst e1
      clear HF HS HR HD HB HK HRR K1 K2 K3 hg s1 s2
      go_wp2_with fail
      go_ret
      exact ⟨by rw [HE.out]; simp, rfl⟩
    · have hq : ((x : Int) != (I : Int)) = true := by simp; omega
      have hq2 : ((x : Int) == (I : Int)) = false := by simp; omega
      by_cases e2 : x = 1
      · have HE := Lib.hid (show r = false by rw [← K3.out, e2]; exact HR.out 300)
        subst e2
        clear HF HS HR HD HB HK HRR K1 K2 K3 hg s1 s2
        go_wp2_with fail
        go_ret
        exact ⟨by rw [HE.out]; simp; omega, rfl⟩
      · obtain ⟨p, p1, p2, p3, p4⟩ := HD.out x K1.out K2.out e2
        have HE := Lib.hid (show S.below (p : Int) I 300 = r by
          have e3 : S.below (x : Int) I 300 = S.below (p : Int) I 299 := by rw [below_up (k := x) (n := 299), decide_eq_false e1, Bool.false_or, p1]
          have := HB.out p; have := HB.out x
          rw [← K3.out, e3]
          exact HF.out p p2 p3 300 299 (by omega) (by omega))
        have hq3 : ((x : Int) != 1) = true := by simp; omega
        have P2 := Lib.hid p2
        have P3 := Lib.hid p3
        rw [p1] at s2
        clear HF HS HR HB HK HRR K1 K2 K3 p1 p2 p3 HD
        go_wp2_with fail
        go_roundg (deep p)
        case measure => omega
        case rel => exact ⟨p, rfl, rfl, P2, P3, HE, rfl⟩
def replE (S : BS) (I J : Nat) : Int :=
  if (S.ino J).kind = 2 ∧ (S.ino I).kind ≠ 2 then 21 else if (S.ino J).kind ≠ 2 ∧ (S.ino I).kind = 2 then 20 else if (S.ino J).kind = 2 ∧ (S.ino J).dir ≠ [] then 39 else 0
set_option maxRecDepth 100000 in
set_option maxHeartbeats 1000000 in
theorem replaces_any (h : CB w P lo st qb qo pl tag S room L T) (hG : br.Good S room) {I J : Nat} (hi : (S.ino I).kind ≠ 0) (hj : (S.ino J).kind ≠ 0) : Calls Tryz.prog 85 #[Pq (pl I).nd, Pq (pl J).nd] w (fun e w' => e = .returned (.int .i64 (replE S I J)) ∧ w' = w) := by
  have i0 := (h.ino I (hG.1.num hi).2 hi).c0
  have j0 := (h.ino J (hG.1.num hj).2 hj).c0
  by_cases e1 : (S.ino J).kind = 2
  · by_cases e2 : (S.ino I).kind = 2
    · have j5 := (h.ino J (hG.1.num hj).2 hj).c5d e1
      have HL := Lib.hid (h.len hG e1)
      have hv : replE S I J = if 0 < (S.ino J).dir.length then 39 else 0 := by
        unfold replE
        rw [if_neg (by rw [e2]; simp), if_neg (by rw [e1]; simp)]
        by_cases e3 : (S.ino J).dir = []
        · rw [if_neg (by simp [e3]), if_neg (by simp [e3])]
        · rw [if_pos ⟨e1, e3⟩, if_pos (List.length_pos_iff.2 e3)]
      have HV := Lib.hid hv
      generalize replE S I J = r at *
      generalize (S.ino J).dir.length = K at *
      rw [e2] at i0
      rw [e1] at j0
      generalize (pl I).nd = N at *
      generalize (pl J).nd = M at *
      generalize (pl J).di = C at *
      clear h hG hi hj e1 e2 hv
      by_cases hK : 0 < K
      · have HV2 := Lib.hid (HV.out.trans (if_pos hK))
        clear HV
        go_enter Tryz.func85, Tryz.ntmps85
        go_wp2_with fail
        refine HL.out.mono ?_
        rintro e w3 ⟨rfl, rfl⟩
        go_wp2_with fail
        go_ret
        exact ⟨by rw [HV2.out]; rfl, rfl⟩
      · obtain rfl : K = 0 := by omega
        have HV2 := Lib.hid (HV.out.trans (if_neg hK))
        clear HV hK
        go_enter Tryz.func85, Tryz.ntmps85
        go_wp2_with fail
        refine HL.out.mono ?_
        rintro e w3 ⟨rfl, rfl⟩
        go_wp2_with fail
        go_ret
        exact ⟨by rw [HV2.out]; rfl, rfl⟩
    · have HV := Lib.hid (show replE S I J = 21 from if_pos ⟨e1, e2⟩)
      generalize replE S I J = r at *
      rw [e1] at j0
      generalize (S.ino I).kind = K at *
      generalize (pl I).nd = N at *
      generalize (pl J).nd = M at *
      have q : (K != 2) = true := by simpa using e2
      clear h hG hi hj e1 e2
      go_enter Tryz.func85, Tryz.ntmps85
      go_wp2_with fail
      go_ret
      exact ⟨by rw [HV.out]; rfl, rfl⟩
  · by_cases e2 : (S.ino I).kind = 2
    · have HV := Lib.hid (show replE S I J = 20 by unfold replE; rw [if_neg (fun e => e1 e.1), if_pos ⟨e1, e2⟩])
      generalize replE S I J = r at *
      rw [e2] at i0
      generalize (S.ino J).kind = K at *
      generalize (pl I).nd = N at *
      generalize (pl J).nd = M at *
      have q : (K != 2) = true := by simpa using e1
      have q2 : (K == 2) = false := by simpa using e1
      clear h hG hi hj e1 e2
      go_enter Tryz.func85, Tryz.ntmps85
      go_wp2_with fail
      go_ret
      exact ⟨by rw [HV.out]; rfl, rfl⟩
    · have HV := Lib.hid (show replE S I J = 0 by unfold replE; rw [if_neg (fun e => e1 e.1), if_neg (fun e => e2 e.2), if_neg (fun e => e1 e.1)])
      generalize replE S I J = r at *
      generalize (S.ino J).kind = K at *
      generalize (S.ino I).kind = K2 at *
      generalize (pl I).nd = N at *
      generalize (pl J).nd = M at *
      have q : (K != 2) = true := by simpa using e1
      have q2 : (K == 2) = false := by simpa using e1
      have q3 : (K2 == 2) = false := by simpa using e2
      clear h hG hi hj e1 e2
      go_enter Tryz.func85, Tryz.ntmps85
      go_wp2_with fail
      go_ret
      exact ⟨by rw [HV.out]; rfl, rfl⟩
end
end Go.Proofs.YtlelnpckbcpkkaaGreat.cb
namespace Go.Proofs.YtlelnpckbcpkkaaGreat.cb
open Go.RowKit
open Go.Proofs.YtlelnpckbcpkkaaGreat.qu (KN ins QL)
open Go.Proofs.YtlelnpckbcpkkaaGreat.dn (Du En lget lset ldel getV nerr dotB Sorted RetV serr lsetE)
open Go.Proofs.YtlelnpckbcpkkaaGreat.bl (AB Bod BodC StoC Only Pq cut cutR wr WR)
open Go.Proofs.YtlelnpckbcpkkaaGreat.br
set_option linter.unusedVariables false
set_option linter.unusedSimpArgs false

section
variable {w w' : World} {P lo st qb room T : Nat} {qo : Option Nat} {pl : Nat → Pl} {tag : Nat → Nat} {S : BS} {L : List KN}
/-- A name comes to a directory. -/
def insD (S : BS) (D : Nat) (s : ByteArray) (v : Int) : BS := ⟨upd S.ino D { S.ino D with dir := lset s v (S.ino D).dir }, S.used⟩
def parI (S : BS) (I : Nat) (v : Int) : BS := ⟨upd S.ino I { S.ino I with parent := v }, S.used⟩
theorem insD_other {S : BS} {D k : Nat} {s : ByteArray} {v : Int} (h : k ≠ D) : (insD S D s v).ino k = S.ino k := upd_other _ _ h
theorem insD_kind (S : BS) (D : Nat) (s : ByteArray) (v : Int) (k : Nat) : ((insD S D s v).ino k).kind = (S.ino k).kind := by
  show (upd _ _ _ k).kind = _
  by_cases e : k = D
  · subst e; rw [upd_same]
  · rw [upd_other _ _ e]
theorem parI_kind (S : BS) (I : Nat) (v : Int) (k : Nat) : ((parI S I v).ino k).kind = (S.ino k).kind := by
  show (upd _ _ _ k).kind = _
  by_cases e : k = I
  · subst e; rw [upd_same]
  · rw [upd_other _ _ e]
theorem delD_ino (S : BS) (D : Nat) (s : ByteArray) : (delD S D s).ino D = { S.ino D with dir := ldel s (S.ino D).dir } := upd_same _ _ _
theorem move_eq (S : BS) {D t I : Nat} (s u : ByteArray) (h1 : I ≠ D) (h2 : I ≠ t) : S.move (D : Int) s (t : Int) u (I : Int) = if (S.ino I).kind = 2 then parI (insD (delD S D s) t u (I : Int)) I (t : Int) else insD (delD S D s) t u (I : Int) := by
  unfold BS.move
  dsimp only
  rw [putDir_delD, at_nat]
  have e : (delD S D s).putDir (t : Int) (lset u (I : Int) ((delD S D s).at (t : Int)).dir) = insD (delD S D s) t u (I : Int) := by
    unfold BS.putDir BS.put insD; rw [at_nat, Int.toNat_natCast]
  rw [e]
  split
  · unfold BS.put parI; rw [at_nat, Int.toNat_natCast]
  · rfl
/-- The name is set where it goes to; a directory gets its new parent. -/
theorem move_set {w1 : World} {qo1 : Option Nat} {pl1 : Nat → Pl} {tag1 : Nat → Nat} {D t I T0 : Nat} {s u : ByteArray} (hG : br.Good S room) (hT : T ≤ T0 + 1) (ht : (S.ino t).kind = 2) (hn : (S.ino I).kind ≠ 0) (h1 : I ≠ D) (h2 : I ≠ t) (hu : nerr u.data.toList = 0 ∧ dotB u = false) (hm : u.size ≤ 9223372036854775807)
    (h : CB w1 P lo st qb qo1 pl1 tag1 (delD S D s) room (freeL S) T) (hs : Stp w w1 tag tag1) (hp : ∀ j, ((delD S D s).ino j).kind ≠ 0 → (pl1 j).nd = (pl j).nd) :
    ∃ C, w1.cell? ⟨(pl t).nd, 5, none⟩ = some (Pq C) ∧ Calls Tryz.prog 78 #[Pq C, .string u, .int .i64 (I : Int)] w1 (fun e w2 => e = .returned (.int .i64 0) ∧
      w2.cell? ⟨(pl I).nd, 0, none⟩ = some (.int .i64 (S.ino I).kind) ∧ w2.cell? ⟨(pl I).nd, 6, none⟩ = some (.int .i64 (S.ino I).parent) ∧ w2.frozen? ⟨(pl I).nd, 6, none⟩ = false ∧
      ((S.ino I).kind ≠ 2 → RetG w P lo st qb tag (.int .i64 0) (S.move (D : Int) s (t : Int) u (I : Int)) room T0 (.returned (.int .i64 0)) w2) ∧
      ((S.ino I).kind = 2 → RetG w P lo st qb tag (.int .i64 0) (S.move (D : Int) s (t : Int) u (I : Int)) room T0 (.returned (.int .i64 0)) (w2.setCell ⟨(pl I).nd, 6, none⟩ (.int .i64 (t : Int))))) := by
  have k1 := fun j => delD_kind S D s j
  have tn := hG.1.num (k := t) (by rw [ht]; decide)
  have In := hG.1.num hn
  have ht1 : ((delD S D s).ino t).kind = 2 := by rw [k1]; exact ht
  have c5 := (h.ino t tn.2 (by rw [ht1]; decide)).c5d ht1
  rw [hp t (by rw [ht1]; decide)] at c5
  have hso : Sorted ((delD S D s).ino t).dir := by
    by_cases e : t = D
    · subst e; rw [delD_ino]; exact dn.ldel_sorted (hG.1.sorted _)
    · rw [delD_other e]; exact hG.1.sorted _
  have hle : ((delD S D s).ino t).dir.length ≤ 4000 := by
    by_cases e : t = D
    · subst e; rw [delD_ino]
      exact Nat.le_trans (List.length_filter_le _ _) (hG.1.dirLen _)
    · rw [delD_other e]; exact hG.1.dirLen _
  refine ⟨_, c5, ?_⟩
  have hd := h.dset tn.2 ht1 hso hle u (I : Int) hm
  obtain ⟨s0, s1⟩ := serr_ok (n := I) hu.1 hu.2 In.1 ((delD S D s).ino t).dir
  rw [s0, s1] at hd
  refine hd.mono ?_
  rintro e w2 ⟨rfl, qo2, pl2, tag2, h3, hs2, hp2⟩
  change CB w2 P lo st qb qo2 pl2 tag2 (insD (delD S D s) t u (I : Int)) room (freeL S) T at h3
  have k2 := fun j => (insD_kind (delD S D s) t u (I : Int) j).trans (k1 j)
  have eI : (insD (delD S D s) t u (I : Int)).ino I = S.ino I := by rw [insD_other h2, delD_other h1]
  have hn2 : ((insD (delD S D s) t u (I : Int)).ino I).kind ≠ 0 := by rw [eI]; exact hn
  have hi := h3.ino I In.2 hn2
  have en : (pl2 I).nd = (pl I).nd := (hp2 I hn2).trans (hp I (by rw [k1]; exact hn))
  have a0 := hi.c0
  have a6 := hi.c6
  have f6 := hi.f 6
  rw [en] at a0 a6 f6
  rw [eI] at a0 a6
  have hmv := move_eq S s u h1 h2
  refine ⟨rfl, a0, a6, f6, fun hk => ?_, fun hk => ?_⟩
  · rw [if_neg hk] at hmv
    have hf : freeL (S.move (D : Int) s (t : Int) u (I : Int)) = freeL S := by rw [hmv]; exact freeL_same k2
    exact ⟨rfl, qo2, pl2, tag2, T, hT, by rw [hf, hmv]; exact h3, hs.trans hs2⟩
  · rw [if_pos hk] at hmv
    have hf : freeL (S.move (D : Int) s (t : Int) u (I : Int)) = freeL S := by rw [hmv]; exact freeL_same fun j => (parI_kind _ _ _ j).trans (k2 j)
    have h4 := h3.parent In.2 hn2 (t : Int)
    rw [en] at h4
    exact ⟨rfl, qo2, pl2, tag2, T, hT, by rw [hf, hmv]; exact h4.1, hs.trans (hs2.trans h4.2)⟩
end
end Go.Proofs.YtlelnpckbcpkkaaGreat.cb
