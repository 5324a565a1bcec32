/- The branch's functions that turn it: a name that goes, 'Unlink', 'Rmdir'. -/
import Derived.Test.YtnnaoldpacbagaaGreatZ15
section
namespace Go.Proofs.YtnnaoldpacbagaaGreat.cb
open Go.RowKit
open Go.Proofs.YtnnaoldpacbagaaGreat.qu (KN ins QL)
open Go.Proofs.YtnnaoldpacbagaaGreat.dn (Du En lget lset ldel getV nerr dotB Sorted RetV serr lsetE)
open Go.Proofs.YtnnaoldpacbagaaGreat.bl (AB Bod BodC StoC Only Pq cut cutR wr WR)
open Go.Proofs.YtnnaoldpacbagaaGreat.br
set_option linter.unusedVariables false
set_option linter.unusedSimpArgs false

theorem settS_less (S : BS) (I : Nat) (dl dh : Int) {x : Ino} (hx : x = { S.ino I with links := (S.ino I).links - dl, holds := (S.ino I).holds - dh }) : settS ⟨upd S.ino I x, S.used⟩ I = S.less (I : Int) dl dh := by
  subst hx
  unfold settS settB BS.less
  simp only [at_nat, upd_same, upd_upd]
  by_cases h : (S.ino I).links - dl = 0 ∧ (S.ino I).holds - dh = 0
  · rw [if_pos (decide_eq_true h), if_pos h]; rfl
  · rw [if_neg (by simpa using h), if_neg h]; rfl
theorem settL_free {S : BS} {I : Nat} (h1 : 1 ≤ I) (h2 : I ≤ 200) (hn : (S.ino I).kind ≠ 0) : settL S I (freeL S) = freeL (settS S I) := by
  unfold settL settS
  split
  · refine freeL_push h1 h2 hn ?_ fun k hk => ?_
    · show (upd S.ino I Ino.nil I).kind = 0; rw [upd_same]; rfl
    · show (upd S.ino I Ino.nil k).kind = _; rw [upd_other _ _ hk]
  · rfl
theorem settT_le (S : BS) (k T : Nat) : settT S k T ≤ T + 1 := by unfold settT; split <;> omega
theorem Good_body {S : BS} {room : Nat} (h : br.Good S room) (k : Nat) : (S.ino k).body.n ≤ S.used ∧ ((S.ino k).kind ≠ 1 → (S.ino k).body.n = 0) := by
  refine ⟨?_, fun hk => by rw [h.1.noBody k hk, abE_n]⟩
  by_cases hk : (S.ino k).kind = 1
  · have hn := h.1.num (k := k) (by rw [hk]; decide)
    rw [h.1.used]
    exact sumF_le (f := fun k => (S.ino k).body.n) hn.1 hn.2
  · rw [h.1.noBody k hk, abE_n]; exact Nat.zero_le _
section
variable {w w' : World} {P lo st qb room T : Nat} {qo : Option Nat} {pl : Nat → Pl} {tag : Nat → Nat} {S : BS} {L : List KN}
/-- Behind a call: the state, with the list of its free numbers. -/
def NxF (w w' : World) (P lo st qb : Nat) (pl : Nat → Pl) (tag : Nat → Nat) (S' : BS) (room T : Nat) : Prop := ∃ T', T' ≤ T + 1 ∧ Nx w w' P lo st qb pl tag S' room (freeL S') T'
theorem CB.links (h : CB w P lo st qb qo pl tag S room L T) {k : Nat} (hk : k ≤ 200) (hn : (S.ino k).kind ≠ 0) (v : Int) :
    CB (w.setCell ⟨(pl k).nd, 1, none⟩ (.int .i64 v)) P lo st qb qo pl tag ⟨upd S.ino k { S.ino k with links := v }, S.used⟩ room L T ∧ Stp w (w.setCell ⟨(pl k).nd, 1, none⟩ (.int .i64 v)) tag tag := by
  have hi := h.ino k hk hn
  have eo : ∀ i, i ≠ 1 → (w.setCell ⟨(pl k).nd, 1, none⟩ (.int .i64 v)).cell? ⟨(pl k).nd, i, none⟩ = w.cell? ⟨(pl k).nd, i, none⟩ := fun i hi => World.cell?_setCell_other _ _ _ _ (fun e => hi (by injection e with _ e _; exact e.symm))
  exact h.setf hk hn 1 _ ⟨World.cell?_setCell_same' _ _ _ (by rw [hi.c1]; rfl), (eo 2 (by omega)).trans hi.c2, (eo 3 (by omega)).trans hi.c3, (eo 6 (by omega)).trans hi.c6⟩ (by omega) rfl rfl rfl rfl
theorem CB.holds (h : CB w P lo st qb qo pl tag S room L T) {k : Nat} (hk : k ≤ 200) (hn : (S.ino k).kind ≠ 0) (v : Int) :
    CB (w.setCell ⟨(pl k).nd, 2, none⟩ (.int .i64 v)) P lo st qb qo pl tag ⟨upd S.ino k { S.ino k with holds := v }, S.used⟩ room L T ∧ Stp w (w.setCell ⟨(pl k).nd, 2, none⟩ (.int .i64 v)) tag tag := by
  have hi := h.ino k hk hn
  have eo : ∀ i, i ≠ 2 → (w.setCell ⟨(pl k).nd, 2, none⟩ (.int .i64 v)).cell? ⟨(pl k).nd, i, none⟩ = w.cell? ⟨(pl k).nd, i, none⟩ := fun i hi => World.cell?_setCell_other _ _ _ _ (fun e => hi (by injection e with _ e _; exact e.symm))
  exact h.setf hk hn 2 _ ⟨(eo 1 (by omega)).trans hi.c1, World.cell?_setCell_same' _ _ _ (by rw [hi.c2]; rfl), (eo 3 (by omega)).trans hi.c3, (eo 6 (by omega)).trans hi.c6⟩ (by omega) rfl rfl rfl rfl
theorem CB.marks (h : CB w P lo st qb qo pl tag S room L T) {k : Nat} (hk : k ≤ 200) (hn : (S.ino k).kind ≠ 0) (v : Int) :
    CB (w.setCell ⟨(pl k).nd, 3, none⟩ (.int .i64 v)) P lo st qb qo pl tag ⟨upd S.ino k { S.ino k with marks := v }, S.used⟩ room L T ∧ Stp w (w.setCell ⟨(pl k).nd, 3, none⟩ (.int .i64 v)) tag tag := by
  have hi := h.ino k hk hn
  have eo : ∀ i, i ≠ 3 → (w.setCell ⟨(pl k).nd, 3, none⟩ (.int .i64 v)).cell? ⟨(pl k).nd, i, none⟩ = w.cell? ⟨(pl k).nd, i, none⟩ := fun i hi => World.cell?_setCell_other _ _ _ _ (fun e => hi (by injection e with _ e _; exact e.symm))
  exact h.setf hk hn 3 _ ⟨(eo 1 (by omega)).trans hi.c1, (eo 2 (by omega)).trans hi.c2, World.cell?_setCell_same' _ _ _ (by rw [hi.c3]; rfl), (eo 6 (by omega)).trans hi.c6⟩ (by omega) rfl rfl rfl rfl
theorem CB.parent (h : CB w P lo st qb qo pl tag S room L T) {k : Nat} (hk : k ≤ 200) (hn : (S.ino k).kind ≠ 0) (v : Int) :
    CB (w.setCell ⟨(pl k).nd, 6, none⟩ (.int .i64 v)) P lo st qb qo pl tag ⟨upd S.ino k { S.ino k with parent := v }, S.used⟩ room L T ∧ Stp w (w.setCell ⟨(pl k).nd, 6, none⟩ (.int .i64 v)) tag tag := by
  have hi := h.ino k hk hn
  have eo : ∀ i, i ≠ 6 → (w.setCell ⟨(pl k).nd, 6, none⟩ (.int .i64 v)).cell? ⟨(pl k).nd, i, none⟩ = w.cell? ⟨(pl k).nd, i, none⟩ := fun i hi => World.cell?_setCell_other _ _ _ _ (fun e => hi (by injection e with _ e _; exact e.symm))
  exact h.setf hk hn 6 _ ⟨(eo 1 (by omega)).trans hi.c1, (eo 2 (by omega)).trans hi.c2, (eo 3 (by omega)).trans hi.c3, World.cell?_setCell_same' _ _ _ (by rw [hi.c6]; rfl)⟩ (by omega) rfl rfl rfl rfl
theorem CB.slot (h : CB w P lo st qb qo pl tag S room L T) {k : Nat} (hk : k ≤ 200) (hn : (S.ino k).kind ≠ 0) : w.cell? ⟨P, 1 + k, none⟩ = some (Pq (pl k).nd) := (h.ci k hk).trans (congrArg some (ptV_yes hn))
/-- A name goes from a directory; an inode's links are set. -/
def delD (S : BS) (D : Nat) (s : ByteArray) : BS := ⟨upd S.ino D { S.ino D with dir := ldel s (S.ino D).dir }, S.used⟩
def lnkI (S : BS) (I : Nat) (v : Int) : BS := ⟨upd S.ino I { S.ino I with links := v }, S.used⟩
theorem delD_other {S : BS} {D k : Nat} {s : ByteArray} (h : k ≠ D) : (delD S D s).ino k = S.ino k := upd_other _ _ h
theorem delD_kind (S : BS) (D : Nat) (s : ByteArray) (k : Nat) : ((delD S D s).ino k).kind = (S.ino k).kind := by
  show (upd _ _ _ k).kind = _
  by_cases e : k = D
  · subst e; rw [upd_same]
  · rw [upd_other _ _ e]
theorem lnkI_same (S : BS) (I : Nat) (v : Int) : (lnkI S I v).ino I = { S.ino I with links := v } := upd_same _ _ _
theorem lnkI_kind (S : BS) (I : Nat) (v : Int) (k : Nat) : ((lnkI S I v).ino k).kind = (S.ino k).kind := by
  show (upd _ _ _ k).kind = _
  by_cases e : k = I
  · subst e; rw [upd_same]
  · rw [upd_other _ _ e]
theorem putDir_delD (S : BS) (D : Nat) (s : ByteArray) : S.putDir (D : Int) (ldel s (S.at (D : Int)).dir) = delD S D s := by unfold BS.putDir BS.put delD; rw [at_nat, Int.toNat_natCast]
theorem drop_eq {S : BS} {D I : Nat} (s : ByteArray) (hne : I ≠ D) : settS (lnkI (delD S D s) I ((S.ino I).links - 1)) I = S.drop (D : Int) s (I : Int) := by
  unfold BS.drop
  rw [putDir_delD]
  exact settS_less (delD S D s) I 1 0 (by rw [delD_other hne, Int.sub_zero])
/-- Behind the name's going from its directory: the inode's links are one less, and it is settled. -/
theorem unname_mid {w1 : World} {qo1 : Option Nat} {pl1 : Nat → Pl} {tag1 : Nat → Nat} {D I : Nat} {s : ByteArray} (hG : br.Good S room) (hr : room ≤ 65536) (hT : T ≤ 900000) (i1 : 1 ≤ I) (i2 : I ≤ 200) (hne : I ≠ D) (hn : (S.ino I).kind ≠ 0) (hl : 1 ≤ (S.ino I).links)
    (h1 : CB w1 P lo st qb qo1 pl1 tag1 (delD S D s) room (freeL S) T) (hs : Stp w w1 tag tag1) (hp : ∀ j, ((delD S D s).ino j).kind ≠ 0 → (pl1 j).nd = (pl j).nd) :
    w1.cell? ⟨P, 1 + I, none⟩ = some (Pq (pl I).nd) ∧ w1.cell? ⟨(pl I).nd, 1, none⟩ = some (.int .i64 (S.ino I).links) ∧ w1.frozen? ⟨(pl I).nd, 1, none⟩ = false ∧
    Calls Tryz.prog 135 #[Pq P, .int .i64 (I : Int)] (w1.setCell ⟨(pl I).nd, 1, none⟩ (.int .i64 ((S.ino I).links - 1))) (fun e w2 => e = .returned (.tuple #[]) ∧ NxF w w2 P lo st qb pl tag (S.drop (D : Int) s (I : Int)) room T) := by
  have hk1 := fun j => delD_kind S D s j
  have hn1 : ((delD S D s).ino I).kind ≠ 0 := by rw [hk1]; exact hn
  have hp' := hp I hn1
  have hi := h1.ino I i2 hn1
  have hb := Good_body hG I
  have hu : S.used ≤ 65536 := Nat.le_trans hG.1.room hr
  obtain ⟨h2, hs2⟩ : CB (w1.setCell ⟨(pl1 I).nd, 1, none⟩ (.int .i64 ((S.ino I).links - 1))) P lo st qb qo1 pl1 tag1 (lnkI (delD S D s) I ((S.ino I).links - 1)) room (freeL S) T ∧ Stp w1 (w1.setCell ⟨(pl1 I).nd, 1, none⟩ (.int .i64 ((S.ino I).links - 1))) tag1 tag1 := h1.links i2 hn1 _
  have ec1 := hi.c1
  have ef1 := hi.f 1
  have es := h1.slot i2 hn1
  rw [delD_other hne] at ec1
  rw [hp'] at ec1 ef1 es h2 hs2
  refine ⟨es, ec1, ef1, ?_⟩
  have eS := drop_eq (S := S) s hne
  have e2 := lnkI_same (delD S D s) I ((S.ino I).links - 1)
  rw [delD_other hne] at e2
  have hk2 := fun j => (lnkI_kind (delD S D s) I ((S.ino I).links - 1) j).trans (hk1 j)
  have eu : (lnkI (delD S D s) I ((S.ino I).links - 1)).used = S.used := rfl
  generalize lnkI (delD S D s) I ((S.ino I).links - 1) = S2 at *
  have hx := settle_any h2 (k := I) i2 (by rw [hk2]; exact hn) (by rw [e2]; dsimp only; omega) (by rw [e2]; exact (hG.1.nums I).2) (by rw [e2]; exact hb.2) (by rw [e2, eu]; exact hb.1) (by rw [eu]; exact hu) hT
  rw [← freeL_same hk2, settL_free i1 i2 (by rw [hk2]; exact hn), eS] at hx
  exact hx.mono fun e w2 ⟨he, hx⟩ => ⟨he, settT S2 I T, settT_le _ _ _, Nx.trans (hs.trans hs2) (fun j hj => hp j (by rw [hk1, ← ((drop_drop s hne).keep j hj).1]; exact hj)) hx⟩
set_option maxRecDepth 100000 in
set_option maxHeartbeats 1000000 in
theorem unname_any (h : CB w P lo st qb qo pl tag S room (freeL S) T) (hG : br.Good S room) (hr : room ≤ 65536) (hT : T ≤ 900000) {D I : Nat} {s : ByteArray} (hg : lget s (S.ino D).dir = some (I : Int)) :
    Calls Tryz.prog 85 #[Pq P, Pq (pl D).nd, .string s, .int .i64 (I : Int)] w (fun e w2 => e = .returned (.tuple #[]) ∧ NxF w w2 P lo st qb pl tag (S.drop (D : Int) s (I : Int)) room T) := by
  obtain ⟨hD, hDn, I', hI, i1, i2, _, hl, hn⟩ := hG.1.lead hg
  obtain rfl : I = I' := by omega
  have hne : I ≠ D := fun e => hG.1.own hG.2 (D := D) (s := s) (by rw [hg, e])
  have c5 := (h.ino D hDn.2 (by rw [hD]; decide)).c5d hD
  have HD := Lib.hid (show Calls Tryz.prog 110 #[Pq (pl D).di, .string s] w (fun e w' => e = .returned (getV s (S.ino D).dir) ∧ Nx w w' P lo st qb pl tag (delD S D s) room (freeL S) T) from h.ddel hDn.2 hD (hG.1.sorted D) (hG.1.dirLen D) s)
  have HM := Lib.hid (fun w1 qo1 pl1 tag1 (h1 : CB w1 P lo st qb qo1 pl1 tag1 (delD S D s) room (freeL S) T) hs hp => unname_mid (w := w) (tag := tag) (pl := pl) hG hr hT i1 i2 hne hn hl h1 hs hp)
  have ht := hG.1.twenty I
  generalize (pl I).nd = N at *
  generalize (S.ino I).links = K at *
  generalize (pl D).nd = M at *
  generalize (pl D).di = C at *
  generalize getV s (S.ino D).dir = v at *
  clear h hG hg hD hn hDn hI
  go_enter Tryz.func85, Tryz.ntmps85
  go_wp2_with fail
  refine HD.out.mono ?_
  rintro e w1 ⟨rfl, qo1, pl1, tag1, h1, hs1, hp1⟩
  obtain ⟨a1, a2, a3, a4⟩ := HM.out w1 qo1 pl1 tag1 h1 hs1 hp1
  have HS := Lib.hid a4
  clear a4 h1 hs1 hp1 HM HD c5
  go_wp2_with fail
  refine HS.out.mono ?_
  rintro e w2 ⟨rfl, hx⟩
  go_wp2_with fail
  go_end0
  exact ⟨rfl, hx⟩
end
end Go.Proofs.YtnnaoldpacbagaaGreat.cb
end
