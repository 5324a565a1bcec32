/- Part 16 of what is known of the program's functions and of the document's words: contracts, and the mathematics beneath them. -/
import Derived.Test.YtpmpbmjjlccbbaaGreatProg
import Derived.Test.YtpmpbmjjlccbbaaGreatZ15
set_option linter.unusedVariables false
set_option linter.unusedSimpArgs false
set_option maxRecDepth 100000
set_option maxHeartbeats 8000000
namespace Go.Proofs.YtpmpbmjjlccbbaaGreat.cb
open Go.RowKit
open qu (KN ins QL)
open dn (Du En lget lset ldel getV nerr dotB Sorted RetV serr lsetE)
open bl (AB Bod BodC StoC Only Pq cut cutR wr WR)
open br
theorem settS_less (S : BS) (I : Nat) (dl dh : Int) {x : Ino} (hx : x = { S.ino I with links := (S.ino I).links - dl, holds := (S.ino I).holds - dh }) : settS ⟨upd S.ino I x, S.used⟩ I = S.less (I : Int) dl dh := by
 subst hx
 unfold settS settB BS.less
 simp only [at_nat, upd_same, upd_upd]
 by_cases h : (S.ino I).links - dl = 0 ∧ (S.ino I).holds - dh = 0
 ·rw [if_pos (decide_eq_true h), if_pos h]; rfl
 ·rw [if_neg (by simpa using h), if_neg h]; rfl
theorem settL_free {S : BS} {I : Nat} (h1 : 1 ≤ I) (h2 : I ≤ 200) (hn : (S.ino I).kind ≠ 0) : settL S I (freeL S) = freeL (settS S I) := by
 unfold settL settS
 split
 ·refine freeL_push h1 h2 hn ?_ fun k hk => ?_
  ·show (upd S.ino I Ino.nil I).kind = 0; rw [upd_same]; rfl
  ·show (upd S.ino I Ino.nil k).kind = _; rw [upd_other _ _ hk]
 ·rfl
theorem settT_le (S : BS) (k T : Nat) : settT S k T ≤ T + 1 := by unfold settT; split <;> omega
theorem Good_body {S : BS} {room : Nat} (h : br.Good S room) (k : Nat) : (S.ino k).body.n ≤ S.used ∧ ((S.ino k).kind ≠ 1 → (S.ino k).body.n = 0) := by
 refine ⟨?_, fun hk => by rw [h.1.noBody k hk, abE_n]⟩
 by_cases hk : (S.ino k).kind = 1
 ·have hn := h.1.num (k := k) (by rw [hk]; decide)
  rw [h.1.used]
  exact sumF_le (f := fun k => (S.ino k).body.n) hn.1 hn.2
 ·rw [h.1.noBody k hk, abE_n]; exact Nat.zero_le _
section
variable {w w' : World} {P lo st qb room T : Nat} {qo : Option Nat} {pl : Nat → Pl} {tag : Nat → Nat} {S : BS} {L : List KN}
def NxF (w w' : World) (P lo st qb : Nat) (pl : Nat → Pl) (tag : Nat → Nat) (S' : BS) (room T : Nat) : Prop := ∃ T', T' ≤ T + 1 ∧ Nx w w' P lo st qb pl tag S' room (freeL S') T'
theorem CB.links (h : CB w P lo st qb qo pl tag S room L T) {k : Nat} (hk : k ≤ 200) (hn : (S.ino k).kind ≠ 0) (v : Int) :
  CB (w.setCell ⟨(pl k).nd, 1, none⟩ (.int .i64 v)) P lo st qb qo pl tag ⟨upd S.ino k { S.ino k with links := v }, S.used⟩ room L T ∧ Stp w (w.setCell ⟨(pl k).nd, 1, none⟩ (.int .i64 v)) tag tag := by
 have hi := h.ino k hk hn
 have eo : ∀ i, i ≠ 1 → (w.setCell ⟨(pl k).nd, 1, none⟩ (.int .i64 v)).cell? ⟨(pl k).nd, i, none⟩ = w.cell? ⟨(pl k).nd, i, none⟩ := fun i hi => World.cell?_setCell_other _ _ _ _ (fun e => hi (by injection e with _ e _; exact e.symm))
 exact h.setf hk hn 1 _ ⟨World.cell?_setCell_same' _ _ _ (by rw [hi.c1]; rfl), (eo 2 (by omega)).trans hi.c2, (eo 3 (by omega)).trans hi.c3, (eo 6 (by omega)).trans hi.c6⟩ (by omega) rfl rfl rfl rfl
theorem CB.holds (h : CB w P lo st qb qo pl tag S room L T) {k : Nat} (hk : k ≤ 200) (hn : (S.ino k).kind ≠ 0) (v : Int) :
  CB (w.setCell ⟨(pl k).nd, 2, none⟩ (.int .i64 v)) P lo st qb qo pl tag ⟨upd S.ino k { S.ino k with holds := v }, S.used⟩ room L T ∧ Stp w (w.setCell ⟨(pl k).nd, 2, none⟩ (.int .i64 v)) tag tag := by
 have hi := h.ino k hk hn
 have eo : ∀ i, i ≠ 2 → (w.setCell ⟨(pl k).nd, 2, none⟩ (.int .i64 v)).cell? ⟨(pl k).nd, i, none⟩ = w.cell? ⟨(pl k).nd, i, none⟩ := fun i hi => World.cell?_setCell_other _ _ _ _ (fun e => hi (by injection e with _ e _; exact e.symm))
 exact h.setf hk hn 2 _ ⟨(eo 1 (by omega)).trans hi.c1, World.cell?_setCell_same' _ _ _ (by rw [hi.c2]; rfl), (eo 3 (by omega)).trans hi.c3, (eo 6 (by omega)).trans hi.c6⟩ (by omega) rfl rfl rfl rfl
theorem CB.parent (h : CB w P lo st qb qo pl tag S room L T) {k : Nat} (hk : k ≤ 200) (hn : (S.ino k).kind ≠ 0) (v : Int) :
  CB (w.setCell ⟨(pl k).nd, 6, none⟩ (.int .i64 v)) P lo st qb qo pl tag ⟨upd S.ino k { S.ino k with parent := v }, S.used⟩ room L T ∧ Stp w (w.setCell ⟨(pl k).nd, 6, none⟩ (.int .i64 v)) tag tag := by
 have hi := h.ino k hk hn
 have eo : ∀ i, i ≠ 6 → (w.setCell ⟨(pl k).nd, 6, none⟩ (.int .i64 v)).cell? ⟨(pl k).nd, i, none⟩ = w.cell? ⟨(pl k).nd, i, none⟩ := fun i hi => World.cell?_setCell_other _ _ _ _ (fun e => hi (by injection e with _ e _; exact e.symm))
 exact h.setf hk hn 6 _ ⟨(eo 1 (by omega)).trans hi.c1, (eo 2 (by omega)).trans hi.c2, (eo 3 (by omega)).trans hi.c3, World.cell?_setCell_same' _ _ _ (by rw [hi.c6]; rfl)⟩ (by omega) rfl rfl rfl rfl
theorem CB.slot (h : CB w P lo st qb qo pl tag S room L T) {k : Nat} (hk : k ≤ 200) (hn : (S.ino k).kind ≠ 0) : w.cell? ⟨P, 1 + k, none⟩ = some (Pq (pl k).nd) := (h.ci k hk).trans (congrArg some (ptV_yes hn))
def delD (S : BS) (D : Nat) (s : ByteArray) : BS := ⟨upd S.ino D { S.ino D with dir := ldel s (S.ino D).dir }, S.used⟩
def lnkI (S : BS) (I : Nat) (v : Int) : BS := ⟨upd S.ino I { S.ino I with links := v }, S.used⟩
theorem delD_other {S : BS} {D k : Nat} {s : ByteArray} (h : k ≠ D) : (delD S D s).ino k = S.ino k := upd_other _ _ h
theorem delD_kind (S : BS) (D : Nat) (s : ByteArray) (k : Nat) : ((delD S D s).ino k).kind = (S.ino k).kind := by
 show (upd _ _ _ k).kind = _
 by_cases e : k = D
 ·subst e; rw [upd_same]
 ·rw [upd_other _ _ e]
theorem lnkI_same (S : BS) (I : Nat) (v : Int) : (lnkI S I v).ino I = { S.ino I with links := v } := upd_same _ _ _
theorem lnkI_kind (S : BS) (I : Nat) (v : Int) (k : Nat) : ((lnkI S I v).ino k).kind = (S.ino k).kind := by
 show (upd _ _ _ k).kind = _
 by_cases e : k = I
 ·subst e; rw [upd_same]
 ·rw [upd_other _ _ e]
theorem putDir_delD (S : BS) (D : Nat) (s : ByteArray) : S.putDir (D : Int) (ldel s (S.at (D : Int)).dir) = delD S D s := by unfold BS.putDir BS.put delD; rw [at_nat, Int.toNat_natCast]
theorem drop_eq {S : BS} {D I : Nat} (s : ByteArray) (hne : I ≠ D) : settS (lnkI (delD S D s) I ((S.ino I).links - 1)) I = S.drop (D : Int) s (I : Int) := by
 unfold BS.drop
 rw [putDir_delD]
 exact settS_less (delD S D s) I 1 0 (by rw [delD_other hne, Int.sub_zero])
theorem unname_mid {w1 : World} {qo1 : Option Nat} {pl1 : Nat → Pl} {tag1 : Nat → Nat} {D I : Nat} {s : ByteArray} (hG : br.Good S room) (hr : room ≤ 65536) (hT : T ≤ 900000) (i1 : 1 ≤ I) (i2 : I ≤ 200) (hne : I ≠ D) (hn : (S.ino I).kind ≠ 0) (hl : 1 ≤ (S.ino I).links)
  (h1 : CB w1 P lo st qb qo1 pl1 tag1 (delD S D s) room (freeL S) T) (hs : Stp w w1 tag tag1) (hp : ∀ j, ((delD S D s).ino j).kind ≠ 0 → (pl1 j).nd = (pl j).nd) :
  w1.cell? ⟨P, 1 + I, none⟩ = some (Pq (pl I).nd) ∧ w1.cell? ⟨(pl I).nd, 1, none⟩ = some (.int .i64 (S.ino I).links) ∧ w1.frozen? ⟨(pl I).nd, 1, none⟩ = false ∧
  Calls Tryz.prog 166 #[Pq P, .int .i64 (I : Int)] (w1.setCell ⟨(pl I).nd, 1, none⟩ (.int .i64 ((S.ino I).links - 1))) (fun e w2 => e = .returned (.tuple #[]) ∧ NxF w w2 P lo st qb pl tag (S.drop (D : Int) s (I : Int)) room T) := by
 have hk1 := fun j => delD_kind S D s j
 have hn1 : ((delD S D s).ino I).kind ≠ 0 := by rw [hk1]; exact hn
 have hp' := hp I hn1
 have hi := h1.ino I i2 hn1
 have hb := Good_body hG I
 have hu : S.used ≤ 65536 := Nat.le_trans hG.1.room hr
 obtain ⟨h2, hs2⟩ : CB (w1.setCell ⟨(pl1 I).nd, 1, none⟩ (.int .i64 ((S.ino I).links - 1))) P lo st qb qo1 pl1 tag1 (lnkI (delD S D s) I ((S.ino I).links - 1)) room (freeL S) T ∧ Stp w1 (w1.setCell ⟨(pl1 I).nd, 1, none⟩ (.int .i64 ((S.ino I).links - 1))) tag1 tag1 := h1.links i2 hn1 _
 have ec1 := hi.c1
 have ef1 := hi.f 1
 have es := h1.slot i2 hn1
 rw [delD_other hne] at ec1
 rw [hp'] at ec1 ef1 es h2 hs2
 refine ⟨es, ec1, ef1, ?_⟩
 have eS := drop_eq (S := S) s hne
 have e2 := lnkI_same (delD S D s) I ((S.ino I).links - 1)
 rw [delD_other hne] at e2
 have hk2 := fun j => (lnkI_kind (delD S D s) I ((S.ino I).links - 1) j).trans (hk1 j)
 have eu : (lnkI (delD S D s) I ((S.ino I).links - 1)).used = S.used := rfl
 generalize lnkI (delD S D s) I ((S.ino I).links - 1) = S2 at *
 have hx := settle_any h2 (k := I) i2 (by rw [hk2]; exact hn) (by rw [e2]; dsimp only; omega) (by rw [e2]; exact (hG.1.nums I).2) (by rw [e2]; exact hb.2) (by rw [e2, eu]; exact hb.1) (by rw [eu]; exact hu) hT
 rw [← freeL_same hk2, settL_free i1 i2 (by rw [hk2]; exact hn), eS] at hx
 exact hx.mono fun e w2 ⟨he, hx⟩ => ⟨he, settT S2 I T, settT_le _ _ _, Nx.trans (hs.trans hs2) (fun j hj => hp j (by rw [hk1, ← ((drop_drop s hne).keep j hj).1]; exact hj)) hx⟩
theorem unname_any (h : CB w P lo st qb qo pl tag S room (freeL S) T) (hG : br.Good S room) (hr : room ≤ 65536) (hT : T ≤ 900000) {D I : Nat} {s : ByteArray} (hg : lget s (S.ino D).dir = some (I : Int)) :
  Calls Tryz.prog 176 #[Pq P, Pq (pl D).nd, .string s, .int .i64 (I : Int)] w (fun e w2 => e = .returned (.tuple #[]) ∧ NxF w w2 P lo st qb pl tag (S.drop (D : Int) s (I : Int)) room T) := by
 obtain ⟨hD, hDn, I', hI, i1, i2, _, hl, hn⟩ := hG.1.lead hg
 obtain rfl : I = I' := by omega
 have hne : I ≠ D := fun e => hG.1.own hG.2 (D := D) (s := s) (by rw [hg, e])
 have c5 := (h.ino D hDn.2 (by rw [hD]; decide)).c5d hD
 have HD := Lib.hid (show Calls Tryz.prog 184 #[Pq (pl D).di, .string s] w (fun e w' => e = .returned (getV s (S.ino D).dir) ∧ Nx w w' P lo st qb pl tag (delD S D s) room (freeL S) T) from h.ddel hDn.2 hD (hG.1.sorted D) (hG.1.dirLen D) s)
 have HM := Lib.hid (fun w1 qo1 pl1 tag1 (h1 : CB w1 P lo st qb qo1 pl1 tag1 (delD S D s) room (freeL S) T) hs hp => unname_mid (w := w) (tag := tag) (pl := pl) hG hr hT i1 i2 hne hn hl h1 hs hp)
 have ht := hG.1.twenty I
 generalize (pl I).nd = N at *
 generalize (S.ino I).links = K at *
 generalize (pl D).nd = M at *
 generalize (pl D).di = C at *
 generalize getV s (S.ino D).dir = v at *
 clear h hG hg hD hn hDn hI
 go_enter Tryz.func176, Tryz.ntmps176
 go_wp2_with fail
 refine HD.out.mono ?_
 rintro e w1 ⟨rfl, qo1, pl1, tag1, h1, hs1, hp1⟩
 obtain ⟨a1, a2, a3, a4⟩ := HM.out w1 qo1 pl1 tag1 h1 hs1 hp1
 have HS := Lib.hid a4
 clear a4 h1 hs1 hp1 HM HD c5
 go_wp2_with fail
 refine HS.out.mono ?_
 rintro e w2 ⟨rfl, hx⟩
 go_wp2_with fail
 go_end0
 exact ⟨rfl, hx⟩
end
section
variable {w w' : World} {P lo st qb room T : Nat} {qo : Option Nat} {pl : Nat → Pl} {tag : Nat → Nat} {S : BS} {L : List KN}
theorem CB.nxf (h : CB w P lo st qb qo pl tag S room (freeL S) T) (hb : Below w.heap.size w w') : NxF w w' P lo st qb pl tag S room T := ⟨T, Nat.le_succ T, Nx.of (h.below hb) (Stp.below hb)⟩
theorem NxF.past {w0 : World} {S' : BS} (hb : Below w0.heap.size w0 w) (h : NxF w w' P lo st qb pl tag S' room T) : NxF w0 w' P lo st qb pl tag S' room T := by
 obtain ⟨T', h1, h2⟩ := h
 exact ⟨T', h1, Nx.trans (Stp.below hb) (fun _ _ => rfl) h2⟩
def RetF (w : World) (P lo st qb : Nat) (pl : Nat → Pl) (tag : Nat → Nat) (v : Value) (S' : BS) (room T : Nat) (e : Ending) (w' : World) : Prop := e = .returned v ∧ NxF w w' P lo st qb pl tag S' room T
theorem get_lead {S : BS} {D : Nat} (h1 : S.dirE (D : Int) true = 0) (s : ByteArray) : (lget s (S.ino D).dir = none ∧ S.get (D : Int) s = (0, 2)) ∨ ∃ v, lget s (S.ino D).dir = some v ∧ S.get (D : Int) s = (v, 0) := by
 rw [get_eq (dirE_less h1)]
 cases lget s (S.ino D).dir with
 | none => exact .inl ⟨rfl, rfl⟩
 | some v => exact .inr ⟨v, rfl, rfl⟩
theorem unlink_any (h : CB w P lo st qb qo pl tag S room (freeL S) T) (hG : br.Good S room) (hr : room ≤ 65536) (hT : T ≤ 900000) (d : Int) (s : ByteArray) :
  Calls Tryz.prog 131 #[Pq P, .int .i64 d, .string s] w (RetF w P lo st qb pl tag (.int .i64 (S.unlink d s).1) (S.unlink d s).2 room T) := by
 have HN := Lib.hid (named_any h hG d s)
 unfold RetW at HN
 unfold RetF
 have HF := Lib.hid (fun w2 hb => h.nxf (w' := w2) hb)
 by_cases h1 : S.dirE d true = 0
 ·obtain ⟨D, rfl, d1, d2, hD, hl⟩ := dirE_ok h1
  rcases get_lead h1 s with ⟨g1, g2⟩ | ⟨v, g1, g2⟩
  ·have hv := Lib.hid (show S.unlink (D : Int) s = (2, S) by unfold BS.unlink; rw [if_neg (by omega), if_pos (by rw [g2]; decide), g2])
   have hn : namV S pl (D : Int) s = .tuple #[Pq (pl D).nd, .int .i64 0, .int .i64 2] := by unfold namV; rw [if_neg (by omega), g2]; rfl
   rw [hn] at HN
   rw [hv.out]
   generalize (pl D).nd = N at *
   clear h hG g1 g2 hn hv h1
   go_enter Tryz.func131, Tryz.ntmps131
   go_wp2_with fail
   refine HN.out.mono ?_
   rintro e w2 ⟨rfl, hb⟩
   go_wp2_with fail
   go_ret
   exact ⟨rfl, HF.out _ hb⟩
  ·have hn : namV S pl (D : Int) s = .tuple #[Pq (pl D).nd, .int .i64 v, .int .i64 0] := by unfold namV; rw [if_neg (by omega), g2]; rfl
   rw [hn] at HN
   obtain ⟨_, _, I, rfl, i1, i2, _, hli, hni⟩ := hG.1.lead g1
   have HC := Lib.hid (fun w2 (hb : Below w.heap.size w w2) => (h.below hb).slot i2 hni)
   have HK := Lib.hid (fun w2 (hb : Below w.heap.size w w2) => ((h.below hb).ino I i2 hni).c0)
   by_cases hk : (S.ino I).kind = 2
   ·have hv := Lib.hid (show S.unlink (D : Int) s = (21, S) by unfold BS.unlink; rw [if_neg (by omega), g2, if_neg (by simp), if_pos (by rw [at_nat]; exact hk)])
    rw [hv.out]
    rw [hk] at HK
    generalize (pl D).nd = N at *
    generalize (pl I).nd = M at *
    clear h hG g1 g2 hn hv h1
    go_enter Tryz.func131, Tryz.ntmps131
    go_wp2_with fail
    refine HN.out.mono ?_
    rintro e w2 ⟨rfl, hb⟩
    have c0 := HC.out _ hb
    have c1 := HK.out _ hb
    clear HC HK
    go_wp2_with fail
    go_ret
    exact ⟨rfl, HF.out _ hb⟩
   ·have hv := Lib.hid (show S.unlink (D : Int) s = (0, S.drop (D : Int) s (I : Int)) by unfold BS.unlink; rw [if_neg (by omega), g2, if_neg (by simp), if_neg (by rw [at_nat]; exact hk)])
    rw [hv.out]
    have HU := Lib.hid (fun w2 (hb : Below w.heap.size w w2) => unname_any (h.below hb) hG hr hT g1)
    generalize (pl D).nd = N at *
    generalize (pl I).nd = M at *
    generalize (S.ino I).kind = K at *
    have hk2 : (K == 2) = false := by simpa using hk
    clear h hG g1 g2 hn hv h1 HF
    go_enter Tryz.func131, Tryz.ntmps131
    go_wp2_with fail
    refine HN.out.mono ?_
    rintro e w2 ⟨rfl, hb⟩
    have c0 := HC.out _ hb
    have c1 := HK.out _ hb
    have HU2 := Lib.hid (HU.out _ hb)
    have HB := Lib.hid hb
    clear HC HK HU hb
    go_wp2_with fail
    refine HU2.out.mono ?_
    rintro e w3 ⟨rfl, hx⟩
    go_wp2_with fail
    go_ret
    exact ⟨rfl, hx.past HB.out⟩
 ·have hv := Lib.hid (show S.unlink d s = (S.dirE d true, S) by unfold BS.unlink; rw [if_pos h1])
  have hn : namV S pl d s = .tuple #[.pointer none, .int .i64 0, .int .i64 (S.dirE d true)] := by unfold namV; rw [if_pos h1]
  rw [hn] at HN
  rw [hv.out]
  generalize S.dirE d true = x at *
  have hx : (x != 0) = true := by simpa using h1
  clear h hG hn hv h1
  go_enter Tryz.func131, Tryz.ntmps131
  go_wp2_with fail
  refine HN.out.mono ?_
  rintro e w2 ⟨rfl, hb⟩
  go_wp2_with fail
  go_ret
  exact ⟨rfl, HF.out _ hb⟩
theorem rmdir_any (h : CB w P lo st qb qo pl tag S room (freeL S) T) (hG : br.Good S room) (hr : room ≤ 65536) (hT : T ≤ 900000) (d : Int) (s : ByteArray) :
  Calls Tryz.prog 129 #[Pq P, .int .i64 d, .string s] w (RetF w P lo st qb pl tag (.int .i64 (S.rmdir d s).1) (S.rmdir d s).2 room T) := by
 have HN := Lib.hid (named_any h hG d s)
 unfold RetW at HN
 unfold RetF
 have HF := Lib.hid (fun w2 hb => h.nxf (w' := w2) hb)
 by_cases h1 : S.dirE d true = 0
 ·obtain ⟨D, rfl, d1, d2, hD, hl⟩ := dirE_ok h1
  rcases get_lead h1 s with ⟨g1, g2⟩ | ⟨v, g1, g2⟩
  ·have hv := Lib.hid (show S.rmdir (D : Int) s = (2, S) by unfold BS.rmdir; rw [if_neg (by omega), if_pos (by rw [g2]; decide), g2])
   have hn : namV S pl (D : Int) s = .tuple #[Pq (pl D).nd, .int .i64 0, .int .i64 2] := by unfold namV; rw [if_neg (by omega), g2]; rfl
   rw [hn] at HN
   rw [hv.out]
   generalize (pl D).nd = N at *
   clear h hG g1 g2 hn hv h1
   go_enter Tryz.func129, Tryz.ntmps129
   go_wp2_with fail
   refine HN.out.mono ?_
   rintro e w2 ⟨rfl, hb⟩
   go_wp2_with fail
   go_ret
   exact ⟨rfl, HF.out _ hb⟩
  ·have hn : namV S pl (D : Int) s = .tuple #[Pq (pl D).nd, .int .i64 v, .int .i64 0] := by unfold namV; rw [if_neg (by omega), g2]; rfl
   rw [hn] at HN
   obtain ⟨_, _, I, rfl, i1, i2, _, hli, hni⟩ := hG.1.lead g1
   have HC := Lib.hid (fun w2 (hb : Below w.heap.size w w2) => (h.below hb).slot i2 hni)
   have HK := Lib.hid (fun w2 (hb : Below w.heap.size w w2) => ((h.below hb).ino I i2 hni).c0)
   by_cases hk : (S.ino I).kind = 2
   ·have HL := Lib.hid (fun w2 (hb : Below w.heap.size w w2) => (h.below hb).len hG hk)
    have H5 := Lib.hid (fun w2 (hb : Below w.heap.size w w2) => ((h.below hb).ino I i2 hni).c5d hk)
    rw [hk] at HK
    by_cases he : (S.ino I).dir = []
    ·have hv := Lib.hid (show S.rmdir (D : Int) s = (0, S.drop (D : Int) s (I : Int)) by unfold BS.rmdir; rw [if_neg (by omega), g2, if_neg (by simp), if_neg (by rw [at_nat]; simpa using hk), if_neg (by rw [at_nat]; simpa using he)])
     rw [hv.out]
     have HU := Lib.hid (fun w2 (hb : Below w.heap.size w w2) => unname_any (h.below hb) hG hr hT g1)
     rw [he] at HL
     generalize (pl D).nd = N at *
     generalize (pl I).nd = M at *
     generalize (pl I).di = C at *
     clear h hG g1 g2 hn hv h1 HF
     go_enter Tryz.func129, Tryz.ntmps129
     go_wp2_with fail
     refine HN.out.mono ?_
     rintro e w2 ⟨rfl, hb⟩
     have c0 := HC.out _ hb
     have c1 := HK.out _ hb
     have c5 := H5.out _ hb
     have HL2 := Lib.hid (HL.out _ hb)
     have HU2 := Lib.hid (HU.out _ hb)
     have HB := Lib.hid hb
     clear HC HK HU hb H5 HL
     go_wp2_with fail
     refine HL2.out.mono ?_
     rintro e w3 ⟨rfl, rfl⟩
     go_wp2_with fail
     refine HU2.out.mono ?_
     rintro e w3 ⟨rfl, hx⟩
     go_wp2_with fail
     go_ret
     exact ⟨rfl, hx.past HB.out⟩
    ·have hv := Lib.hid (show S.rmdir (D : Int) s = (39, S) by unfold BS.rmdir; rw [if_neg (by omega), g2, if_neg (by simp), if_neg (by rw [at_nat]; simpa using hk), if_pos (by rw [at_nat]; exact he)])
     rw [hv.out]
     have hlen : 0 < (S.ino I).dir.length := List.length_pos_iff.2 he
     generalize (pl D).nd = N at *
     generalize (pl I).nd = M at *
     generalize (pl I).di = C at *
     generalize (S.ino I).dir.length = K at *
     clear h hG g1 g2 hn hv h1
     go_enter Tryz.func129, Tryz.ntmps129
     go_wp2_with fail
     refine HN.out.mono ?_
     rintro e w2 ⟨rfl, hb⟩
     have c0 := HC.out _ hb
     have c1 := HK.out _ hb
     have c5 := H5.out _ hb
     have HL2 := Lib.hid (HL.out _ hb)
     clear HC HK H5 HL
     go_wp2_with fail
     refine HL2.out.mono ?_
     rintro e w3 ⟨rfl, rfl⟩
     go_wp2_with fail
     go_ret
     exact ⟨rfl, HF.out _ hb⟩
   ·have hv := Lib.hid (show S.rmdir (D : Int) s = (20, S) by unfold BS.rmdir; rw [if_neg (by omega), g2, if_neg (by simp), if_pos (by rw [at_nat]; exact hk)])
    rw [hv.out]
    generalize (pl D).nd = N at *
    generalize (pl I).nd = M at *
    generalize (S.ino I).kind = K at *
    have hk2 : (K != 2) = true := by simpa using hk
    clear h hG g1 g2 hn hv h1
    go_enter Tryz.func129, Tryz.ntmps129
    go_wp2_with fail
    refine HN.out.mono ?_
    rintro e w2 ⟨rfl, hb⟩
    have c0 := HC.out _ hb
    have c1 := HK.out _ hb
    clear HC HK
    go_wp2_with fail
    go_ret
    exact ⟨rfl, HF.out _ hb⟩
 ·have hv := Lib.hid (show S.rmdir d s = (S.dirE d true, S) by unfold BS.rmdir; rw [if_pos h1])
  have hn : namV S pl d s = .tuple #[.pointer none, .int .i64 0, .int .i64 (S.dirE d true)] := by unfold namV; rw [if_pos h1]
  rw [hn] at HN
  rw [hv.out]
  generalize S.dirE d true = x at *
  have hx : (x != 0) = true := by simpa using h1
  clear h hG hn hv h1
  go_enter Tryz.func129, Tryz.ntmps129
  go_wp2_with fail
  refine HN.out.mono ?_
  rintro e w2 ⟨rfl, hb⟩
  go_wp2_with fail
  go_ret
  exact ⟨rfl, HF.out _ hb⟩
end
def newI (k par : Int) (t : ByteArray) : Ino := ⟨k, 1, 0, 0, if k = 2 then par else 0, abE, [], t⟩
def BlankE (w : World) (st lo : Nat) (x : Ino) (e : Ending) (w' : World) : Prop :=
 ∃ p : Pl, e = .returned (Pq p.nd) ∧ Below w.heap.size w w' ∧ InoC w' st lo p x ∧ w.heap.size ≤ p.nd ∧ (x.kind = 1 → w.heap.size ≤ p.bo ∧ w.heap.size ≤ p.bm ∧ p.bo ≠ p.nd ∧ p.bm ≠ p.nd ∧ p.bo ≠ p.bm) ∧ (x.kind = 2 → w.heap.size ≤ p.di ∧ p.di ≠ p.nd ∧ p.dr = none)
theorem newBody (st : Nat) (w : World) : Calls Tryz.prog 57 #[Pq st] w (fun e w' => ∃ B M, e = .returned (Pq B) ∧ Bod w' st B M abE ∧ Below w.heap.size w w' ∧ w.heap.size ≤ B ∧ w.heap.size ≤ M ∧ B ≠ M) := by
 refine (bl.body_any st w).mono ?_
 rintro e w' ⟨rfl, rfl⟩
 have hb1 := bl.below_one w (.map #[] 0)
 have hb2 := bl.below_one (w.alloc (.map #[] 0)) (.cells #[Pq st, .int .i64 0, .map (some w.heap.size)] 175)
 have hs1 : (w.alloc (.map #[] 0)).heap.size = w.heap.size + 1 := by simp
 refine ⟨w.heap.size + 1, w.heap.size, rfl, bl.Bod.of (N := 0) ⟨?_, ?_, ?_, ?_⟩ ((bl.MapAt.made w).of_block (hb2.block _ (by simp))) ⟨Nat.zero_le _, (fun _ h => nomatch h), fun _ _ => rfl⟩, dn.below_step hb1 hb2, by omega, by omega, by omega⟩
 all_goals rw [← hs1]
 all_goals simp
 rfl
abbrev box8 (k : Int) (t : ByteArray) : Obj := .cells #[.int .i64 k, .int .i64 1, .int .i64 0, .int .i64 0, .pointer none, .pointer none, .int .i64 0, .string t] 130
theorem box8_cells (w : World) (k : Int) (t : ByteArray) : ((w.alloc (box8 k t)).cell? ⟨w.heap.size, 0, none⟩ = some (.int .i64 k) ∧ (w.alloc (box8 k t)).cell? ⟨w.heap.size, 1, none⟩ = some (.int .i64 1) ∧ (w.alloc (box8 k t)).cell? ⟨w.heap.size, 2, none⟩ = some (.int .i64 0) ∧ (w.alloc (box8 k t)).cell? ⟨w.heap.size, 3, none⟩ = some (.int .i64 0) ∧
  (w.alloc (box8 k t)).cell? ⟨w.heap.size, 4, none⟩ = some (.pointer none) ∧ (w.alloc (box8 k t)).cell? ⟨w.heap.size, 5, none⟩ = some (.pointer none) ∧ (w.alloc (box8 k t)).cell? ⟨w.heap.size, 6, none⟩ = some (.int .i64 0) ∧ (w.alloc (box8 k t)).cell? ⟨w.heap.size, 7, none⟩ = some (.string t)) ∧ ∀ j, (w.alloc (box8 k t)).frozen? ⟨w.heap.size, j, none⟩ = false := by
 simp
theorem blank_any (P st lo : Nat) (w : World) (hP : w.cell? ⟨P, 0, none⟩ = some (Pq st)) (hPl : P < w.heap.size) (hlo : lo ≤ w.heap.size) (k par : Int) (t : ByteArray) : Calls Tryz.prog 27 #[Pq P, .int .i64 k, .int .i64 par, .string t] w (BlankE w st lo (newI k par t)) := by
 have h8 := box8_cells w k t
 have HB := Lib.hid (dn.below_alloc w (box8 k t))
 have hz : (w.alloc (box8 k t)).heap.size = w.heap.size + 1 := World.size_alloc _ _
 by_cases h1 : k = 1
 ·subst h1
  have hp := (HB.out.cell (p := ⟨P, 0, none⟩) hPl).trans hP
  have HC := Lib.hid (newBody st (w.alloc (box8 1 t)))
  have HE := Lib.hid (show ∀ w2 B M, Bod w2 st B M abE → Below (w.alloc (box8 1 t)).heap.size (w.alloc (box8 1 t)) w2 → (w.alloc (box8 1 t)).heap.size ≤ B → (w.alloc (box8 1 t)).heap.size ≤ M → B ≠ M →
    w2.cell? ⟨w.heap.size, 4, none⟩ = some (.pointer none) ∧ w2.frozen? ⟨w.heap.size, 4, none⟩ = false ∧ BlankE w st lo (newI 1 par t) (.returned (Pq w.heap.size)) (w2.setCell ⟨w.heap.size, 4, none⟩ (Pq B)) from fun w2 B M hb hw hB hM hBM => by
   rw [hz] at hw hB hM
   have c : ∀ j, w2.cell? ⟨w.heap.size, j, none⟩ = (w.alloc (box8 1 t)).cell? ⟨w.heap.size, j, none⟩ := fun j => hw.cell (p := ⟨w.heap.size, j, none⟩) (by show w.heap.size < _; omega)
   have f : ∀ j, w2.frozen? ⟨w.heap.size, j, none⟩ = false := fun j => (hw.frozen (p := ⟨w.heap.size, j, none⟩) (by show w.heap.size < _; omega)).trans (h8.2 j)
   have eo : ∀ i, i ≠ 4 → (w2.setCell ⟨w.heap.size, 4, none⟩ (Pq B)).cell? ⟨w.heap.size, i, none⟩ = (w.alloc (box8 1 t)).cell? ⟨w.heap.size, i, none⟩ := fun i hi => (World.cell?_setCell_other _ _ _ _ (fun e => hi (by injection e with _ e _; exact e.symm))).trans (c i)
   refine ⟨(c 4).trans h8.1.2.2.2.2.1, f 4, ⟨w.heap.size, B, M, 0, none, 0⟩, rfl, (HB.out.trans (hw.mono (Nat.le_succ _))).setCell (Nat.le_refl _) _, ?_, Nat.le_refl _, fun _ => ⟨by show w.heap.size ≤ B; omega, by show w.heap.size ≤ M; omega, by show B ≠ w.heap.size; omega, by show M ≠ w.heap.size; omega, hBM⟩, fun e => by cases e⟩
   refine ⟨(eo 0 (by omega)).trans h8.1.1, (eo 1 (by omega)).trans h8.1.2.1, (eo 2 (by omega)).trans h8.1.2.2.1, (eo 3 (by omega)).trans h8.1.2.2.2.1, World.cell?_setCell_same' _ _ _ (by rw [c 4, h8.1.2.2.2.2.1]; rfl), (eo 5 (by omega)).trans h8.1.2.2.2.2.2.1, (eo 6 (by omega)).trans h8.1.2.2.2.2.2.2.1, (eo 7 (by omega)).trans h8.1.2.2.2.2.2.2.2, fun j => by rw [World.frozen?_setCell]; exact f j, fun _ => ?_, fun e => by cases e⟩
   exact hb.keep (Below.heap_setCell _ _ _ _ (by show B ≠ w.heap.size; omega)) (Below.heap_setCell _ _ _ _ (by show M ≠ w.heap.size; omega)))
  generalize newI 1 par t = x at *
  clear h8 hP hPl hlo
  go_enter Tryz.func27, Tryz.ntmps27
  go_wp2_with fail
  refine HC.out.mono ?_
  rintro e w2 ⟨B, M, rfl, a1, a2, a3, a4, a5⟩
  obtain ⟨q1, q2, q3⟩ := HE.out w2 B M a1 a2 a3 a4 a5
  clear a1 a2 a3 a4 a5 hp
  go_wp2_with fail
  go_ret
  exact q3
 ·by_cases h2 : k = 2
  ·subst h2
   have HC := Lib.hid (dn.new_any (w.alloc (box8 2 t)) lo (by rw [hz]; omega))
   have HE := Lib.hid (show ∀ w2, Du w2 (w.alloc (box8 2 t)).heap.size lo none 0 [] → Below (w.alloc (box8 2 t)).heap.size (w.alloc (box8 2 t)) w2 →
     w2.cell? ⟨w.heap.size, 5, none⟩ = some (.pointer none) ∧ w2.cell? ⟨w.heap.size, 6, none⟩ = some (.int .i64 0) ∧ w2.frozen? ⟨w.heap.size, 5, none⟩ = false ∧ w2.frozen? ⟨w.heap.size, 6, none⟩ = false ∧
     BlankE w st lo (newI 2 par t) (.returned (Pq w.heap.size)) ((w2.setCell ⟨w.heap.size, 5, none⟩ (Pq (w.alloc (box8 2 t)).heap.size)).setCell ⟨w.heap.size, 6, none⟩ (.int .i64 par)) from fun w2 hb hw => by
    rw [hz] at hw hb ⊢
    have c : ∀ j, w2.cell? ⟨w.heap.size, j, none⟩ = (w.alloc (box8 2 t)).cell? ⟨w.heap.size, j, none⟩ := fun j => hw.cell (p := ⟨w.heap.size, j, none⟩) (by show w.heap.size < _; omega)
    have f : ∀ j, w2.frozen? ⟨w.heap.size, j, none⟩ = false := fun j => (hw.frozen (p := ⟨w.heap.size, j, none⟩) (by show w.heap.size < _; omega)).trans (h8.2 j)
    have e1 : ∀ i, i ≠ 5 → (w2.setCell ⟨w.heap.size, 5, none⟩ (Pq (w.heap.size + 1))).cell? ⟨w.heap.size, i, none⟩ = (w.alloc (box8 2 t)).cell? ⟨w.heap.size, i, none⟩ := fun i hi => (World.cell?_setCell_other _ _ _ _ (fun e => hi (by injection e with _ e _; exact e.symm))).trans (c i)
    have e5 : (w2.setCell ⟨w.heap.size, 5, none⟩ (Pq (w.heap.size + 1))).cell? ⟨w.heap.size, 5, none⟩ = some (Pq (w.heap.size + 1)) := World.cell?_setCell_same' _ _ _ (by rw [c 5, h8.1.2.2.2.2.2.1]; rfl)
    have e6 := (e1 6 (by omega)).trans h8.1.2.2.2.2.2.2.1
    generalize hw3 : w2.setCell ⟨w.heap.size, 5, none⟩ (Pq (w.heap.size + 1)) = w3 at *
    have eo : ∀ i, i ≠ 6 → (w3.setCell ⟨w.heap.size, 6, none⟩ (.int .i64 par)).cell? ⟨w.heap.size, i, none⟩ = w3.cell? ⟨w.heap.size, i, none⟩ := fun i hi => World.cell?_setCell_other _ _ _ _ (fun e => hi (by injection e with _ e _; exact e.symm))
    have hb3 : Below w.heap.size w w3 := by rw [← hw3]; exact (HB.out.trans (hw.mono (Nat.le_succ _))).setCell (Nat.le_refl _) _
    refine ⟨(c 5).trans h8.1.2.2.2.2.2.1, (c 6).trans h8.1.2.2.2.2.2.2.1, f 5, f 6, ⟨w.heap.size, 0, 0, w.heap.size + 1, none, 0⟩, rfl, hb3.setCell (Nat.le_refl _) _, ?_, Nat.le_refl _, fun e => (by cases e), fun _ => ⟨by show w.heap.size ≤ w.heap.size + 1; omega, by show w.heap.size + 1 ≠ w.heap.size; omega, rfl⟩⟩
    refine ⟨(eo 0 (by omega)).trans ((e1 0 (by omega)).trans h8.1.1), (eo 1 (by omega)).trans ((e1 1 (by omega)).trans h8.1.2.1), (eo 2 (by omega)).trans ((e1 2 (by omega)).trans h8.1.2.2.1), (eo 3 (by omega)).trans ((e1 3 (by omega)).trans h8.1.2.2.2.1), (eo 4 (by omega)).trans ((e1 4 (by omega)).trans h8.1.2.2.2.2.1), (eo 5 (by omega)).trans e5,
     World.cell?_setCell_same' _ _ _ (by rw [e6]; rfl), (eo 7 (by omega)).trans ((e1 7 (by omega)).trans h8.1.2.2.2.2.2.2.2), fun j => by rw [World.frozen?_setCell, ← hw3, World.frozen?_setCell]; exact f j, fun e => (by cases e), fun _ => ?_⟩
    exact hb.of_blocks ((Below.heap_setCell _ _ _ _ (by show w.heap.size + 1 ≠ w.heap.size; omega)).trans (by rw [← hw3]; exact Below.heap_setCell _ _ _ _ (by show w.heap.size + 1 ≠ w.heap.size; omega))) (fun G e => by cases e))
   generalize newI 2 par t = x at *
   clear h8 hP hPl hlo
   go_enter Tryz.func27, Tryz.ntmps27
   go_wp2_with fail
   refine HC.out.mono ?_
   rintro e w2 ⟨rfl, a1, a2⟩
   obtain ⟨q1, q2, q3, q4, q5⟩ := HE.out w2 a1 a2
   clear a1 a2
   go_wp2_with fail
   go_ret
   rw [hz] at q5
   exact q5
  ·have HE := Lib.hid (show BlankE w st lo (newI k par t) (.returned (Pq w.heap.size)) (w.alloc (box8 k t)) from by
    have hx : newI k par t = ⟨k, 1, 0, 0, 0, abE, [], t⟩ := by unfold newI; rw [if_neg h2]
    rw [hx]
    refine ⟨⟨w.heap.size, 0, 0, 0, none, 0⟩, rfl, HB.out, ⟨h8.1.1, h8.1.2.1, h8.1.2.2.1, h8.1.2.2.2.1, ?_, ?_, h8.1.2.2.2.2.2.2.1, h8.1.2.2.2.2.2.2.2, h8.2, fun e => absurd e h1, fun e => absurd e h2⟩, Nat.le_refl _, fun e => absurd e h1, fun e => absurd e h2⟩
    ·rw [h8.1.2.2.2.2.1]; unfold bpV; rw [if_neg h1]
    ·rw [h8.1.2.2.2.2.2.1]; unfold dpV; rw [if_neg h2])
   generalize newI k par t = x at *
   have q1 : (k == 1) = false := by simpa using h1
   have q2 : (k == 2) = false := by simpa using h2
   clear h8 hP hPl hlo h1 h2
   go_enter Tryz.func27, Tryz.ntmps27
   go_wp2_with fail
   go_ret
   exact HE.out
end Go.Proofs.YtpmpbmjjlccbbaaGreat.cb
