/- Part 18 of what is known of the program's functions and of the document's words: contracts, and the mathematics beneath them. -/
import Derived.Test.YtpmpbmjjlccbbaaGreatProg
import Derived.Test.YtpmpbmjjlccbbaaGreatZ17
import Derived.Deep.LoopGhost
set_option linter.unusedVariables false
set_option linter.unusedSimpArgs false
set_option maxRecDepth 100000
set_option maxHeartbeats 8000000
namespace Go.Proofs.YtpmpbmjjlccbbaaGreat.cb
open Go.RowKit
open qu (KN ins QL)
open dn (Du En lget lset ldel getV nerr dotB Sorted RetV serr lsetE)
open bl (AB Bod BodC StoC Only Pq cut cutR wr WR)
open br
theorem below_fuel {S : BS} {room I : Nat} (h : Inv S room) (hI : I ≠ 1) {deep : Nat → Nat} (hd : ∀ k, (S.ino k).kind = 2 → (S.ino k).links ≠ 0 → k ≠ 1 → ∃ p : Nat, (S.ino k).parent = (p : Int) ∧ (S.ino p).kind = 2 ∧ (S.ino p).links ≠ 0 ∧ deep p < deep k) :
  ∀ (g x : Nat), deep x ≤ g → (S.ino x).kind = 2 → (S.ino x).links ≠ 0 → ∀ n m, deep x < n → deep x < m → S.below (x : Int) I n = S.below (x : Int) I m := by
 intro g
 induction g with
 | zero =>
  intro x hx hk hl n m hn hm
  by_cases e : x = 1
  ·subst e
   have := below_root h hI
   rw [show ((1 : Nat) : Int) = 1 from rfl, this, this]
  ·obtain ⟨p, _, _, _, h4⟩ := hd x hk hl e
   omega
 | succ g ih =>
  intro x hx hk hl n m hn hm
  by_cases e : x = 1
  ·subst e
   have := below_root h hI
   rw [show ((1 : Nat) : Int) = 1 from rfl, this, this]
  ·obtain ⟨p, h1, h2, h3, h4⟩ := hd x hk hl e
   obtain ⟨n', rfl⟩ : ∃ n', n = n' + 1 := ⟨n - 1, by omega⟩
   obtain ⟨m', rfl⟩ : ∃ m', m = m' + 1 := ⟨m - 1, by omega⟩
   rw [below_up, below_up, h1, ih p (by omega) h2 h3 n' m' (by omega) (by omega)]
section
variable {w w' : World} {P lo st qb room T : Nat} {qo : Option Nat} {pl : Nat → Pl} {tag : Nat → Nat} {S : BS} {L : List KN}
theorem within_any (h : CB w P lo st qb qo pl tag S room L T) (hG : br.Good S room) {t I : Nat} (hI : I ≠ 1) (hk : (S.ino t).kind = 2) (hl : (S.ino t).links ≠ 0) : Calls Tryz.prog 182 #[Pq P, .int .i64 (t : Int), .int .i64 (I : Int)] w (fun e w' => e = .returned (.bool (S.below (t : Int) I 300)) ∧ w' = w) := by
 obtain ⟨deep, db, hd⟩ := Tree.bound hG.1 hG.2
 have HF := Lib.hid (fun x (k1 : (S.ino x).kind = 2) (k2 : (S.ino x).links ≠ 0) n m => below_fuel hG.1 hI hd (deep x) x (Nat.le_refl _) k1 k2 n m)
 have HS := Lib.hid (fun x (k1 : (S.ino x).kind = 2) => (show x ≤ 200 ∧ w.cell? ⟨P, 1 + x, none⟩ = some (Pq (pl x).nd) ∧ w.cell? ⟨(pl x).nd, 6, none⟩ = some (.int .i64 (S.ino x).parent) from by
  have hn := hG.1.num (k := x) (by rw [k1]; decide)
  exact ⟨hn.2, h.slot hn.2 (by rw [k1]; decide), (h.ino x hn.2 (by rw [k1]; decide)).c6⟩))
 have HR := Lib.hid (below_root hG.1 hI)
 have HD := Lib.hid hd
 have HB := Lib.hid db
 have HK := Lib.hid (And.intro hk hl)
 generalize hr : S.below (t : Int) I 300 = r at *
 have HRR := Lib.hid hr
 clear h hG hd db hk hl hr
 go_enter Tryz.func182, Tryz.ntmps182
 go_wp2_with fail
 go_loopg [1] (deep t) (fun g s1 wr => ∃ x : Nat, g = deep x ∧ s1 = .int .i64 x ∧ Hid ((S.ino x).kind = 2) ∧ Hid ((S.ino x).links ≠ 0) ∧ Hid (S.below (x : Int) I 300 = r) ∧ wr = w)
 case atStart => exact ⟨t, rfl, rfl, Lib.hid HK.out.1, Lib.hid HK.out.2, HRR, rfl⟩
 case round =>
  obtain ⟨x, hg, rfl, K1, K2, K3, rfl⟩ := hrel
  obtain ⟨x2, s1, s2⟩ := HS.out x K1.out
  by_cases e1 : x = I
  ·have hq : ((x : Int) != (I : Int)) = false := by simp [e1]
   have HE := Lib.hid (show r = true by rw [← K3.out, e1]; exact below_self)
   subst e1
   clear HF HS HR HD HB HK HRR K1 K2 K3 hg s1 s2
   go_wp2_with fail
   go_ret
   exact ⟨by rw [HE.out]; simp, rfl⟩
  ·have hq : ((x : Int) != (I : Int)) = true := by simp; omega
   have hq2 : ((x : Int) == (I : Int)) = false := by simp; omega
   by_cases e2 : x = 1
   ·have HE := Lib.hid (show r = false by rw [← K3.out, e2]; exact HR.out 300)
    subst e2
    clear HF HS HR HD HB HK HRR K1 K2 K3 hg s1 s2
    go_wp2_with fail
    go_ret
    exact ⟨by rw [HE.out]; simp; omega, rfl⟩
   ·obtain ⟨p, p1, p2, p3, p4⟩ := HD.out x K1.out K2.out e2
    have HE := Lib.hid (show S.below (p : Int) I 300 = r by
     have e3 : S.below (x : Int) I 300 = S.below (p : Int) I 299 := by rw [below_up (k := x) (n := 299), decide_eq_false e1, Bool.false_or, p1]
     have := HB.out p; have := HB.out x
     rw [← K3.out, e3]
     exact HF.out p p2 p3 300 299 (by omega) (by omega))
    have hq3 : ((x : Int) != 1) = true := by simp; omega
    have P2 := Lib.hid p2
    have P3 := Lib.hid p3
    rw [p1] at s2
    clear HF HS HR HB HK HRR K1 K2 K3 p1 p2 p3 HD
    go_wp2_with fail
    go_roundg (deep p)
    case measure => omega
    case rel => exact ⟨p, rfl, rfl, P2, P3, HE, rfl⟩
def replE (S : BS) (I J : Nat) : Int :=
 if (S.ino J).kind = 2 ∧ (S.ino I).kind ≠ 2 then 21 else if (S.ino J).kind ≠ 2 ∧ (S.ino I).kind = 2 then 20 else if (S.ino J).kind = 2 ∧ (S.ino J).dir ≠ [] then 39 else 0
theorem replaces_any (h : CB w P lo st qb qo pl tag S room L T) (hG : br.Good S room) {I J : Nat} (hi : (S.ino I).kind ≠ 0) (hj : (S.ino J).kind ≠ 0) : Calls Tryz.prog 183 #[Pq (pl I).nd, Pq (pl J).nd] w (fun e w' => e = .returned (.int .i64 (replE S I J)) ∧ w' = w) := by
 have i0 := (h.ino I (hG.1.num hi).2 hi).c0
 have j0 := (h.ino J (hG.1.num hj).2 hj).c0
 by_cases e1 : (S.ino J).kind = 2
 ·by_cases e2 : (S.ino I).kind = 2
  ·have j5 := (h.ino J (hG.1.num hj).2 hj).c5d e1
   have HL := Lib.hid (h.len hG e1)
   have hv : replE S I J = if 0 < (S.ino J).dir.length then 39 else 0 := by
    unfold replE
    rw [if_neg (by rw [e2]; simp), if_neg (by rw [e1]; simp)]
    by_cases e3 : (S.ino J).dir = []
    ·rw [if_neg (by simp [e3]), if_neg (by simp [e3])]
    ·rw [if_pos ⟨e1, e3⟩, if_pos (List.length_pos_iff.2 e3)]
   have HV := Lib.hid hv
   generalize replE S I J = r at *
   generalize (S.ino J).dir.length = K at *
   rw [e2] at i0
   rw [e1] at j0
   generalize (pl I).nd = N at *
   generalize (pl J).nd = M at *
   generalize (pl J).di = C at *
   clear h hG hi hj e1 e2 hv
   by_cases hK : 0 < K
   ·have HV2 := Lib.hid (HV.out.trans (if_pos hK))
    clear HV
    go_enter Tryz.func183, Tryz.ntmps183
    go_wp2_with fail
    refine HL.out.mono ?_
    rintro e w3 ⟨rfl, rfl⟩
    go_wp2_with fail
    go_ret
    exact ⟨by rw [HV2.out]; rfl, rfl⟩
   ·obtain rfl : K = 0 := by omega
    have HV2 := Lib.hid (HV.out.trans (if_neg hK))
    clear HV hK
    go_enter Tryz.func183, Tryz.ntmps183
    go_wp2_with fail
    refine HL.out.mono ?_
    rintro e w3 ⟨rfl, rfl⟩
    go_wp2_with fail
    go_ret
    exact ⟨by rw [HV2.out]; rfl, rfl⟩
  ·have HV := Lib.hid (show replE S I J = 21 from if_pos ⟨e1, e2⟩)
   generalize replE S I J = r at *
   rw [e1] at j0
   generalize (S.ino I).kind = K at *
   generalize (pl I).nd = N at *
   generalize (pl J).nd = M at *
   have q : (K != 2) = true := by simpa using e2
   clear h hG hi hj e1 e2
   go_enter Tryz.func183, Tryz.ntmps183
   go_wp2_with fail
   go_ret
   exact ⟨by rw [HV.out]; rfl, rfl⟩
 ·by_cases e2 : (S.ino I).kind = 2
  ·have HV := Lib.hid (show replE S I J = 20 by unfold replE; rw [if_neg (fun e => e1 e.1), if_pos ⟨e1, e2⟩])
   generalize replE S I J = r at *
   rw [e2] at i0
   generalize (S.ino J).kind = K at *
   generalize (pl I).nd = N at *
   generalize (pl J).nd = M at *
   have q : (K != 2) = true := by simpa using e1
   have q2 : (K == 2) = false := by simpa using e1
   clear h hG hi hj e1 e2
   go_enter Tryz.func183, Tryz.ntmps183
   go_wp2_with fail
   go_ret
   exact ⟨by rw [HV.out]; rfl, rfl⟩
  ·have HV := Lib.hid (show replE S I J = 0 by unfold replE; rw [if_neg (fun e => e1 e.1), if_neg (fun e => e2 e.2), if_neg (fun e => e1 e.1)])
   generalize replE S I J = r at *
   generalize (S.ino J).kind = K at *
   generalize (S.ino I).kind = K2 at *
   generalize (pl I).nd = N at *
   generalize (pl J).nd = M at *
   have q : (K != 2) = true := by simpa using e1
   have q2 : (K == 2) = false := by simpa using e1
   have q3 : (K2 == 2) = false := by simpa using e2
   clear h hG hi hj e1 e2
   go_enter Tryz.func183, Tryz.ntmps183
   go_wp2_with fail
   go_ret
   exact ⟨by rw [HV.out]; rfl, rfl⟩
end
section
variable {w w' : World} {P lo st qb room T : Nat} {qo : Option Nat} {pl : Nat → Pl} {tag : Nat → Nat} {S : BS} {L : List KN}
def insD (S : BS) (D : Nat) (s : ByteArray) (v : Int) : BS := ⟨upd S.ino D { S.ino D with dir := lset s v (S.ino D).dir }, S.used⟩
def parI (S : BS) (I : Nat) (v : Int) : BS := ⟨upd S.ino I { S.ino I with parent := v }, S.used⟩
theorem insD_other {S : BS} {D k : Nat} {s : ByteArray} {v : Int} (h : k ≠ D) : (insD S D s v).ino k = S.ino k := upd_other _ _ h
theorem insD_kind (S : BS) (D : Nat) (s : ByteArray) (v : Int) (k : Nat) : ((insD S D s v).ino k).kind = (S.ino k).kind := by
 show (upd _ _ _ k).kind = _
 by_cases e : k = D
 ·subst e; rw [upd_same]
 ·rw [upd_other _ _ e]
theorem parI_kind (S : BS) (I : Nat) (v : Int) (k : Nat) : ((parI S I v).ino k).kind = (S.ino k).kind := by
 show (upd _ _ _ k).kind = _
 by_cases e : k = I
 ·subst e; rw [upd_same]
 ·rw [upd_other _ _ e]
theorem delD_ino (S : BS) (D : Nat) (s : ByteArray) : (delD S D s).ino D = { S.ino D with dir := ldel s (S.ino D).dir } := upd_same _ _ _
theorem move_eq (S : BS) {D t I : Nat} (s u : ByteArray) (h1 : I ≠ D) (h2 : I ≠ t) : S.move (D : Int) s (t : Int) u (I : Int) = if (S.ino I).kind = 2 then parI (insD (delD S D s) t u (I : Int)) I (t : Int) else insD (delD S D s) t u (I : Int) := by
 unfold BS.move
 dsimp only
 rw [putDir_delD, at_nat]
 have e : (delD S D s).putDir (t : Int) (lset u (I : Int) ((delD S D s).at (t : Int)).dir) = insD (delD S D s) t u (I : Int) := by
  unfold BS.putDir BS.put insD; rw [at_nat, Int.toNat_natCast]
 rw [e]
 split
 ·unfold BS.put parI; rw [at_nat, Int.toNat_natCast]
 ·rfl
theorem move_set {w1 : World} {qo1 : Option Nat} {pl1 : Nat → Pl} {tag1 : Nat → Nat} {D t I T0 : Nat} {s u : ByteArray} (hG : br.Good S room) (hT : T ≤ T0 + 1) (ht : (S.ino t).kind = 2) (hn : (S.ino I).kind ≠ 0) (h1 : I ≠ D) (h2 : I ≠ t) (hu : nerr u.data.toList = 0 ∧ dotB u = false) (hm : u.size ≤ 9223372036854775807)
  (h : CB w1 P lo st qb qo1 pl1 tag1 (delD S D s) room (freeL S) T) (hs : Stp w w1 tag tag1) (hp : ∀ j, ((delD S D s).ino j).kind ≠ 0 → (pl1 j).nd = (pl j).nd) :
  ∃ C, w1.cell? ⟨(pl t).nd, 5, none⟩ = some (Pq C) ∧ Calls Tryz.prog 174 #[Pq C, .string u, .int .i64 (I : Int)] w1 (fun e w2 => e = .returned (.int .i64 0) ∧
   w2.cell? ⟨(pl I).nd, 0, none⟩ = some (.int .i64 (S.ino I).kind) ∧ w2.cell? ⟨(pl I).nd, 6, none⟩ = some (.int .i64 (S.ino I).parent) ∧ w2.frozen? ⟨(pl I).nd, 6, none⟩ = false ∧
   ((S.ino I).kind ≠ 2 → RetG w P lo st qb tag (.int .i64 0) (S.move (D : Int) s (t : Int) u (I : Int)) room T0 (.returned (.int .i64 0)) w2) ∧
   ((S.ino I).kind = 2 → RetG w P lo st qb tag (.int .i64 0) (S.move (D : Int) s (t : Int) u (I : Int)) room T0 (.returned (.int .i64 0)) (w2.setCell ⟨(pl I).nd, 6, none⟩ (.int .i64 (t : Int))))) := by
 have k1 := fun j => delD_kind S D s j
 have tn := hG.1.num (k := t) (by rw [ht]; decide)
 have In := hG.1.num hn
 have ht1 : ((delD S D s).ino t).kind = 2 := by rw [k1]; exact ht
 have c5 := (h.ino t tn.2 (by rw [ht1]; decide)).c5d ht1
 rw [hp t (by rw [ht1]; decide)] at c5
 have hso : Sorted ((delD S D s).ino t).dir := by
  by_cases e : t = D
  ·subst e; rw [delD_ino]; exact dn.ldel_sorted (hG.1.sorted _)
  ·rw [delD_other e]; exact hG.1.sorted _
 have hle : ((delD S D s).ino t).dir.length ≤ 4000 := by
  by_cases e : t = D
  ·subst e; rw [delD_ino]
   exact Nat.le_trans (List.length_filter_le _ _) (hG.1.dirLen _)
  ·rw [delD_other e]; exact hG.1.dirLen _
 refine ⟨_, c5, ?_⟩
 have hd := h.dset tn.2 ht1 hso hle u (I : Int) hm
 obtain ⟨s0, s1⟩ := serr_ok (n := I) hu.1 hu.2 In.1 ((delD S D s).ino t).dir
 rw [s0, s1] at hd
 refine hd.mono ?_
 rintro e w2 ⟨rfl, qo2, pl2, tag2, h3, hs2, hp2⟩
 change CB w2 P lo st qb qo2 pl2 tag2 (insD (delD S D s) t u (I : Int)) room (freeL S) T at h3
 have k2 := fun j => (insD_kind (delD S D s) t u (I : Int) j).trans (k1 j)
 have eI : (insD (delD S D s) t u (I : Int)).ino I = S.ino I := by rw [insD_other h2, delD_other h1]
 have hn2 : ((insD (delD S D s) t u (I : Int)).ino I).kind ≠ 0 := by rw [eI]; exact hn
 have hi := h3.ino I In.2 hn2
 have en : (pl2 I).nd = (pl I).nd := (hp2 I hn2).trans (hp I (by rw [k1]; exact hn))
 have a0 := hi.c0
 have a6 := hi.c6
 have f6 := hi.f 6
 rw [en] at a0 a6 f6
 rw [eI] at a0 a6
 have hmv := move_eq S s u h1 h2
 refine ⟨rfl, a0, a6, f6, fun hk => ?_, fun hk => ?_⟩
 ·rw [if_neg hk] at hmv
  have hf : freeL (S.move (D : Int) s (t : Int) u (I : Int)) = freeL S := by rw [hmv]; exact freeL_same k2
  exact ⟨rfl, qo2, pl2, tag2, T, hT, by rw [hf, hmv]; exact h3, hs.trans hs2⟩
 ·rw [if_pos hk] at hmv
  have hf : freeL (S.move (D : Int) s (t : Int) u (I : Int)) = freeL S := by rw [hmv]; exact freeL_same fun j => (parI_kind _ _ _ j).trans (k2 j)
  have h4 := h3.parent In.2 hn2 (t : Int)
  rw [en] at h4
  exact ⟨rfl, qo2, pl2, tag2, T, hT, by rw [hf, hmv]; exact h4.1, hs.trans (hs2.trans h4.2)⟩
end
end Go.Proofs.YtpmpbmjjlccbbaaGreat.cb
