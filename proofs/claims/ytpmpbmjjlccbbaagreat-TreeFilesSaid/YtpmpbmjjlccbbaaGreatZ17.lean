/- Part 17 of what is known of the program's functions and of the document's words: contracts, and the mathematics beneath them. -/
import Derived.Test.YtpmpbmjjlccbbaaGreatProg
import Derived.Test.YtpmpbmjjlccbbaaGreatZ16
set_option linter.unusedVariables false
set_option linter.unusedSimpArgs false
set_option maxRecDepth 100000
set_option maxHeartbeats 8000000
namespace Go.Proofs.YtpmpbmjjlccbbaaGreat.cb
open Go.RowKit
open qu (KN ins QL)
open dn (Du En lget lset ldel getV nerr dotB Sorted RetV serr lsetE)
open bl (AB Bod BodC StoC Only Pq cut cutR wr WR)
open br
section
variable {w w' : World} {P lo st qb room T : Nat} {qo : Option Nat} {pl : Nat → Pl} {tag : Nat → Nat} {S : BS} {L : List KN}
def RetG (w : World) (P lo st qb : Nat) (tag : Nat → Nat) (v : Value) (S' : BS) (room T : Nat) (e : Ending) (w' : World) : Prop :=
 e = .returned v ∧ ∃ qo' pl' tag' T', T' ≤ T + 1 ∧ CB w' P lo st qb qo' pl' tag' S' room (freeL S') T' ∧ Stp w w' tag tag'
theorem RetG.of {v : Value} {S' : BS} {e : Ending} (h : RetF w P lo st qb pl tag v S' room T e w') : RetG w P lo st qb tag v S' room T e w' := by
 obtain ⟨he, T', hT, qo', pl', tag', h1, h2, h3⟩ := h
 exact ⟨he, qo', pl', tag', T', hT, h1, h2⟩
theorem RetG.same (h : CB w P lo st qb qo pl tag S room (freeL S) T) (v : Value) (hb : Below w.heap.size w w') : RetG w P lo st qb tag v S room T (.returned v) w' := ⟨rfl, qo, pl, tag, T, Nat.le_succ T, h.below hb, Stp.below hb⟩
theorem serr_ok {s : ByteArray} {n : Nat} (h1 : nerr s.data.toList = 0) (h2 : dotB s = false) (h3 : 1 ≤ n) (L : List En) : serr s (n : Int) = 0 ∧ lsetE s (n : Int) L = lset s (n : Int) L := by
 have : serr s (n : Int) = 0 := by unfold serr; rw [if_neg (by omega), if_neg]; rintro (e | e); exact absurd e (by rw [h2]; decide); omega
 exact ⟨this, by unfold lsetE; rw [if_pos this]⟩
theorem make_end {w3 w4 : World} {qo3 : Option Nat} {pl3 : Nat → Pl} {tag3 : Nat → Nat} {D n : Nat} {s t : ByteArray} {k : Int} {r : List KN} {x : KN} {p : Pl} (hG : br.Good S room) (hv : S.vacant (D : Int) s = 0) (hbk : badKind k t = false) (hm : s.size ≤ 9223372036854775807) (hL : freeL S = x :: r) (hn : n = S.free 1 200)
  (h3 : CB w3 P lo st qb qo3 pl3 tag3 S room r T) (hs3 : Stp w w3 tag tag3) (hb : Below w3.heap.size w3 w4) (hx : InoC w4 st lo p (newI k (D : Int) t)) (b1 : w3.heap.size ≤ p.nd) (b2 : (newI k (D : Int) t).kind = 1 → w3.heap.size ≤ p.bo ∧ w3.heap.size ≤ p.bm ∧ p.bo ≠ p.nd ∧ p.bm ≠ p.nd ∧ p.bo ≠ p.bm) (b3 : (newI k (D : Int) t).kind = 2 → w3.heap.size ≤ p.di ∧ p.di ≠ p.nd ∧ p.dr = none) :
  ∃ C, (w4.setCell ⟨P, 1 + n, none⟩ (Pq p.nd)).cell? ⟨(pl3 D).nd, 5, none⟩ = some (Pq C) ∧
   Calls Tryz.prog 174 #[Pq C, .string s, .int .i64 (n : Int)] (w4.setCell ⟨P, 1 + n, none⟩ (Pq p.nd)) (fun e w' => e = .returned (.int .i64 0) ∧ ∃ qo' pl' tag' T', T' ≤ T + 1 ∧ CB w' P lo st qb qo' pl' tag' (S.make (D : Int) s k t).2 room (freeL (S.make (D : Int) s k t).2) T' ∧ Stp w w' tag tag') := by
 obtain ⟨D', hD', d1, d2, hD, hl, hg, hne, hdo⟩ := vacant_ok hv
 obtain rfl : D = D' := by omega
 obtain ⟨hx0, n1, n2, _⟩ := freeL_cons hL
 rw [← hn] at n1 n2
 have hz : (S.ino n).kind = 0 := by rw [hn]; exact (free_spec S 200 1).2.2.1 (by omega)
 have hnD : n ≠ D := fun e => by rw [e, hD] at hz; cases hz
 have hxk : (newI k (D : Int) t).kind ≠ 0 := by
  show k ≠ 0
  intro e; subst e
  unfold badKind at hbk; simp at hbk
 obtain ⟨tag5, h5, ht5⟩ := h3.born n2 hz hxk hb hx b1 b2 b3
 have eD : (BS.ino ⟨upd S.ino n (newI k (D : Int) t), S.used⟩ D) = S.ino D := upd_other _ _ (fun e => hnD e.symm)
 have hst : Stp w3 (w4.setCell ⟨P, 1 + n, none⟩ (Pq p.nd)) tag3 tag5 := ⟨ht5, (Only.of_below hb).trans ⟨rfl, rfl, rfl, by simp [World.setCell], fun j hj hF => Below.heap_setCell _ _ _ _ (fun e => hF (by show tag3 j ≠ 0; rw [e, h3.tP]; decide))⟩⟩
 have hi := h5.ino D d2 (by rw [eD, hD]; decide)
 rw [eD] at hi
 have c5 := hi.c5d hD
 rw [if_neg (fun e => hnD e.symm)] at c5
 refine ⟨_, c5, ?_⟩
 have hd := h5.dset d2 (by rw [eD]; exact hD) (by rw [eD]; exact hG.1.sorted D) (by rw [eD]; exact hG.1.dirLen D) s (n : Int) hm
 rw [eD] at hd
 dsimp only at hd
 rw [if_neg (fun e => hnD e.symm)] at hd
 obtain ⟨e0, e1⟩ := serr_ok (n := n) hne hdo n1 (S.ino D).dir
 rw [e0, e1] at hd
 refine hd.mono ?_
 rintro e w6 ⟨he, qo6, pl6, tag6, h6, hs6, hp6⟩
 have eM : (S.make (D : Int) s k t).2 = ⟨upd (upd S.ino n (newI k (D : Int) t)) D { S.ino D with dir := lset s (n : Int) (S.ino D).dir }, S.used⟩ := by
  unfold BS.make
  rw [if_neg (by omega), if_neg (by rw [hbk]; decide)]
  dsimp only
  rw [← hn, if_neg (by omega)]
  unfold BS.putDir BS.put
  dsimp only
  rw [Int.toNat_natCast, Int.toNat_natCast]
  show BS.mk (upd (upd S.ino n (newI k (D : Int) t)) D { upd S.ino n (newI k (D : Int) t) D with dir := lset s (n : Int) (upd S.ino n (newI k (D : Int) t) D).dir }) S.used = _
  rw [upd_other _ _ (fun e => hnD e.symm)]
 have hf : r = freeL (S.make (D : Int) s k t).2 := by
  rw [eM]
  refine freeL_pop hL ?_ fun j hj => ?_
  ·rw [← hn]
   show (upd _ D _ n).kind ≠ 0
   rw [upd_other _ _ hnD, upd_same]; exact hxk
  ·rw [← hn] at hj
   show (upd _ D _ j).kind = _
   by_cases e : j = D
   ·subst e; rw [upd_same]
   ·rw [upd_other _ _ e, upd_other _ _ hj]
 rw [← eM] at h6
 rw [← hf]
 exact ⟨he, qo6, pl6, tag6, T, Nat.le_succ T, h6, hs3.trans (hst.trans hs6)⟩
theorem make_any (h : CB w P lo st qb qo pl tag S room (freeL S) T) (hG : br.Good S room) (hT : T ≤ 900000) (d : Int) (s : ByteArray) (k : Int) (t : ByteArray) (hm : s.size ≤ 9223372036854775807) (hmt : t.size ≤ 9223372036854775807) :
  Calls Tryz.prog 128 #[Pq P, .int .i64 d, .string s, .int .i64 k, .string t] w (RetG w P lo st qb tag (.tuple #[.int .i64 (S.make d s k t).1.1, .int .i64 (S.make d s k t).1.2]) (S.make d s k t).2 room T) := by
 have HV := Lib.hid (vacant_any h hG d s hm)
 unfold RetW at HV
 have HF := Lib.hid (fun w2 v hb => RetG.same (w' := w2) h v hb)
 by_cases h1 : S.vacant d s = 0
 ·obtain ⟨D, rfl, d1, d2, hD, _⟩ := vacant_ok h1
  have hvv : vacV S pl (D : Int) s = .tuple #[Pq (pl D).nd, .int .i64 0] := by unfold vacV; rw [if_pos h1, h1]; rfl
  rw [hvv] at HV
  have HFT := Lib.hid (fun w2 => fits_any k t w2 hmt)
  cases hbk : badKind k t
  ·rw [hbk] at HFT
   have HPP := Lib.hid (fun w2 (hb : Below w.heap.size w w2) => (h.below hb).qpop hT)
   have HQ := Lib.hid (fun w2 (hb : Below w.heap.size w w2) => (h.below hb).cq)
   cases hL : freeL S with
   | nil =>
    rw [hL] at HPP
    have hpv : qu.popV ([] : List KN) = .tuple #[.int .i64 0, .int .i64 0, .bool false] := rfl
    rw [hpv] at HPP
    have hv := Lib.hid (show S.make (D : Int) s k t = ((0, 28), S) by
     have := freeL_nil hL
     unfold BS.make; rw [if_neg (by omega), if_neg (by rw [hbk]; decide)]; dsimp only; rw [if_pos (by omega)])
    rw [hv.out]
    have HE := Lib.hid (show ∀ w2 w3, Below w.heap.size w w2 → Nx w2 w3 P lo st qb pl tag S room ([] : List KN).tail T → RetG w P lo st qb tag (.tuple #[.int .i64 0, .int .i64 28]) S room T (.returned (.tuple #[.int .i64 0, .int .i64 28])) w3 from fun w2 w3 hb hx => by
     obtain ⟨qo', pl', tag', h1, h2, h3⟩ := hx
     exact ⟨rfl, qo', pl', tag', T, Nat.le_succ T, by rw [hL]; exact h1, (Stp.below hb).trans h2⟩)
    generalize (pl D).nd = N at *
    clear h hG hT h1 hvv hbk hL hpv hv HF
    go_enter Tryz.func128, Tryz.ntmps128
    go_wp2_with fail
    refine HV.out.mono ?_
    rintro e w2 ⟨rfl, hb⟩
    have q0 := HQ.out _ hb
    have HP2 := Lib.hid (HPP.out _ hb)
    have HB := Lib.hid hb
    clear HQ HPP hb HV
    go_wp2_with fail
    refine (HFT.out _).mono ?_
    rintro e w3 ⟨rfl, rfl⟩
    go_wp2_with fail
    refine HP2.out.mono ?_
    rintro e w3 ⟨rfl, hx⟩
    clear q0
    go_wp2_with fail
    go_ret2
    exact HE.out _ _ HB.out hx
   | cons x r =>
    obtain ⟨hx0, n1, n2, _⟩ := freeL_cons hL
    obtain ⟨n, hn⟩ : ∃ n, n = S.free 1 200 := ⟨_, rfl⟩
    rw [← hn] at hx0 n1 n2
    subst hx0
    rw [hL] at HPP
    have hpv : qu.popV (kk n :: r) = .tuple #[.int .i64 (n : Int), .int .i64 (n : Int), .bool true] := rfl
    have htl : (kk n :: r).tail = r := rfl
    rw [hpv, htl] at HPP
    have hv := Lib.hid (show (S.make (D : Int) s k t).1 = ((n : Int), 0) by
     unfold BS.make; rw [if_neg (by omega), if_neg (by rw [hbk]; decide)]; dsimp only; rw [← hn, if_neg (by omega)])
    rw [hv.out]
    have HM := Lib.hid (fun w3 w4 qo3 pl3 tag3 p h3 hs3 hb hx b1 b2 b3 => make_end (w := w) (w3 := w3) (w4 := w4) (qo3 := qo3) (pl3 := pl3) (tag3 := tag3) (p := p) (S := S) (P := P) (lo := lo) (st := st) (qb := qb) (T := T) (tag := tag) (D := D) hG h1 hbk hm hL hn h3 hs3 hb hx b1 b2 b3)
    have HBK := Lib.hid (fun w3 qo3 pl3 tag3 (h3 : CB w3 P lo st qb qo3 pl3 tag3 S room r T) => blank_any P st lo w3.drew h3.c0 h3.plt.1 (by have := h3.plt; show lo ≤ w3.heap.size; omega) k (D : Int) t)
    have hzn : (S.ino n).kind = 0 := by rw [hn]; exact (free_spec S 200 1).2.2.1 (by omega)
    have HSL := Lib.hid (fun w3 w4 qo3 pl3 tag3 (h3 : CB w3 P lo st qb qo3 pl3 tag3 S room r T) (hb : Below w3.heap.size w3 w4) => (show w4.cell? ⟨P, 1 + n, none⟩ = some (.pointer none) ∧ w4.frozen? ⟨P, 1 + n, none⟩ = false from
     ⟨(hb.cell (p := ⟨P, 1 + n, none⟩) h3.plt.1).trans ((h3.ci n n2).trans (congrArg some (ptV_no hzn))), (hb.frozen (p := ⟨P, 1 + n, none⟩) h3.plt.1).trans (h3.cf _)⟩))
    have HDn := Lib.hid (show (S.ino D).kind ≠ 0 by rw [hD]; decide)
    have HND := Lib.hid (show ∀ pl3 : Nat → Pl, (∀ j, (S.ino j).kind ≠ 0 → (pl3 j).nd = (pl j).nd) → (pl3 D).nd = (pl D).nd from fun pl3 h => h D HDn.out)
    generalize (pl D).nd = N at *
    have in0 : (0 : Int) ≤ (n : Int) := by omega
    have in1 : (n : Int) ≤ 200 := by omega
    have in2 : (n : Int) < 201 := by omega
    clear h hG hT h1 hvv hbk hL hpv hv HF htl hn hzn HDn
    go_enter Tryz.func128, Tryz.ntmps128
    go_wp2_with fail
    refine HV.out.mono ?_
    rintro e w2 ⟨rfl, hb⟩
    have q0 := HQ.out _ hb
    have HP2 := Lib.hid (HPP.out _ hb)
    have HB := Lib.hid hb
    clear HQ HPP hb HV
    go_wp2_with fail
    refine (HFT.out _).mono ?_
    rintro e w3 ⟨rfl, rfl⟩
    go_wp2_with fail
    refine HP2.out.mono ?_
    rintro e w3 ⟨rfl, qo3, pl3, tag3, h3, hs3, hp3⟩
    clear q0
    go_wp2_with fail
    go_region_held3 (fun w' => True)
     (first | trivial | assumption | go_keep)
     (first
     | (go_at_call 27; ((with_reducible refine (HBK.out w3 qo3 pl3 tag3 h3).mono ?_); rintro e w4 ⟨p, rfl, hb4, hx4, b1, b2, b3⟩; have hb4' := (Below.refl w3.heap.size w3).drew.trans hb4; obtain ⟨z1, z2⟩ := HSL.out w3 w4 qo3 pl3 tag3 h3 hb4')))
    all_goals
     obtain ⟨C, c5, hd⟩ := HM.out w3 w4 qo3 pl3 tag3 p h3 ((Stp.below HB.out).trans hs3) hb4' hx4 b1 b2 b3
     rw [HND.out pl3 hp3] at c5
     have HD := Lib.hid hd
     clear hd h3 hs3 hp3 hb4 hb4' hx4 b1 b2 b3 z1 z2 HM HBK HSL HFT HND HP2
     go_wp2_with fail
     refine HD.out.mono ?_
     rintro e w6 ⟨rfl, hx⟩
     clear c5
     go_wp2_with fail
     go_ret2
     exact ⟨rfl, hx⟩
  ·rw [hbk] at HFT
   have hv := Lib.hid (show S.make (D : Int) s k t = ((0, 22), S) by unfold BS.make; rw [if_neg (by omega), if_pos hbk])
   rw [hv.out]
   generalize (pl D).nd = N at *
   clear h hG hT h1 hvv hbk hv
   go_enter Tryz.func128, Tryz.ntmps128
   go_wp2_with fail
   refine HV.out.mono ?_
   rintro e w2 ⟨rfl, hb⟩
   go_wp2_with fail
   refine (HFT.out _).mono ?_
   rintro e w3 ⟨rfl, rfl⟩
   go_wp2_with fail
   go_ret2
   exact HF.out _ _ hb
 ·have hv := Lib.hid (show S.make d s k t = ((0, S.vacant d s), S) by unfold BS.make; rw [if_pos h1])
  have hvv : vacV S pl d s = .tuple #[.pointer none, .int .i64 (S.vacant d s)] := by unfold vacV; rw [if_neg h1]
  rw [hvv] at HV
  rw [hv.out]
  generalize S.vacant d s = x at *
  have hx : (x != 0) = true := by simpa using h1
  clear h hG hT h1 hvv hv
  go_enter Tryz.func128, Tryz.ntmps128
  go_wp2_with fail
  refine HV.out.mono ?_
  rintro e w2 ⟨rfl, hb⟩
  go_wp2_with fail
  go_ret2
  exact HF.out _ _ hb
end
theorem upd_comm (f : Nat → Ino) {i j : Nat} (x y : Ino) (h : i ≠ j) : upd (upd f i x) j y = upd (upd f j y) i x := by
 funext k
 by_cases e1 : k = i
 ·subst e1; rw [upd_other _ _ h, upd_same, upd_same]
 ·by_cases e2 : k = j
  ·subst e2; rw [upd_same, upd_other _ _ e1, upd_same]
  ·rw [upd_other _ _ e2, upd_other _ _ e1, upd_other _ _ e1, upd_other _ _ e2]
section
variable {w w' : World} {P lo st qb room T : Nat} {qo : Option Nat} {pl : Nat → Pl} {tag : Nat → Nat} {S : BS} {L : List KN}
theorem link_end {w1 : World} {qo1 : Option Nat} {pl1 : Nat → Pl} {tag1 : Nat → Nat} {D I : Nat} {s : ByteArray} (hv : S.vacant (D : Int) s = 0) (i1 : 1 ≤ I) (i2 : I ≤ 200) (hne : I ≠ D) (hn : (S.ino I).kind ≠ 0) (hk : (S.ino I).kind ≠ 2) (h0 : (S.ino I).links ≠ 0) (hl : (S.ino I).links < 20) (hI : S.isI (I : Int) = true)
  (h1 : CB w1 P lo st qb qo1 pl1 tag1 ⟨upd S.ino D { S.ino D with dir := lset s (I : Int) (S.ino D).dir }, S.used⟩ room (freeL S) T) (hs : Stp w w1 tag tag1) (hp : ∀ j, (upd S.ino D { S.ino D with dir := lset s (I : Int) (S.ino D).dir } j).kind ≠ 0 → (pl1 j).nd = (pl j).nd) :
  w1.cell? ⟨(pl I).nd, 1, none⟩ = some (.int .i64 (S.ino I).links) ∧ w1.frozen? ⟨(pl I).nd, 1, none⟩ = false ∧
  RetG w P lo st qb tag (.int .i64 0) (S.link (D : Int) s (I : Int)).2 room T (.returned (.int .i64 0)) (w1.setCell ⟨(pl I).nd, 1, none⟩ (.int .i64 ((S.ino I).links + 1))) := by
 have eI : upd S.ino D { S.ino D with dir := lset s (I : Int) (S.ino D).dir } I = S.ino I := upd_other _ _ hne
 have hp' := hp I (by rw [eI]; exact hn)
 have hn1 : (BS.ino ⟨upd S.ino D { S.ino D with dir := lset s (I : Int) (S.ino D).dir }, S.used⟩ I).kind ≠ 0 := by show (upd _ _ _ I).kind ≠ 0; rw [eI]; exact hn
 have hi := h1.ino I i2 hn1
 have ec1 := hi.c1
 have ef1 := hi.f 1
 have h2 := h1.links i2 hn1 ((S.ino I).links + 1)
 dsimp only at ec1 h2
 rw [eI] at ec1 h2
 rw [hp'] at ec1 ef1 h2
 have eM : (S.link (D : Int) s (I : Int)).2 = ⟨upd (upd S.ino D { S.ino D with dir := lset s (I : Int) (S.ino D).dir }) I { S.ino I with links := (S.ino I).links + 1 }, S.used⟩ := by
  unfold BS.link
  rw [if_neg (by omega), if_neg (by rw [hI, at_nat]; simp; exact h0), if_neg (by rw [at_nat]; exact hk), if_neg (by rw [at_nat]; omega)]
  unfold BS.putDir BS.put
  dsimp only
  rw [Int.toNat_natCast, Int.toNat_natCast, at_nat]
  show BS.mk (upd (upd S.ino I { S.ino I with links := (S.ino I).links + 1 }) D { upd S.ino I { S.ino I with links := (S.ino I).links + 1 } D with dir := lset s (I : Int) (upd S.ino I { S.ino I with links := (S.ino I).links + 1 } D).dir }) S.used = _
  rw [upd_other _ _ (fun e => hne e.symm), upd_comm _ _ _ hne]
 have hf : freeL (S.link (D : Int) s (I : Int)).2 = freeL S := by
  rw [eM]
  refine freeL_same fun j => ?_
  show (upd (upd _ _ _) _ _ j).kind = _
  by_cases e : j = I
  ·subst e; rw [upd_same]
  ·rw [upd_other _ _ e]
   by_cases e2 : j = D
   ·subst e2; rw [upd_same]
   ·rw [upd_other _ _ e2]
 refine ⟨ec1, ef1, rfl, qo1, pl1, tag1, T, Nat.le_succ T, ?_, hs.trans h2.2⟩
 rw [hf, eM]; exact h2.1
theorem link_any (h : CB w P lo st qb qo pl tag S room (freeL S) T) (hG : br.Good S room) (d : Int) (s : ByteArray) (i : Int) (hm : s.size ≤ 9223372036854775807) :
  Calls Tryz.prog 134 #[Pq P, .int .i64 d, .string s, .int .i64 i] w (RetG w P lo st qb tag (.int .i64 (S.link d s i).1) (S.link d s i).2 room T) := by
 have HV := Lib.hid (vacant_any h hG d s hm)
 unfold RetW at HV
 have HF := Lib.hid (fun w2 v hb => RetG.same (w' := w2) h v hb)
 by_cases h1 : S.vacant d s = 0
 ·obtain ⟨D, rfl, d1, d2, hD, hDl, hg, hne, hdo⟩ := vacant_ok h1
  have hvv : vacV S pl (D : Int) s = .tuple #[Pq (pl D).nd, .int .i64 0] := by unfold vacV; rw [if_pos h1, h1]; rfl
  rw [hvv] at HV
  have HA := Lib.hid (fun w2 (hb : Below w.heap.size w w2) => at_any (h.below hb) hG.z0 i)
  rcases isI_cases S i with hI | ⟨I, rfl, i1, i2, hn, hI⟩
  ·rw [atV_no hI] at HA
   have hv := Lib.hid (show S.link (D : Int) s i = (2, S) by unfold BS.link; rw [if_neg (by omega), if_pos (.inl hI)])
   rw [hv.out]
   generalize (pl D).nd = N at *
   clear h hG h1 hvv hv hI hg
   go_enter Tryz.func134, Tryz.ntmps134
   go_wp2_with fail
   refine HV.out.mono ?_
   rintro e w2 ⟨rfl, hb⟩
   go_wp2_with fail
   refine (HA.out _ hb).mono ?_
   rintro e w3 ⟨rfl, rfl⟩
   go_wp2_with fail
   go_ret
   exact HF.out _ _ hb
  ·rw [atV_yes i1 i2 hn] at HA
   have HI := Lib.hid (fun w2 (hb : Below w.heap.size w w2) => (h.below hb).ino I i2 hn)
   have C0 := Lib.hid (fun w2 (hb : Below w.heap.size w w2) => (HI.out w2 hb).c0)
   have C1 := Lib.hid (fun w2 (hb : Below w.heap.size w w2) => (HI.out w2 hb).c1)
   by_cases e0 : (S.ino I).links = 0
   ·have hv := Lib.hid (show S.link (D : Int) s (I : Int) = (2, S) by unfold BS.link; rw [if_neg (by omega), if_pos (.inr (by rw [at_nat]; exact e0))])
    rw [hv.out]
    rw [e0] at C1
    generalize (pl D).nd = N at *
    generalize (pl I).nd = M at *
    clear h hG h1 hvv hv hI hg HI C0 e0 hn
    go_enter Tryz.func134, Tryz.ntmps134
    go_wp2_with fail
    refine HV.out.mono ?_
    rintro e w2 ⟨rfl, hb⟩
    have c1 := C1.out _ hb
    go_wp2_with fail
    refine (HA.out _ hb).mono ?_
    rintro e w3 ⟨rfl, rfl⟩
    clear C1 HA
    go_wp2_with fail
    go_ret
    exact HF.out _ _ hb
   ·by_cases e2 : (S.ino I).kind = 2
    ·have hv := Lib.hid (show S.link (D : Int) s (I : Int) = (1, S) by unfold BS.link; rw [if_neg (by omega), if_neg (by rw [hI, at_nat]; simp; exact e0), if_pos (by rw [at_nat]; exact e2)])
     rw [hv.out]
     rw [e2] at C0
     generalize (pl D).nd = N at *
     generalize (pl I).nd = M at *
     generalize (S.ino I).links = K at *
     have q0 : (K == 0) = false := by simpa using e0
     clear h hG h1 hvv hv hI hg HI e0 e2 hn
     go_enter Tryz.func134, Tryz.ntmps134
     go_wp2_with fail
     refine HV.out.mono ?_
     rintro e w2 ⟨rfl, hb⟩
     have c1 := C1.out _ hb
     have c0 := C0.out _ hb
     go_wp2_with fail
     refine (HA.out _ hb).mono ?_
     rintro e w3 ⟨rfl, rfl⟩
     clear C1 C0 HA
     go_wp2_with fail
     go_ret
     exact HF.out _ _ hb
    ·by_cases e3 : 20 ≤ (S.ino I).links
     ·have hv := Lib.hid (show S.link (D : Int) s (I : Int) = (31, S) by unfold BS.link; rw [if_neg (by omega), if_neg (by rw [hI, at_nat]; simp; exact e0), if_neg (by rw [at_nat]; exact e2), if_pos (by rw [at_nat]; exact e3)])
      rw [hv.out]
      generalize (pl D).nd = N at *
      generalize (pl I).nd = M at *
      generalize (S.ino I).links = K at *
      generalize (S.ino I).kind = K2 at *
      have q0 : (K == 0) = false := by simpa using e0
      have q2 : (K2 == 2) = false := by simpa using e2
      clear h hG h1 hvv hv hI hg HI e0 e2 hn
      go_enter Tryz.func134, Tryz.ntmps134
      go_wp2_with fail
      refine HV.out.mono ?_
      rintro e w2 ⟨rfl, hb⟩
      have c1 := C1.out _ hb
      have c0 := C0.out _ hb
      go_wp2_with fail
      refine (HA.out _ hb).mono ?_
      rintro e w3 ⟨rfl, rfl⟩
      clear C1 C0 HA
      go_wp2_with fail
      go_ret
      exact HF.out _ _ hb
     ·have hIne : I ≠ D := fun e => e2 (by rw [e]; exact hD)
      have hv := Lib.hid (show (S.link (D : Int) s (I : Int)).1 = 0 by unfold BS.link; rw [if_neg (by omega), if_neg (by rw [hI, at_nat]; simp; exact e0), if_neg (by rw [at_nat]; exact e2), if_neg (by rw [at_nat]; omega)])
      rw [hv.out]
      obtain ⟨s0, s1⟩ := serr_ok (n := I) hne hdo i1 (S.ino D).dir
      have HD := Lib.hid (fun w2 (hb : Below w.heap.size w w2) => (h.below hb).dset d2 hD (hG.1.sorted D) (hG.1.dirLen D) s (I : Int) hm)
      rw [s0, s1] at HD
      have C5 := Lib.hid (fun w2 (hb : Below w.heap.size w w2) => ((h.below hb).ino D d2 (by rw [hD]; decide)).c5d hD)
      have HM := Lib.hid (fun w1 qo1 pl1 tag1 h2 hs hp => link_end (w := w) (w1 := w1) (qo1 := qo1) (pl1 := pl1) (tag1 := tag1) (P := P) (lo := lo) (st := st) (qb := qb) (room := room) (T := T) (pl := pl) (tag := tag) (S := S) (s := s) h1 i1 i2 hIne hn e2 e0 (by omega) hI h2 hs hp)
      have hl0 := (hG.1.nums I).1
      generalize (pl D).nd = N at *
      generalize (pl D).di = C at *
      generalize (pl I).nd = M at *
      generalize (S.ino I).links = K at *
      generalize (S.ino I).kind = K2 at *
      have q0 : (K == 0) = false := by simpa using e0
      have q2 : (K2 == 2) = false := by simpa using e2
      have q3 : K ≤ 20 := by omega
      clear h hG h1 hvv hv hI hg HI e0 e2 hn s0 s1 HF
      go_enter Tryz.func134, Tryz.ntmps134
      go_wp2_with fail
      refine HV.out.mono ?_
      rintro e w2 ⟨rfl, hb⟩
      have c1 := C1.out _ hb
      have c0 := C0.out _ hb
      have c5 := C5.out _ hb
      have HD2 := Lib.hid (HD.out _ hb)
      have HB := Lib.hid hb
      go_wp2_with fail
      refine (HA.out _ hb).mono ?_
      rintro e w3 ⟨rfl, rfl⟩
      clear C1 C0 C5 HA HD hb
      go_wp2_with fail
      refine HD2.out.mono ?_
      rintro e w4 ⟨rfl, qo4, pl4, tag4, h4, hs4, hp4⟩
      obtain ⟨z1, z2, z3⟩ := HM.out w4 qo4 pl4 tag4 h4 ((Stp.below HB.out).trans hs4) hp4
      have HZ := Lib.hid z3
      clear c0 c1 c5 h4 hs4 hp4 z3 HM HD2
      go_wp2_with fail
      go_ret
      exact HZ.out
 ·have hv := Lib.hid (show S.link d s i = (S.vacant d s, S) by unfold BS.link; rw [if_pos h1])
  have hvv : vacV S pl d s = .tuple #[.pointer none, .int .i64 (S.vacant d s)] := by unfold vacV; rw [if_neg h1]
  rw [hvv] at HV
  rw [hv.out]
  generalize S.vacant d s = x at *
  have hx : (x != 0) = true := by simpa using h1
  clear h hG h1 hvv hv
  go_enter Tryz.func134, Tryz.ntmps134
  go_wp2_with fail
  refine HV.out.mono ?_
  rintro e w2 ⟨rfl, hb⟩
  go_wp2_with fail
  go_ret
  exact HF.out _ _ hb
end
section
variable {w w' : World} {P lo st qb room T : Nat} {qo : Option Nat} {pl : Nat → Pl} {tag : Nat → Nat} {S : BS} {L : List KN}
theorem freeL_upd {S : BS} {k : Nat} {x : Ino} {u : Nat} (h : x.kind = (S.ino k).kind) : freeL ⟨upd S.ino k x, u⟩ = freeL S := freeL_same fun j => by
 show (upd _ _ _ j).kind = _
 by_cases e : j = k
 ·subst e; rw [upd_same, h]
 ·rw [upd_other _ _ e]
theorem RetG.step {S' : BS} {v : Value} {T' : Nat} (h : CB w' P lo st qb qo pl tag S' room (freeL S) T') (hs : Stp w w' tag tag) (hf : freeL S' = freeL S) (hT : T' ≤ T + 1) : RetG w P lo st qb tag v S' room T (.returned v) w' :=
 ⟨rfl, qo, pl, tag, T', hT, by rw [hf]; exact h, hs⟩
theorem hold_any (h : CB w P lo st qb qo pl tag S room (freeL S) T) (hG : br.Good S room) (hh : ∀ k, (S.ino k).holds ≤ 900000) (i : Int) :
  Calls Tryz.prog 163 #[Pq P, .int .i64 i] w (RetG w P lo st qb tag (.int .i64 (S.hold i).1) (S.hold i).2 room T) := by
 have HA := Lib.hid (at_any h hG.z0 i)
 rcases isI_cases S i with hI | ⟨I, rfl, i1, i2, hn, hI⟩
 ·rw [atV_no hI] at HA
  have hv := Lib.hid (show S.hold i = (2, S) by unfold BS.hold; rw [if_pos hI])
  rw [hv.out]
  have HF := Lib.hid (RetG.same h (.int .i64 2) (Below.refl _ _))
  clear h hG hv hI hh
  go_enter Tryz.func163, Tryz.ntmps163
  go_wp2_with fail
  refine HA.out.mono ?_
  rintro e w3 ⟨rfl, rfl⟩
  go_wp2_with fail
  go_ret
  exact HF.out
 ·rw [atV_yes i1 i2 hn] at HA
  have hi := h.ino I i2 hn
  have c2 := hi.c2
  have f2 := hi.f 2
  have hv := Lib.hid (show S.hold (I : Int) = (0, ⟨upd S.ino I { S.ino I with holds := (S.ino I).holds + 1 }, S.used⟩) by unfold BS.hold; rw [if_neg (by rw [hI]; decide), at_nat]; rfl)
  rw [hv.out]
  have h2 := h.holds i2 hn ((S.ino I).holds + 1)
  have HF := Lib.hid (RetG.step (v := .int .i64 0) h2.1 h2.2 (freeL_upd rfl) (Nat.le_succ T))
  have h0 := (hG.1.nums I).2
  have h9 := hh I
  dsimp only
  generalize BS.mk (upd S.ino I { S.ino I with holds := (S.ino I).holds + 1 }) S.used = S2 at *
  generalize (pl I).nd = M at *
  generalize (S.ino I).holds = K at *
  clear h hG hv hI hh h2 hi hn
  go_enter Tryz.func163, Tryz.ntmps163
  go_wp2_with fail
  refine HA.out.mono ?_
  rintro e w3 ⟨rfl, rfl⟩
  go_wp2_with fail
  go_ret
  exact HF.out
theorem release_end {I : Nat} (h : CB w P lo st qb qo pl tag S room (freeL S) T) (hG : br.Good S room) (hr : room ≤ 65536) (hT : T ≤ 900000) (i1 : 1 ≤ I) (i2 : I ≤ 200) (hn : (S.ino I).kind ≠ 0) (h0 : (S.ino I).holds ≠ 0) :
  Calls Tryz.prog 166 #[Pq P, .int .i64 (I : Int)] (w.setCell ⟨(pl I).nd, 2, none⟩ (.int .i64 ((S.ino I).holds - 1))) (RetG w P lo st qb tag (.tuple #[]) (S.less (I : Int) 0 1) room T) := by
 have hb := Good_body hG I
 have hu : S.used ≤ 65536 := Nat.le_trans hG.1.room hr
 have hnum := hG.1.nums I
 obtain ⟨h2, hs2⟩ := h.holds i2 hn ((S.ino I).holds - 1)
 have e2 : (BS.ino ⟨upd S.ino I { S.ino I with holds := (S.ino I).holds - 1 }, S.used⟩ I) = { S.ino I with holds := (S.ino I).holds - 1 } := upd_same _ _ _
 have eS := settS_less S I 0 1 (x := { S.ino I with holds := (S.ino I).holds - 1 }) (by rw [Int.sub_zero])
 have hk2 : freeL ⟨upd S.ino I { S.ino I with holds := (S.ino I).holds - 1 }, S.used⟩ = freeL S := freeL_upd rfl
 have eu : (BS.mk (upd S.ino I { S.ino I with holds := (S.ino I).holds - 1 }) S.used).used = S.used := rfl
 generalize BS.mk (upd S.ino I { S.ino I with holds := (S.ino I).holds - 1 }) S.used = S2 at *
 have hx := settle_any h2 (k := I) i2 (by rw [e2]; exact hn) (by rw [e2]; exact hnum.1) (by rw [e2]; dsimp only; omega) (by rw [e2]; exact hb.2) (by rw [e2, eu]; exact hb.1) (by rw [eu]; exact hu) hT
 rw [← hk2, settL_free i1 i2 (by rw [e2]; exact hn), eS] at hx
 exact hx.mono fun e w2 ⟨he, qo', pl', tag', k1, k2, k3⟩ => ⟨he, qo', pl', tag', _, settT_le S2 I T, k1, hs2.trans k2⟩
theorem release_any (h : CB w P lo st qb qo pl tag S room (freeL S) T) (hG : br.Good S room) (hr : room ≤ 65536) (hT : T ≤ 900000) (hh : ∀ k, (S.ino k).holds ≤ 900000) (i : Int) :
  Calls Tryz.prog 119 #[Pq P, .int .i64 i] w (RetG w P lo st qb tag (.int .i64 (S.release i).1) (S.release i).2 room T) := by
 have HA := Lib.hid (at_any h hG.z0 i)
 rcases isI_cases S i with hI | ⟨I, rfl, i1, i2, hn, hI⟩
 ·rw [atV_no hI] at HA
  have hv := Lib.hid (show S.release i = (2, S) by unfold BS.release; rw [if_pos hI])
  rw [hv.out]
  have HF := Lib.hid (RetG.same h (.int .i64 2) (Below.refl _ _))
  clear h hG hv hI hh
  go_enter Tryz.func119, Tryz.ntmps119
  go_wp2_with fail
  refine HA.out.mono ?_
  rintro e w3 ⟨rfl, rfl⟩
  go_wp2_with fail
  go_ret
  exact HF.out
 ·rw [atV_yes i1 i2 hn] at HA
  have hi := h.ino I i2 hn
  have c2 := hi.c2
  have f2 := hi.f 2
  by_cases h0 : (S.ino I).holds = 0
  ·have hv := Lib.hid (show S.release (I : Int) = (22, S) by unfold BS.release; rw [if_neg (by rw [hI]; decide), if_pos (by rw [at_nat]; exact h0)])
   rw [hv.out]
   have HF := Lib.hid (RetG.same h (.int .i64 22) (Below.refl _ _))
   rw [h0] at c2
   generalize (pl I).nd = M at *
   clear h hG hv hI hh hi hn h0
   go_enter Tryz.func119, Tryz.ntmps119
   go_wp2_with fail
   refine HA.out.mono ?_
   rintro e w3 ⟨rfl, rfl⟩
   go_wp2_with fail
   go_ret
   exact HF.out
  ·have hv := Lib.hid (show S.release (I : Int) = (0, S.less (I : Int) 0 1) by unfold BS.release; rw [if_neg (by rw [hI]; decide), if_neg (by rw [at_nat]; exact h0)])
   rw [hv.out]
   have HE := Lib.hid (release_end h hG hr hT i1 i2 hn h0)
   have hn0 := (hG.1.nums I).2
   have h9 := hh I
   generalize S.less (I : Int) 0 1 = S2 at *
   generalize (pl I).nd = M at *
   generalize (S.ino I).holds = K at *
   have q0 : (K == 0) = false := by simpa using h0
   clear h hG hv hI hh hi hn
   go_enter Tryz.func119, Tryz.ntmps119
   go_wp2_with fail
   refine HA.out.mono ?_
   rintro e w3 ⟨rfl, rfl⟩
   go_wp2_with fail
   refine HE.out.mono ?_
   rintro e w4 ⟨rfl, hx⟩
   go_wp2_with fail
   go_ret
   exact ⟨rfl, hx⟩
theorem cut_any (h : CB w P lo st qb qo pl tag S room (freeL S) T) (hG : br.Good S room) (hr : room ≤ 65536) (i off : Int) :
  Calls Tryz.prog 116 #[Pq P, .int .i64 i, .int .i64 off] w (RetG w P lo st qb tag (.int .i64 (S.cutI i off).1) (S.cutI i off).2 room T) := by
 have HB := Lib.hid (body_any h hG i)
 by_cases h1 : S.fileE i = 0
 ·obtain ⟨I, rfl, i1, i2, hk⟩ := fileE_ok h1
  have hb : bodV S pl (I : Int) = .tuple #[Pq (pl I).bo, .int .i64 0] := by unfold bodV; rw [if_pos h1, h1]; rfl
  rw [hb] at HB
  have HC := Lib.hid (h.bcut i2 hk (Good_body hG I).1 (Nat.le_trans hG.1.room hr) off)
  have c0 := h.c0
  have hv := Lib.hid (show S.cutI (I : Int) off = (cutR off, ⟨upd S.ino I { S.ino I with body := cut (S.ino I).body off }, S.used + (cut (S.ino I).body off).n - (S.ino I).body.n⟩) by unfold BS.cutI; rw [if_neg (by omega), at_nat]; rfl)
  have hf := Lib.hid (show freeL ⟨upd S.ino I { S.ino I with body := cut (S.ino I).body off }, S.used + (cut (S.ino I).body off).n - (S.ino I).body.n⟩ = freeL S from freeL_upd rfl)
  rw [hv.out]
  dsimp only
  generalize BS.mk (upd S.ino I { S.ino I with body := cut (S.ino I).body off }) (S.used + (cut (S.ino I).body off).n - (S.ino I).body.n) = S2 at *
  generalize cutR off = r at *
  generalize (pl I).bo = M at *
  clear h hG hv h1 hb hk
  go_enter Tryz.func116, Tryz.ntmps116
  go_wp2_with fail
  refine HB.out.mono ?_
  rintro e w3 ⟨rfl, rfl⟩
  go_wp2_with fail
  refine HC.out.mono ?_
  rintro e w4 ⟨rfl, hx, hs⟩
  clear c0
  go_wp2_with fail
  go_ret
  exact RetG.step hx hs hf.out (Nat.le_succ T)
 ·have hv := Lib.hid (show S.cutI i off = (S.fileE i, S) by unfold BS.cutI; rw [if_pos h1])
  have hb : bodV S pl i = .tuple #[.pointer none, .int .i64 (S.fileE i)] := by unfold bodV; rw [if_neg h1]
  rw [hb] at HB
  rw [hv.out]
  have HF := Lib.hid (RetG.same h (.int .i64 (S.fileE i)) (Below.refl _ _))
  dsimp only
  generalize S.fileE i = x at *
  have hx : (x != 0) = true := by simpa using h1
  clear h hG hv hb h1
  go_enter Tryz.func116, Tryz.ntmps116
  go_wp2_with fail
  refine HB.out.mono ?_
  rintro e w3 ⟨rfl, rfl⟩
  go_wp2_with fail
  go_ret
  exact HF.out
def WrI (S : BS) (room : Nat) (i off : Int) (len : Nat) (f : Nat → UInt8) (p : Nat) (err : Int) (S' : BS) : Prop :=
 (S.fileE i ≠ 0 ∧ p = 0 ∧ err = S.fileE i ∧ S' = S) ∨
 (S.fileE i = 0 ∧ WR (S.at i).body S.used room off len p err ∧ S.used + (wr (S.at i).body off p f).n - (S.at i).body.n ≤ room ∧ (wr (S.at i).body off p f).Ok ∧ S' = S.wrote i off p f)
theorem write_any (h : CB w P lo st qb qo pl tag S room (freeL S) T) (hG : br.Good S room) (hr : room ≤ 65536) (i off : Int) (A : Option Addr) (len dc : Nat) (f : Nat → UInt8) (hA : bl.BytesIn w (fun b => tag b ≠ 0) A len f) (hlc : len ≤ dc) (hdc : dc ≤ maxLen) :
  Calls Tryz.prog 169 #[Pq P, .int .i64 i, .int .i64 off, .slice A len dc] w (fun e w' => ∃ p err S', WrI S room i off len f p err S' ∧ RetG w P lo st qb tag (.tuple #[.int .i64 (p : Int), .int .i64 err]) S' room T e w') := by
 have HB := Lib.hid (body_any h hG i)
 by_cases h1 : S.fileE i = 0
 ·obtain ⟨I, rfl, i1, i2, hk⟩ := fileE_ok h1
  have hb : bodV S pl (I : Int) = .tuple #[Pq (pl I).bo, .int .i64 0] := by unfold bodV; rw [if_pos h1, h1]; rfl
  rw [hb] at HB
  have HC := Lib.hid (h.bwrite i2 hk (Good_body hG I).1 hG.1.room hr off A len dc f hA hlc hdc)
  have c0 := h.c0
  have hv := Lib.hid (show ∀ w4 p err, WR (S.ino I).body S.used room off len p err → S.used + (wr (S.ino I).body off p f).n - (S.ino I).body.n ≤ room → (wr (S.ino I).body off p f).Ok →
    CB w4 P lo st qb qo pl tag ⟨upd S.ino I { S.ino I with body := wr (S.ino I).body off p f }, S.used + (wr (S.ino I).body off p f).n - (S.ino I).body.n⟩ room (freeL S) T → Stp w w4 tag tag →
    ∃ p' err' S', WrI S room (I : Int) off len f p' err' S' ∧ RetG w P lo st qb tag (.tuple #[.int .i64 (p' : Int), .int .i64 err']) S' room T (.returned (.tuple #[.int .i64 (p : Int), .int .i64 err])) w4 from fun w4 p err k1 k2 k3 k4 k5 =>
   ⟨p, err, _, .inr ⟨h1, by rw [at_nat]; exact k1, by rw [at_nat]; exact k2, by rw [at_nat]; exact k3, by unfold BS.wrote; rw [at_nat, Int.toNat_natCast]⟩, RetG.step k4 k5 (freeL_upd rfl) (Nat.le_succ T)⟩)
  have hw : ∀ p : Nat, p ≤ 0 ∨ True := fun _ => .inr trivial
  generalize (pl I).bo = M at *
  clear h hG h1 hb hk hA hw
  go_enter Tryz.func169, Tryz.ntmps169
  go_wp2_with fail
  refine HB.out.mono ?_
  rintro e w3 ⟨rfl, rfl⟩
  go_wp2_with fail
  refine HC.out.mono ?_
  rintro e w4 ⟨p, err, rfl, k1, k2, k3, k4, k5⟩
  have HZ := Lib.hid (hv.out w4 p err k1 k2 k3 k4 k5)
  clear c0 k1 k2 k3 k4 k5 hv HC HB
  go_wp2_with fail
  go_ret2
  exact HZ.out
 ·have hb : bodV S pl i = .tuple #[.pointer none, .int .i64 (S.fileE i)] := by unfold bodV; rw [if_neg h1]
  rw [hb] at HB
  have HF := Lib.hid (show ∃ p err S', WrI S room i off len f p err S' ∧ RetG w P lo st qb tag (.tuple #[.int .i64 (p : Int), .int .i64 err]) S' room T (.returned (.tuple #[.int .i64 0, .int .i64 (S.fileE i)])) w from
   ⟨0, S.fileE i, S, .inl ⟨h1, rfl, rfl, rfl⟩, RetG.same h (.tuple #[.int .i64 0, .int .i64 (S.fileE i)]) (Below.refl _ _)⟩)
  unfold WrI at HF ⊢
  generalize S.fileE i = x at *
  have hx : (x != 0) = true := by simpa using h1
  clear h hG hb h1 hA
  go_enter Tryz.func169, Tryz.ntmps169
  go_wp2_with fail
  refine HB.out.mono ?_
  rintro e w3 ⟨rfl, rfl⟩
  go_wp2_with fail
  go_ret2
  exact HF.out
def readI (S : BS) (i off n : Int) : Int × Nat := if S.fileE i ≠ 0 then (S.fileE i, 0) else bl.readR (S.at i).body off n
def ReadI (w : World) (S : BS) (i off n : Int) (e : Ending) (w' : World) : Prop :=
 ∃ A c, e = .returned (.tuple #[.slice A (readI S i off n).2 c, .int .i64 (readI S i off n).1]) ∧ bl.Row w' w.heap.size A (readI S i off n).2 c (fun j => (S.at i).body.dat (off.toNat + j)) ∧ Below w.heap.size w w'
theorem read_any (h : CB w P lo st qb qo pl tag S room L T) (hG : br.Good S room) (i off n : Int) : Calls Tryz.prog 48 #[Pq P, .int .i64 i, .int .i64 off, .int .i64 n] w (ReadI w S i off n) := by
 have HB := Lib.hid (body_any h hG i)
 unfold ReadI
 by_cases h1 : S.fileE i = 0
 ·obtain ⟨I, rfl, i1, i2, hk⟩ := fileE_ok h1
  have hb : bodV S pl (I : Int) = .tuple #[Pq (pl I).bo, .int .i64 0] := by unfold bodV; rw [if_pos h1, h1]; rfl
  rw [hb] at HB
  have HC := Lib.hid (h.bread i2 hk off n)
  unfold bl.ReadE at HC
  have c0 := h.c0
  have hv : readI S (I : Int) off n = bl.readR (S.ino I).body off n := by unfold readI; rw [if_neg (by omega), at_nat]
  rw [hv, at_nat]
  generalize (bl.readR (S.ino I).body off n).1 = r1 at *
  generalize (bl.readR (S.ino I).body off n).2 = r2 at *
  generalize (fun j => (S.ino I).body.dat (off.toNat + j)) = ff at *
  generalize (pl I).bo = M at *
  clear h hG h1 hb hk hv
  go_enter Tryz.func48, Tryz.ntmps48
  go_wp2_with fail
  refine HB.out.mono ?_
  rintro e w3 ⟨rfl, rfl⟩
  go_wp2_with fail
  refine HC.out.mono ?_
  rintro e w4 ⟨A, c, rfl, k1, k2⟩
  clear c0
  go_wp2_with fail
  go_ret2
  exact ⟨A, c, rfl, k1, k2⟩
 ·have hb : bodV S pl i = .tuple #[.pointer none, .int .i64 (S.fileE i)] := by unfold bodV; rw [if_neg h1]
  rw [hb] at HB
  have hv : readI S i off n = (S.fileE i, 0) := by unfold readI; rw [if_pos h1]
  rw [hv]
  dsimp only
  generalize (fun j => (S.at i).body.dat (off.toNat + j)) = ff at *
  generalize S.fileE i = x at *
  have hx : (x != 0) = true := by simpa using h1
  clear h hG hb h1 hv
  go_enter Tryz.func48, Tryz.ntmps48
  go_wp2_with fail
  refine HB.out.mono ?_
  rintro e w3 ⟨rfl, rfl⟩
  go_wp2_with fail
  go_ret2
  exact ⟨none, 0, rfl, ⟨rfl, .inl ⟨rfl, rfl⟩⟩, Below.refl _ _⟩
end
end Go.Proofs.YtpmpbmjjlccbbaaGreat.cb
