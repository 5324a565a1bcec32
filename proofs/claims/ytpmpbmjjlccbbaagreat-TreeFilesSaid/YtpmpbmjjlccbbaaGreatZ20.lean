/- Part 20 of what is known of the program's functions and of the document's words: contracts, and the mathematics beneath them. -/
import Derived.Test.YtpmpbmjjlccbbaaGreatProg
import Derived.Test.YtpmpbmjjlccbbaaGreatZ19
import Derived.Maps.Own
import Derived.Maps.OwnOps
import Derived.Maps.Views
set_option linter.unusedVariables false
set_option linter.unusedSimpArgs false
set_option maxRecDepth 100000
set_option maxHeartbeats 8000000
namespace Go.Proofs.YtpmpbmjjlccbbaaGreat.cb
open Go.RowKit
open qu (KN ins QL)
open dn (Du En lget lset ldel getV nerr dotB Sorted RetV serr lsetE)
open bl (AB Bod BodC StoC Only Pq cut cutR wr WR)
open br
theorem new_no (room : Int) (w : World) (hr : room < 0 ∨ 65536 < room) : Calls Tryz.prog 13 #[.int .i64 room] w (fun e w' => e = .returned (.pointer none) ∧ w' = w) := by
 have HN := Lib.hid (bl.new_no room w hr)
 go_enter Tryz.func13, Tryz.ntmps13
 go_wp2_with fail
 refine HN.out.mono ?_
 rintro e w2 ⟨rfl, rfl⟩
 go_wp2_with fail
 go_ret
 exact ⟨rfl, rfl⟩
theorem zero203 : Tryz.zeroCells66 = (List.replicate 203 (Value.pointer none)).toArray := by kernel_rfl
theorem boxB_cell (w : World) (st qb j : Nat) {ob : Obj} (hob : ob = .cells ((Tryz.zeroCells66.setIfInBounds 0 (Pq st)).setIfInBounds 202 (Pq qb)) 66) (hj : j < 203) : (w.alloc ob).cell? ⟨w.heap.size, j, none⟩ = some (if j = 0 then Pq st else if j = 202 then Pq qb else .pointer none) := by
 subst hob
 have e : ((Tryz.zeroCells66.setIfInBounds 0 (Pq st)).setIfInBounds 202 (Pq qb))[j]? = some (if j = 0 then Pq st else if j = 202 then Pq qb else .pointer none) := by
  rw [zero203]
  generalize hr : (List.replicate 203 (Value.pointer none)).toArray = Z
  have hz : Z.size = 203 := by rw [← hr, List.size_toArray, List.length_replicate]
  have hg : Z[j]? = some (.pointer none) := by rw [← hr, List.getElem?_toArray, List.getElem?_replicate, if_pos hj]
  simp only [Array.getElem?_setIfInBounds, Array.size_setIfInBounds, hz]
  by_cases h0 : j = 0
  ·subst h0; simp
  ·by_cases h2 : j = 202
   ·subst h2; simp
   ·rw [if_neg (fun e => h2 e.symm), if_neg (fun e => h0 e.symm), if_neg h0, if_neg h2, hg]
 generalize ((Tryz.zeroCells66.setIfInBounds 0 (Pq st)).setIfInBounds 202 (Pq qb)) = Z at *
 simp [e]
def nilB : BS := ⟨fun _ => Ino.nil, 0⟩
theorem CB.start {w3 : World} {st qb lo room : Nat} {ob : Obj} (hob : ob = .cells ((Tryz.zeroCells66.setIfInBounds 0 (Pq st)).setIfInBounds 202 (Pq qb)) 66) (hs : StoC w3 st room 0) (hq : QL w3 qb lo none [] 0) (h1 : lo ≤ st) (h2 : lo ≤ qb) (h3 : st ≠ qb) (h4 : st < w3.heap.size) (pl : Nat → Pl) :
  CB (w3.alloc ob) w3.heap.size lo st qb none pl (fun b => if b = w3.heap.size then 1 else if b = st then 2 else if b = qb then 3 else 0) nilB room [] 0 := by
 have hql := QL.lt hq
 have hb := dn.below_alloc w3 ob
 refine ⟨boxB_cell w3 st qb 0 hob (by decide), fun k hk => ?_, boxB_cell w3 st qb 202 hob (by decide), fun j => ?_, StoC.keep hs (hb.block _ h4), QL.keep hq (hb.block _ hql) (fun G e => nomatch e), fun k hk hn => absurd rfl hn, if_pos rfl, ?_, ?_, (fun G e => nomatch e), fun k hk hn => absurd rfl hn, fun b hb' => ?_, fun b hb' => ?_⟩
 ·rw [boxB_cell w3 st qb (1 + k) hob (by omega), if_neg (by omega), if_neg (by omega)]; rfl
 ·subst hob; generalize ((Tryz.zeroCells66.setIfInBounds 0 (Pq st)).setIfInBounds 202 (Pq qb)) = Z; simp
 ·rw [if_neg (by omega), if_pos rfl]
 ·rw [if_neg (by omega), if_neg (fun e => h3 e.symm), if_pos rfl]
 ·rw [if_neg (by omega), if_neg (by omega), if_neg (by omega)]
 ·have : (w3.alloc ob).heap.size = w3.heap.size + 1 := World.size_alloc _ _
  rw [if_neg (by omega), if_neg (by omega), if_neg (by omega)]
theorem fresh_eq : fresh = ⟨upd nilB.ino 1 (newI 2 1 ⟨#[]⟩), nilB.used⟩ := rfl
def upto (k : Nat) : Nat → Bool := fun j => decide (2 ≤ j ∧ j < k)
theorem upto_two : fl (upto 2) 1 200 = [] := by
 cases h : fl (upto 2) 1 200 with
 | nil => rfl
 | cons x r =>
  obtain ⟨j, _, _, _, h4, _⟩ := fl_cons h
  unfold upto at h4; simp at h4; omega
theorem upto_next {k : Nat} (h1 : 2 ≤ k) (h2 : k ≤ 200) : ins (kk k) (fl (upto k) 1 200) = fl (upto (k + 1)) 1 200 := by
 rw [fl_ins (by omega) (by omega) (by unfold upto; simp)]
 exact fl_congr fun j _ _ => by
  unfold setB upto
  by_cases e : j = k
  ·subst e; simp; omega
  ·rw [if_neg e]
   by_cases e2 : 2 ≤ j ∧ j < k
   ·rw [decide_eq_true e2, decide_eq_true (by omega)]
   ·rw [decide_eq_false e2, decide_eq_false (by omega)]
theorem upto_all : fl (upto 201) 1 200 = freeL fresh := by
 refine freeL_of fun j h1 h2 => ?_
 unfold upto zf
 rw [fresh_ino]
 by_cases e : j = 1
 ·subst e; simp
 ·rw [if_neg e]; simp [Ino.nil]; omega
def NewE (w : World) (lo room : Nat) (e : Ending) (w' : World) : Prop :=
 ∃ P st qb qo pl tag, e = .returned (Pq P) ∧ CB w' P lo st qb qo pl tag fresh room (freeL fresh) 199 ∧ (∀ b, b < w.heap.size → tag b = 0) ∧ Below w.heap.size w w' ∧ w.heap.size ≤ P
def MidN (w : World) (P lo st qb room k : Nat) (wr : World) : Prop :=
 ∃ qo pl tag, CB wr P lo st qb qo pl tag fresh room (fl (upto k) 1 200) (k - 2) ∧ (∀ b, b < w.heap.size → tag b = 0) ∧ Below w.heap.size w wr
theorem MidN.push {w wr : World} {P lo st qb room k : Nat} (h : MidN w P lo st qb room k wr) (h1 : 2 ≤ k) (h2 : k ≤ 200) :
  wr.cell? ⟨P, 202, none⟩ = some (Pq qb) ∧ Calls Tryz.prog 28 #[Pq qb, .int .i64 (k : Int), .int .i64 (k : Int)] wr (fun e w' => e = .returned (.tuple #[]) ∧ MidN w P lo st qb room (k + 1) w') := by
 obtain ⟨qo, pl, tag, h, ht, hb⟩ := h
 refine ⟨h.cq, (h.qpush (by omega) (k : Int) (k : Int)).mono ?_⟩
 rintro e w' ⟨he, qo', pl', tag', k1, k2, k3⟩
 rw [upto_next h1 h2, show k - 2 + 1 = k + 1 - 2 by omega] at k1
 refine ⟨he, qo', pl', tag', k1, fun b hb' => by rw [k2.tg b (Nat.lt_of_lt_of_le hb' hb.size)]; exact ht b hb', hb.trans ⟨k2.o.os, k2.o.tape, k2.o.output, k2.o.size, fun j hj => k2.o.block j (Nat.lt_of_lt_of_le hj hb.size) (by rw [ht j hj]; simp)⟩⟩
theorem new_born {w w4 w5 : World} {P lo st qb room : Nat} {pl : Nat → Pl} {tag : Nat → Nat} {p : Pl} (h : CB w4 P lo st qb none pl tag nilB room [] 0) (ht : ∀ b, b < w.heap.size → tag b = 0) (hw : Below w.heap.size w w4) (hb : Below w4.heap.size w4 w5) (hx : InoC w5 st lo p (newI 2 1 ⟨#[]⟩)) (b1 : w4.heap.size ≤ p.nd) (b3 : w4.heap.size ≤ p.di ∧ p.di ≠ p.nd ∧ p.dr = none) (hP : w.heap.size ≤ P) :
  w5.cell? ⟨P, 2, none⟩ = some (.pointer none) ∧ w5.frozen? ⟨P, 2, none⟩ = false ∧ MidN w P lo st qb room 2 (w5.setCell ⟨P, 2, none⟩ (Pq p.nd)) := by
 obtain ⟨tag', h1, h2⟩ := h.born (k := 1) (by decide) (p := p) (x := newI 2 1 ⟨#[]⟩) rfl (by show (2 : Int) ≠ 0; decide) hb hx b1 (fun e => by cases e) (fun _ => b3)
 rw [← fresh_eq, ← upto_two] at h1
 refine ⟨(hb.cell (p := ⟨P, 2, none⟩) h.plt.1).trans (h.ci 1 (by decide)), (hb.frozen (p := ⟨P, 2, none⟩) h.plt.1).trans (h.cf 2), none, _, tag', h1, fun b hb' => ?_, (hw.trans (hb.mono hw.size)).setCell hP _⟩
 rw [h2 b (Nat.lt_of_lt_of_le hb' hw.size)]; exact ht b hb'
theorem new_yes (room lo : Nat) (w : World) (hr : room ≤ 65536) (hlo : lo ≤ w.heap.size) : Calls Tryz.prog 13 #[.int .i64 (room : Int)] w (NewE w lo room) := by
 have HN := Lib.hid (bl.new_yes room w hr)
 have HQ := Lib.hid (fun w' (hlo : lo ≤ w'.heap.size) => qu.lnew w' lo hlo)
 have HLO := Lib.hid hlo
 go_enter Tryz.func13, Tryz.ntmps13
 go_wp2_with fail
 refine HN.out.mono ?_
 rintro e w2 ⟨rfl, rfl⟩
 go_wp2_with fail
 refine (HQ.out _ (by have := HLO.out; simp; omega)).mono ?_
 rintro e w3 ⟨rfl, q1, q2⟩
 have hz : (w.alloc (.cells #[.int .i64 (room : Int), .int .i64 0] 121)).heap.size = w.heap.size + 1 := World.size_alloc _ _
 rw [hz] at q1 q2
 have hl3 := QL.lt q1
 have hsto : StoC w3 w.heap.size room 0 := StoC.keep (w := w.alloc (.cells #[.int .i64 (room : Int), .int .i64 0] 121)) ⟨by simp, by simp, by simp⟩ (q2.block _ (by omega))
 have hw3 : Below w.heap.size w w3 := (dn.below_alloc w _).trans (q2.mono (by omega))
 have HS := Lib.hid (fun ob hob => CB.start (ob := ob) hob hsto q1 HLO.out (by have := HLO.out; omega) (by omega) (by omega) (fun _ => ⟨0, 0, 0, 0, none, 0⟩))
 have HBK := Lib.hid (fun ob hob => blank_any w3.heap.size w.heap.size lo (w3.alloc ob).drew (HS.out ob hob).c0 (HS.out ob hob).plt.1 (by have := (HS.out ob hob).plt; show lo ≤ (w3.alloc ob).heap.size; omega) 2 1 ⟨#[]⟩)
 have HNB := Lib.hid (fun ob hob w5 p (hb : Below (w3.alloc ob).heap.size (w3.alloc ob) w5) hx b1 b3 => new_born (w := w) (w5 := w5) (p := p) (HS.out ob hob) (fun b hb => by rw [if_neg (by omega), if_neg (by omega), if_neg (by omega)]) (hw3.trans ((dn.below_alloc w3 ob).mono (by omega))) hb hx b1 b3 (by omega))
 have hP3 : w.heap.size ≤ w3.heap.size := by omega
 generalize hst : w.heap.size = st at *
 clear q1 q2 hsto HS hz hw3 HN HQ
 go_wp2_with fail
 go_region_held3 (fun w' => True)
  (first | trivial | assumption | go_keep)
  (first
  | (go_at_call 27; ((with_reducible refine (HBK.out _ rfl).mono ?_); rintro e w5 ⟨p, rfl, hb5, hx5, b1, _, b3⟩; obtain ⟨z1, z2, z3⟩ := HNB.out _ rfl w5 p ((Below.refl _ _).drew.trans hb5) hx5 b1 (b3 rfl))))
 all_goals
  have HZ := Lib.hid z3
  clear z1 z2 z3 hb5 hx5 b1 b3 HBK HNB
  have HPP := Lib.hid hP3
  generalize hP : w3.heap.size = P at *
  generalize hW : w5.setCell ⟨P, 2, none⟩ (Pq p.nd) = w6 at *
  clear hW hP hl3 hP3
  go_wp2_with fail
  go_loopg [5] 199 (fun g s5 wr => ∃ k : Nat, g + k = 201 ∧ 2 ≤ k ∧ s5 = .int .i64 k ∧ Hid (MidN w P lo st (st + 1) room k wr))
  case atStart => exact ⟨2, by omega, by omega, rfl, HZ⟩
  case round =>
   obtain ⟨k, hg, hk2, rfl, HK⟩ := hrel
   by_cases hk : k ≤ 200
   ·obtain ⟨c0, hq⟩ := HK.out.push hk2 hk
    have HQ := Lib.hid hq
    clear hq HK
    go_wp2_with fail
    refine HQ.out.mono ?_
    rintro e w7 ⟨rfl, hx⟩
    have HX := Lib.hid hx
    clear hx c0
    go_wp2_with fail
    go_roundg (gk - 1)
    case measure => omega
    case rel => exact ⟨k + 1, by omega, by omega, by go_num, HX⟩
   ·have hkk : k = 201 := by omega
    have HE := Lib.hid (show NewE w lo room (.returned (Pq P)) wr by
     obtain ⟨qo, pl, tag, h, ht, hb⟩ := HK.out
     subst hkk
     rw [upto_all] at h
     exact ⟨P, st, st + 1, qo, pl, tag, rfl, h, ht, hb, by rw [hst]; exact HPP.out⟩)
    have hn : ¬ ((k : Int) ≤ 200) := by omega
    clear HK hkk hk
    go_wp2_with fail
    go_ret
    exact HE.out
end Go.Proofs.YtpmpbmjjlccbbaaGreat.cb
namespace Go.Proofs.YtpmpbmjjlccbbaaGreat.cb
open Go.RowKit
open qu (KN ins QL)
open dn (Du En lget lset ldel getV nerr dotB Sorted RetV)
open bl (AB Bod BodC StoC Only Pq cut cutR wr WR U8)
open br
def HB (S : BS) (n : Int) : Prop := ∀ k, (S.ino k).holds ≤ n
theorem HB.upd {S : BS} {n : Int} (h : HB S n) {k : Nat} {x : Ino} {u : Nat} (hx : x.holds ≤ n) : HB ⟨upd S.ino k x, u⟩ n := fun j => by
 show (br.upd S.ino k x j).holds ≤ n
 by_cases e : j = k
 ·subst e; rw [upd_same]; exact hx
 ·rw [upd_other _ _ e]; exact h j
theorem HB.put {S : BS} {n : Int} (h : HB S n) {i : Int} {x : Ino} (hx : x.holds ≤ n) : HB (S.put i x) n := h.upd hx
theorem HB.putDir {S : BS} {n : Int} (h : HB S n) (d : Int) (L : List En) : HB (S.putDir d L) n := h.upd (h d.toNat)
theorem HB.less {S : BS} {n : Int} (h : HB S n) (i : Int) (dl dh : Int) (h0 : 0 ≤ dh) (hn : 0 ≤ n) : HB (S.less i dl dh) n := by
 unfold BS.less
 dsimp only
 split
 ·exact h.upd (by show (0 : Int) ≤ n; exact hn)
 ·exact h.upd (by show (S.at i).holds - dh ≤ n; have : (S.at i).holds ≤ n := h i.toNat; omega)
theorem HB.make {S : BS} {n : Int} (h : HB S n) (hn : 0 ≤ n) (d : Int) (s : ByteArray) (k : Int) (t : ByteArray) : HB (S.make d s k t).2 n := by
 unfold BS.make
 split
 ·exact h
 ·split
  ·exact h
  ·dsimp only
   split
   ·exact h
   ·exact (h.put (by exact hn)).putDir _ _
theorem HB.link {S : BS} {n : Int} (h : HB S n) (d : Int) (s : ByteArray) (i : Int) : HB (S.link d s i).2 n := by
 unfold BS.link
 split
 ·exact h
 ·split
  ·exact h
  ·split
   ·exact h
   ·split
    ·exact h
    ·exact (h.put (by exact h i.toNat)).putDir _ _
theorem HB.drop {S : BS} {n : Int} (h : HB S n) (hn : 0 ≤ n) (d : Int) (s : ByteArray) (i : Int) : HB (S.drop d s i) n := (h.putDir _ _).less _ _ _ (by decide) hn
theorem HB.unlink {S : BS} {n : Int} (h : HB S n) (hn : 0 ≤ n) (d : Int) (s : ByteArray) : HB (S.unlink d s).2 n := by
 unfold BS.unlink
 split
 ·exact h
 ·split
  ·exact h
  ·split
   ·exact h
   ·exact h.drop hn _ _ _
theorem HB.rmdir {S : BS} {n : Int} (h : HB S n) (hn : 0 ≤ n) (d : Int) (s : ByteArray) : HB (S.rmdir d s).2 n := by
 unfold BS.rmdir
 split
 ·exact h
 ·split
  ·exact h
  ·split
   ·exact h
   ·split
    ·exact h
    ·exact h.drop hn _ _ _
theorem HB.move {S : BS} {n : Int} (h : HB S n) (d : Int) (s : ByteArray) (t : Int) (u : ByteArray) (i : Int) : HB (S.move d s t u i) n := by
 unfold BS.move
 dsimp only
 split
 ·exact ((h.putDir _ _).putDir _ _).put (by exact (((h.putDir _ _).putDir _ _) i.toNat))
 ·exact (h.putDir _ _).putDir _ _
theorem HB.rename {S : BS} {n : Int} (h : HB S n) (hn : 0 ≤ n) (d : Int) (s : ByteArray) (t : Int) (u : ByteArray) : HB (S.rename d s t u).2 n := by
 unfold BS.rename
 split
 ·exact h
 ·split
  ·exact h
  ·split
   ·exact h
   ·split
    ·exact h
    ·dsimp only
     split
     ·exact h
     ·split
      ·exact h.move _ _ _ _ _
      ·split
       ·exact h
       ·split
        ·exact h
        ·split
         ·exact h
         ·split
          ·exact h
          ·exact (h.drop hn _ _ _).move _ _ _ _ _
theorem HB.hold {S : BS} {n : Int} (h : HB S n) (i : Int) : HB (S.hold i).2 (n + 1) := by
 have h' : HB S (n + 1) := fun k => by have := h k; omega
 unfold BS.hold
 split
 ·exact h'
 ·exact h'.put (by show (S.at i).holds + 1 ≤ n + 1; have : (S.at i).holds ≤ n := h i.toNat; omega)
theorem HB.release {S : BS} {n : Int} (h : HB S n) (hn : 0 ≤ n) (i : Int) : HB (S.release i).2 n := by
 unfold BS.release
 split
 ·exact h
 ·split
  ·exact h
  ·exact h.less _ _ _ (by decide) hn
theorem HB.cutI {S : BS} {n : Int} (h : HB S n) (i off : Int) : HB (S.cutI i off).2 n := by
 unfold BS.cutI
 split
 ·exact h
 ·exact h.upd (by exact h i.toNat)
theorem HB.wrote {S : BS} {n : Int} (h : HB S n) (i off : Int) (p : Nat) (f : Nat → UInt8) : HB (S.wrote i off p f) n := h.upd (by exact h i.toNat)
theorem HB.mono {S : BS} {n m : Int} (h : HB S n) (hm : n ≤ m) : HB S m := fun k => by have := h k; omega
theorem HB.fresh : HB fresh 0 := fun k => by rw [fresh_ino]; split <;> exact Int.le_refl _
theorem cut_ok {b : AB} (h : b.Ok) (off : Int) : (cut b off).Ok := by
 unfold cut
 split
 ·refine ⟨by show off.toNat ≤ 65536; omega, fun k hk => ?_, fun i hi => ?_⟩
  ·have : (b.th k && decide (16 * k < off.toNat)) = true := hk
   simp only [Bool.and_eq_true, decide_eq_true_eq] at this
   exact this.2
  ·show (if i < off.toNat then b.dat i else 0) = 0
   rw [if_neg (by have : off.toNat ≤ i := hi; omega)]
 ·exact h
theorem Good_cutI {S : BS} {room : Nat} (h : br.Good S room) (i off : Int) : br.Good (S.cutI i off).2 room := by
 unfold BS.cutI
 by_cases h1 : S.fileE i = 0
 ·rw [if_neg (by omega)]
  obtain ⟨I, rfl, i1, i2, hk⟩ := fileE_ok h1
  have hb := h.1.body I
  have hn := bl.cut_n (S.ino I).body off
  have := (Good_body h I).1
  have hr := h.1.room
  show br.Good ⟨upd S.ino ((I : Int)).toNat { S.at (I : Int) with body := cut (S.at (I : Int)).body off }, _⟩ room
  rw [at_nat, Int.toNat_natCast]
  exact h.turn hk (cut_ok hb off) (by omega)
 ·rw [if_pos h1]; exact h
theorem Good_wr {S S' : BS} {room : Nat} {i off : Int} {len p : Nat} {f : Nat → UInt8} {err : Int} (h : br.Good S room) (hw : WrI S room i off len f p err S') : br.Good S' room := by
 rcases hw with ⟨_, _, _, rfl⟩ | ⟨h1, _, h3, h4, rfl⟩
 ·exact h
 ·obtain ⟨I, rfl, i1, i2, hk⟩ := fileE_ok h1
  unfold BS.wrote
  rw [at_nat] at h3 h4 ⊢
  rw [Int.toNat_natCast]
  exact h.turn hk h4 h3
def BrX (w0 w : World) (P : Nat) (X : Nat → Prop) (S : BS) (room T : Nat) : Prop :=
 ∃ st qb qo pl tag Tq, CB w P w0.heap.size st qb qo pl tag S room (freeL S) Tq ∧ Tq ≤ 199 + T ∧ br.Good S room ∧ room ≤ 65536 ∧ HB S T ∧ Below w0.heap.size w0 w ∧ ∀ b, X b → b < w.heap.size ∧ tag b = 0
abbrev Same (X : Nat → Prop) (w w' : World) : Prop := dn.Same X w w'
abbrev No : Nat → Prop := fun _ => False
section
variable {w0 w w' : World} {P room T : Nat} {X : Nat → Prop} {S : BS}
theorem BrX.bel (h : BrX w0 w P X S room T) : Below w0.heap.size w0 w := by obtain ⟨_, _, _, _, _, _, _, _, _, _, _, h, _⟩ := h; exact h
theorem BrX.good (h : BrX w0 w P X S room T) : br.Good S room := by obtain ⟨_, _, _, _, _, _, _, _, h, _⟩ := h; exact h
theorem BrX.below (h : BrX w0 w P X S room T) (hb : Below w.heap.size w w') : BrX w0 w' P X S room T := by
 obtain ⟨st, qb, qo, pl, tag, Tq, h1, h2, h3, h4, h5, h6, h7⟩ := h
 exact ⟨st, qb, qo, pl, tag, Tq, h1.below hb, h2, h3, h4, h5, h6.trans (hb.mono h6.size), fun b hx => ⟨Nat.lt_of_lt_of_le (h7 b hx).1 hb.size, (h7 b hx).2⟩⟩
theorem BrX.sub (h : BrX w0 w P X S room T) {Y : Nat → Prop} (hy : ∀ b, Y b → X b) : BrX w0 w P Y S room T := by
 obtain ⟨st, qb, qo, pl, tag, Tq, h1, h2, h3, h4, h5, h6, h7⟩ := h
 exact ⟨st, qb, qo, pl, tag, Tq, h1, h2, h3, h4, h5, h6, fun b hb => h7 b (hy b hb)⟩
theorem BrX.next {st qb : Nat} {qo : Option Nat} {pl : Nat → Pl} {tag : Nat → Nat} {Tq : Nat} {S' : BS} {v : Value} {e : Ending} (h1 : CB w P w0.heap.size st qb qo pl tag S room (freeL S) Tq) (h2 : Tq ≤ 199 + T) (h4 : room ≤ 65536) (h6 : Below w0.heap.size w0 w) (h7 : ∀ b, X b → b < w.heap.size ∧ tag b = 0)
  (hx : RetG w P w0.heap.size st qb tag v S' room Tq e w') (hG : br.Good S' room) (hH : HB S' ((T : Int) + 1)) : e = .returned v ∧ BrX w0 w' P X S' room (T + 1) ∧ Same X w w' := by
 obtain ⟨he, qo', pl', tag', T', hT, k1, k2⟩ := hx
 refine ⟨he, ⟨st, qb, qo', pl', tag', T', k1, by omega, hG, h4, by simpa using hH, ?_, fun b hb => ?_⟩, fun b hb => ?_⟩
 ·exact h6.trans ⟨k2.o.os, k2.o.tape, k2.o.output, k2.o.size, fun k hk => k2.o.block k (Nat.lt_of_lt_of_le hk h6.size) (by rw [h1.lo k hk]; simp)⟩
 ·exact ⟨Nat.lt_of_lt_of_le (h7 b hb).1 k2.o.size, by rw [k2.tg b (h7 b hb).1]; exact (h7 b hb).2⟩
 ·exact k2.o.block b (h7 b hb).1 (by rw [(h7 b hb).2]; simp)
theorem x_make (h : BrX w0 w P X S room T) (hT : T ≤ 1000) (d : Int) (s : ByteArray) (k : Int) (t : ByteArray) (hm : s.size ≤ 9223372036854775807) (hmt : t.size ≤ 9223372036854775807) :
  Calls Tryz.prog 128 #[Pq P, .int .i64 d, .string s, .int .i64 k, .string t] w (fun e w' => e = .returned (.tuple #[.int .i64 (S.make d s k t).1.1, .int .i64 (S.make d s k t).1.2]) ∧ BrX w0 w' P X (S.make d s k t).2 room (T + 1) ∧ Same X w w') := by
 obtain ⟨st, qb, qo, pl, tag, Tq, h1, h2, h3, h4, h5, h6, h7⟩ := h
 exact (make_any h1 h3 (by omega) d s k t hm hmt).mono fun _ _ hx => BrX.next h1 h2 h4 h6 h7 hx (h3.make d s k t) ((h5.make (by omega) d s k t).mono (by omega))
theorem x_link (h : BrX w0 w P X S room T) (d : Int) (s : ByteArray) (i : Int) (hm : s.size ≤ 9223372036854775807) :
  Calls Tryz.prog 134 #[Pq P, .int .i64 d, .string s, .int .i64 i] w (fun e w' => e = .returned (.int .i64 (S.link d s i).1) ∧ BrX w0 w' P X (S.link d s i).2 room (T + 1) ∧ Same X w w') := by
 obtain ⟨st, qb, qo, pl, tag, Tq, h1, h2, h3, h4, h5, h6, h7⟩ := h
 exact (link_any h1 h3 d s i hm).mono fun _ _ hx => BrX.next h1 h2 h4 h6 h7 hx (h3.link d s i) ((h5.link d s i).mono (by omega))
theorem x_unlink (h : BrX w0 w P X S room T) (hT : T ≤ 1000) (d : Int) (s : ByteArray) :
  Calls Tryz.prog 131 #[Pq P, .int .i64 d, .string s] w (fun e w' => e = .returned (.int .i64 (S.unlink d s).1) ∧ BrX w0 w' P X (S.unlink d s).2 room (T + 1) ∧ Same X w w') := by
 obtain ⟨st, qb, qo, pl, tag, Tq, h1, h2, h3, h4, h5, h6, h7⟩ := h
 exact (unlink_any h1 h3 h4 (by omega) d s).mono fun _ _ hx => BrX.next h1 h2 h4 h6 h7 (RetG.of hx) (h3.unlink d s) ((h5.unlink (by omega) d s).mono (by omega))
theorem x_rmdir (h : BrX w0 w P X S room T) (hT : T ≤ 1000) (d : Int) (s : ByteArray) :
  Calls Tryz.prog 129 #[Pq P, .int .i64 d, .string s] w (fun e w' => e = .returned (.int .i64 (S.rmdir d s).1) ∧ BrX w0 w' P X (S.rmdir d s).2 room (T + 1) ∧ Same X w w') := by
 obtain ⟨st, qb, qo, pl, tag, Tq, h1, h2, h3, h4, h5, h6, h7⟩ := h
 exact (rmdir_any h1 h3 h4 (by omega) d s).mono fun _ _ hx => BrX.next h1 h2 h4 h6 h7 (RetG.of hx) (h3.rmdir d s) ((h5.rmdir (by omega) d s).mono (by omega))
theorem x_rename (h : BrX w0 w P X S room T) (hT : T ≤ 1000) (d : Int) (s : ByteArray) (t : Int) (u : ByteArray) (hm : u.size ≤ 9223372036854775807) :
  Calls Tryz.prog 137 #[Pq P, .int .i64 d, .string s, .int .i64 t, .string u] w (fun e w' => e = .returned (.int .i64 (S.rename d s t u).1) ∧ BrX w0 w' P X (S.rename d s t u).2 room (T + 1) ∧ Same X w w') := by
 obtain ⟨st, qb, qo, pl, tag, Tq, h1, h2, h3, h4, h5, h6, h7⟩ := h
 exact (rename_any h1 h3 h4 (by omega) d s t u hm).mono fun _ _ hx => BrX.next h1 h2 h4 h6 h7 hx (h3.rename d s t u) ((h5.rename (by omega) d s t u).mono (by omega))
theorem x_cut (h : BrX w0 w P X S room T) (i off : Int) :
  Calls Tryz.prog 116 #[Pq P, .int .i64 i, .int .i64 off] w (fun e w' => e = .returned (.int .i64 (S.cutI i off).1) ∧ BrX w0 w' P X (S.cutI i off).2 room (T + 1) ∧ Same X w w') := by
 obtain ⟨st, qb, qo, pl, tag, Tq, h1, h2, h3, h4, h5, h6, h7⟩ := h
 exact (cut_any h1 h3 h4 i off).mono fun _ _ hx => BrX.next h1 h2 h4 h6 h7 hx (Good_cutI h3 i off) ((h5.cutI i off).mono (by omega))
theorem x_hold (h : BrX w0 w P X S room T) (hT : T ≤ 1000) (i : Int) :
  Calls Tryz.prog 163 #[Pq P, .int .i64 i] w (fun e w' => e = .returned (.int .i64 (S.hold i).1) ∧ BrX w0 w' P X (S.hold i).2 room (T + 1) ∧ Same X w w') := by
 obtain ⟨st, qb, qo, pl, tag, Tq, h1, h2, h3, h4, h5, h6, h7⟩ := h
 exact (hold_any h1 h3 (fun k => by have := h5 k; omega) i).mono fun _ _ hx => BrX.next h1 h2 h4 h6 h7 hx (h3.hold i) (h5.hold i)
theorem x_release (h : BrX w0 w P X S room T) (hT : T ≤ 1000) (i : Int) :
  Calls Tryz.prog 119 #[Pq P, .int .i64 i] w (fun e w' => e = .returned (.int .i64 (S.release i).1) ∧ BrX w0 w' P X (S.release i).2 room (T + 1) ∧ Same X w w') := by
 obtain ⟨st, qb, qo, pl, tag, Tq, h1, h2, h3, h4, h5, h6, h7⟩ := h
 exact (release_any h1 h3 h4 (by omega) (fun k => by have := h5 k; omega) i).mono fun _ _ hx => BrX.next h1 h2 h4 h6 h7 hx (h3.release i) ((h5.release (by omega) i).mono (by omega))
theorem x_write (h : BrX w0 w P X S room T) (i off : Int) (A : Option Addr) (len dc : Nat) (f : Nat → UInt8) (hA : ∀ j, j < len → ∃ b o, A = some ⟨b, o, none⟩ ∧ X b ∧ w.cell? ⟨b, o + j, none⟩ = some (U8 (f j))) (hlc : len ≤ dc) (hdc : dc ≤ maxLen) :
  Calls Tryz.prog 169 #[Pq P, .int .i64 i, .int .i64 off, .slice A len dc] w (fun e w' => ∃ p err S', WrI S room i off len f p err S' ∧ e = .returned (.tuple #[.int .i64 (p : Int), .int .i64 err]) ∧ BrX w0 w' P X S' room (T + 1) ∧ Same X w w') := by
 obtain ⟨st, qb, qo, pl, tag, Tq, h1, h2, h3, h4, h5, h6, h7⟩ := h
 refine (write_any h1 h3 h4 i off A len dc f (fun j hj => ?_) hlc hdc).mono fun _ _ ⟨p, err, S', hw, hx⟩ => ⟨p, err, S', hw, BrX.next h1 h2 h4 h6 h7 hx (Good_wr h3 hw) ?_⟩
 ·obtain ⟨b, o, e, hX, hc⟩ := hA j hj
  exact ⟨b, o, e, fun hn => hn (h7 b hX).2, (h7 b hX).1, hc⟩
 ·rcases hw with ⟨_, _, _, rfl⟩ | ⟨_, _, _, _, rfl⟩
  ·exact h5.mono (by omega)
  ·exact (h5.wrote i off p f).mono (by omega)
theorem x_read (h : BrX w0 w P X S room T) (i off n : Int) : Calls Tryz.prog 48 #[Pq P, .int .i64 i, .int .i64 off, .int .i64 n] w (ReadI w S i off n) := by
 obtain ⟨st, qb, qo, pl, tag, Tq, h1, h2, h3, _⟩ := h
 exact read_any h1 h3 i off n
theorem x_get (h : BrX w0 w P X S room T) (d : Int) (s : ByteArray) : Calls Tryz.prog 136 #[Pq P, .int .i64 d, .string s] w (RetW w (.tuple #[.int .i64 (S.get d s).1, .int .i64 (S.get d s).2])) := by
 obtain ⟨st, qb, qo, pl, tag, Tq, h1, h2, h3, _⟩ := h
 exact get_any h1 h3 d s
theorem x_kind (h : BrX w0 w P X S room T) (i : Int) : Calls Tryz.prog 132 #[Pq P, .int .i64 i] w (RetI w (S.kindOf i)) := by
 obtain ⟨st, qb, qo, pl, tag, Tq, h1, h2, h3, _⟩ := h
 exact kind_any h1 h3 i
theorem x_parent (h : BrX w0 w P X S room T) (i : Int) : Calls Tryz.prog 251 #[Pq P, .int .i64 i] w (RetI w (S.parentOf i)) := by
 obtain ⟨st, qb, qo, pl, tag, Tq, h1, h2, h3, _⟩ := h
 exact parent_any h1 h3 i
theorem x_stat (h : BrX w0 w P X S room T) (i : Int) : Calls Tryz.prog 47 #[Pq P, .int .i64 i] w (RetW w (statV S i)) := by
 obtain ⟨st, qb, qo, pl, tag, Tq, h1, h2, h3, _⟩ := h
 exact stat_any h1 h3 i
theorem x_target (h : BrX w0 w P X S room T) (i : Int) : Calls Tryz.prog 50 #[Pq P, .int .i64 i] w (fun e w' => e = .returned (.tuple #[.string (S.targetOf i).1, .int .i64 (S.targetOf i).2]) ∧ w' = w) := by
 obtain ⟨st, qb, qo, pl, tag, Tq, h1, h2, h3, _⟩ := h
 exact target_any h1 h3 i
theorem x_all (h : BrX w0 w P X S room T) (i : Int) : Calls Tryz.prog 51 #[Pq P, .int .i64 i] w (fun e w' => ∃ o c, e = .returned (.tuple #[.slice (dn.Ao o) (S.all i).1.length c, .int .i64 (S.all i).2]) ∧ (S.all i).1.length ≤ c ∧ c ≤ maxLen ∧ dn.Sl w' w.heap.size o c (S.all i).1 ∧ Below w.heap.size w w') := by
 obtain ⟨st, qb, qo, pl, tag, Tq, h1, h2, h3, _⟩ := h
 exact all_any h1 h3 i
theorem x_used (h : BrX w0 w P X S room T) : Calls Tryz.prog 45 #[Pq P] w (fun e w' => e = .returned (.int .i64 (S.used : Int)) ∧ w' = w) := by
 obtain ⟨st, qb, qo, pl, tag, Tq, h1, h2, h3, _⟩ := h
 exact used_any h1
theorem x_inodes (h : BrX w0 w P X S room T) : Calls Tryz.prog 23 #[Pq P] w (fun e w' => e = .returned (.int .i64 (S.count 200 : Int)) ∧ w' = w) := by
 obtain ⟨st, qb, qo, pl, tag, Tq, h1, h2, h3, _⟩ := h
 have hl := freeL_length S
 have := inodes_any h1 (freeL_le S)
 rw [show (200 - ((freeL S).length : Int)) = (S.count 200 : Int) by omega] at this
 exact this
theorem x_new (room : Nat) (hr : room ≤ 65536) (hb : Below w0.heap.size w0 w) : Calls Tryz.prog 13 #[.int .i64 (room : Int)] w (fun e w' => ∃ P, e = .returned (Pq P) ∧ BrX w0 w' P (fun b => b < w.heap.size) fresh room 0 ∧ Below w.heap.size w w' ∧ w.heap.size ≤ P) := by
 refine (new_yes room w0.heap.size w hr hb.size).mono ?_
 rintro e w' ⟨P, st, qb, qo, pl, tag, he, h1, h2, h3, h4⟩
 exact ⟨P, he, ⟨st, qb, qo, pl, tag, 199, h1, Nat.le_refl _, Good.fresh room, hr, HB.fresh, hb.trans (h3.mono hb.size), fun b hb' => ⟨Nat.lt_of_lt_of_le hb' h3.size, h2 b hb'⟩⟩, h3, h4⟩
end
end Go.Proofs.YtpmpbmjjlccbbaaGreat.cb
namespace Go.Proofs.YtpmpbmjjlccbbaaGreat.cb
open Go.RowKit
open br
open dn (En nerr lget lset ldel dotB Sorted lget_some lget_none ldel_mem ldel_sorted lset_mem lset_sorted)
theorem nerr_len {s : ByteArray} (h : nerr s.data.toList = 0) : 1 ≤ s.size ∧ s.size ≤ 60 := by
 unfold nerr at h
 have e : s.data.toList.length = s.size := Array.length_toList
 split at h
 ·cases h
 ·rename_i h0
  split at h
  ·cases h
  ·have : s.data.toList.length ≠ 0 := fun e0 => h0 (List.eq_nil_of_length_eq_zero e0)
   omega
end Go.Proofs.YtpmpbmjjlccbbaaGreat.cb
namespace Go.Proofs.YtpmpbmjjlccbbaaGreat.cb
open Go.RowKit
open br
open dn (En nerr lget lset ldel dotB Sorted lget_some lget_none ldel_mem ldel_sorted lset_mem lset_sorted)
open bl (AB Pq U8 wr wrB WR strF over)
theorem isI_of {S : BS} {I : Nat} (h1 : 1 ≤ I) (h2 : I ≤ 200) (hk : (S.ino I).kind ≠ 0) : S.isI (I : Int) = true := by
 unfold BS.isI
 rw [at_nat]
 simp only [decide_eq_true_eq]
 exact ⟨by omega, by omega, hk⟩
theorem kind_of {S : BS} {I : Nat} (h1 : 1 ≤ I) (h2 : I ≤ 200) : S.kindOf (I : Int) = (S.ino I).kind := by
 unfold BS.kindOf
 by_cases hk : (S.ino I).kind = 0
 ·rw [hk, if_neg (by unfold BS.isI; rw [at_nat]; simp [hk])]
 ·rw [if_pos (isI_of h1 h2 hk), at_nat]
end Go.Proofs.YtpmpbmjjlccbbaaGreat.cb
namespace Go.Proofs.YtpmpbmjjlccbbaaGreat.cb
open Go.RowKit
open Go.Maps (Keyed IsMap isMap_empty atKey_put_same atKey_put_other int_keyed keyOf_int_mk)
open br
open bl (Only Pq)
open dn (En)
theorem parent_of {S : BS} {I : Nat} (h1 : 1 ≤ I) (h2 : I ≤ 200) (hk : (S.ino I).kind ≠ 0) : S.parentOf (I : Int) = (S.ino I).parent := by
 unfold BS.parentOf
 rw [if_pos (isI_of h1 h2 hk), at_nat]
end Go.Proofs.YtpmpbmjjlccbbaaGreat.cb
